/- ParseBits of the reference -/
import Derived.Test.YtdimjagmecnldaaEp
namespace Go.Proofs.Ytdimjagmecnldaa
open Go.RowKit
set_option maxHeartbeats 2000000 in
theorem parseBitsR_any (s : ByteArray) (w : World) (hs : s.size ≤ 1000) :
    Calls Try.prog 13 #[.string s] w fun e w' => ∃ v, e = .returned (.tuple #[v, .int .i64 (parseErr s)]) ∧ GaveInts w (parseLen s) (textBit s) v w' := by
  by_cases h2 : 200 < s.size
  · have E := hide (show parseErr s = 8 from if_pos h2)
    have EL := hide (show parseLen s = 0 from if_neg (by rw [E.out]; decide))
    go_enter Try.func13, Try.ntmps13
    go_wp2_with fail
    go_ret2
    refine ⟨.slice none 0 0, by rw [E.out]; rfl, ?_⟩
    rw [EL.out]
    exact ⟨_, _, rfl, Nat.le_refl _, IntsAt.nil_, Below.refl _ _⟩
  · have hs2 : s.size ≤ 200 := by omega
    have E0 := hide (fun h : okText s = true => (show parseErr s = 0 from by unfold parseErr; rw [if_neg h2, if_pos h]))
    have E7 := hide (fun h : ¬ okText s = true => (show parseErr s = 7 from by unfold parseErr; rw [if_neg h2, if_neg h]))
    clear h2
    go_enter Try.func13, Try.ntmps13
    go_wp2_with fail
    go_loopw [4, 5] (fun v i wr => ∃ k : Nat, k ≤ s.size ∧ i = .int .i64 k ∧ OwnInts wr w.heap.size v k (textBit s) ∧ Hid (∀ j, j < k → bitByte (byteN s j) = true) ∧ Below w.heap.size w wr) (fun _ i _ => s.size - (intOf i).toNat)
    case atStart => exact ⟨0, Nat.zero_le _, rfl, OwnInts.nil_ _ _ _, hide fun j h => absurd h (Nat.not_lt_zero _), Below.refl _ _⟩
    case round =>
      obtain ⟨k, hk, rfl, hown, HZ, hB⟩ := hrel
      have hBs := hB.size
      obtain ⟨A, c, rfl, hkc, hIk⟩ := hown.form
      by_cases hlt : k < s.size
      · obtain ⟨x, hx⟩ : ∃ x : Nat, x = s[k].toNat := ⟨_, rfl⟩
        have HN := hide (show byteN s k = x from (byteN_at hlt).trans hx.symm)
        have hx' := hx.symm
        clear hx hIk
        by_cases h48 : x = 48
        · subst h48
          have HT := hide (show textBit s k = 0 from by unfold textBit; rw [HN.out]; rfl)
          have HOK := hide (show bitByte (byteN s k) = true from by rw [HN.out]; rfl)
          go_wp2_with (at_builtin; refine wpList_append_ints _ rfl (.tmp 25) (.tmp 31) rfl w.heap.size 0 (.slice A k c) k (textBit s) rfl (hown.alloc _) (some ⟨wr.heap.size, 0, none⟩) 1 1 (fun _ => 0) rfl (IntsAt.one _ _ _ _ (Nat.zero_le _)) (by omega) (by simp; omega) ?_; intro v' w' h1 hb2)
          go_roundw
          case rel =>
            exact ⟨k + 1, by omega, by go_num, h1.congr (fun j hj => by
              unfold catF
              by_cases e : j < k
              · rw [if_pos e]
              · rw [if_neg e]
                obtain rfl : j = k := by omega
                exact HT.out.symm), hide fun j hj => (by
                rcases Nat.lt_or_ge j k with h | h
                · exact HZ.out j h
                · obtain rfl : j = k := by omega
                  exact HOK.out), (hB.alloc hBs _).trans hb2⟩
          case measure => simp [intOf]; omega
        · by_cases h49 : x = 49
          · subst h49
            have HT := hide (show textBit s k = 1 from by unfold textBit; rw [HN.out]; rfl)
            have HOK := hide (show bitByte (byteN s k) = true from by rw [HN.out]; rfl)
            clear h48
            go_wp2_with (at_builtin; refine wpList_append_ints _ rfl (.tmp 25) (.tmp 31) rfl w.heap.size 0 (.slice A k c) k (textBit s) rfl (hown.alloc _) (some ⟨wr.heap.size, 0, none⟩) 1 1 (fun _ => 1) rfl (IntsAt.one _ _ _ _ (Nat.zero_le _)) (by omega) (by simp; omega) ?_; intro v' w' h1 hb2)
            go_roundw
            case rel =>
              exact ⟨k + 1, by omega, by go_num, h1.congr (fun j hj => by
                unfold catF
                by_cases e : j < k
                · rw [if_pos e]
                · rw [if_neg e]
                  obtain rfl : j = k := by omega
                  exact HT.out.symm), hide fun j hj => (by
                  rcases Nat.lt_or_ge j k with h | h
                  · exact HZ.out j h
                  · obtain rfl : j = k := by omega
                    exact HOK.out), (hB.alloc hBs _).trans hb2⟩
            case measure => simp [intOf]; omega
          · have t1 : ((x : Int) != 48) = true := by simp; omega
            have t2 : ((x : Int) != 49) = true := by simp; omega
            have HNO := hide (show ¬ okText s = true from fun h => by
              have := okText_iff.1 h k hlt
              rw [HN.out] at this
              unfold bitByte at this
              simp at this
              omega)
            have EQ := hide (E7.out HNO.out)
            have EL := hide (show parseLen s = 0 from if_neg (by rw [EQ.out]; decide))
            clear h48 h49
            go_wp2_with fail
            go_ret2
            refine ⟨.slice none 0 0, by rw [EQ.out]; rfl, ?_⟩
            rw [EL.out]
            exact ⟨_, _, rfl, Nat.le_refl _, IntsAt.nil_, hB⟩
      · obtain rfl : k = s.size := by omega
        have hok := okText_iff.2 HZ.out
        have EQ := hide (E0.out hok)
        have EL := hide (show parseLen s = s.size from if_pos EQ.out)
        clear hok
        go_wp2_with fail
        go_ret2
        refine ⟨.slice A s.size c, by rw [EQ.out]; rfl, ?_⟩
        rw [EL.out]
        exact hown.gave hB
end Go.Proofs.Ytdimjagmecnldaa
