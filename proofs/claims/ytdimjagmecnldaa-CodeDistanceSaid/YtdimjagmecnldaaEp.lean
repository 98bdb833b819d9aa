/- ParseBits of both -/
import Derived.Test.YtdimjagmecnldaaCd
namespace Go.Proofs.Ytdimjagmecnldaa
open Go.RowKit
/-- The byte j of a text. -/
def byteN (s : ByteArray) (j : Nat) : Nat := if h : j < s.size then s[j].toNat else 0
theorem byteN_at {s : ByteArray} {j : Nat} (h : j < s.size) : byteN s j = s[j].toNat := dif_pos h
def bitByte (x : Nat) : Bool := x == 48 || x == 49
def okText (s : ByteArray) : Bool := !anyN s.size fun j => !bitByte (byteN s j)
theorem okText_iff {s : ByteArray} : okText s = true ↔ ∀ j, j < s.size → bitByte (byteN s j) = true := by
  unfold okText
  rw [Bool.not_eq_true', ← Bool.not_eq_true, anyN_iff]
  constructor
  · intro h j hj
    cases hb : bitByte (byteN s j)
    · exact absurd ⟨j, hj, by rw [hb]; rfl⟩ h
    · rfl
  · rintro h ⟨j, hj, hb⟩
    rw [h j hj] at hb
    cases hb
def textBit (s : ByteArray) (j : Nat) : Int := (byteN s j : Int) - 48
def parseErr (s : ByteArray) : Int := if 200 < s.size then 8 else if okText s = true then 0 else 7
def parseLen (s : ByteArray) : Nat := if parseErr s = 0 then s.size else 0

set_option maxHeartbeats 1000000 in
theorem parseBits_any (s : ByteArray) (w : World) (hs : s.size ≤ 1000) :
    Calls Try.prog 12 #[.string s] w fun e w' => ∃ v, e = .returned (.tuple #[v, .int .i64 (parseErr s)]) ∧ GaveInts w (parseLen s) (textBit s) v w' := by
  obtain ⟨i0, hi, hz0, hz1, hz2⟩ := info_parts intInfo
  have hmk := fun W => run_make_row (P := Try.prog) 22 3 i0 (.int .i64 0) Try.underlying22 hi hz0 hz1 rfl .i64 .i64 s.size (by rw [hz2]; omega) (by omega) W
  by_cases h2 : 200 < s.size
  · have E := hide (show parseErr s = 8 from if_pos h2)
    have EL := hide (show parseLen s = 0 from if_neg (by rw [E.out]; decide))
    go_enter Try.func12, Try.ntmps12
    go_wp2_with fail
    go_ret2
    refine ⟨.slice none 0 0, by rw [E.out]; rfl, ?_⟩
    rw [EL.out]
    exact ⟨_, _, rfl, Nat.le_refl _, IntsAt.nil_, Below.refl _ _⟩
  · have hs2 : s.size ≤ 200 := by omega
    have E0 := hide (fun h : okText s = true => (show parseErr s = 0 from by unfold parseErr; rw [if_neg h2, if_pos h]))
    have E7 := hide (fun h : ¬ okText s = true => (show parseErr s = 7 from by unfold parseErr; rw [if_neg h2, if_neg h]))
    clear h2
    go_enter Try.func12, Try.ntmps12
    go_wp2_with fail
    clear hmk
    go_loopw [14] (fun i wr => ∃ k : Nat, k ≤ s.size ∧ i = .int .i64 k ∧ wr.rowIs w.heap.size 3 s.size (fun x => .int .i64 (if x < k then textBit s x else 0)) ∧ Hid (∀ j, j < k → bitByte (byteN s j) = true) ∧ Below w.heap.size w wr) (fun i _ => s.size - (intOf i).toNat)
    case atStart =>
      exact ⟨0, Nat.zero_le _, rfl, (World.rowIs_made w (.int .i64 0) s.size 3).congr (fun _ _ => by simp), hide fun j h => absurd h (Nat.not_lt_zero _), (Below.refl _ _).alloc (Nat.le_refl _) _⟩
    case round =>
      obtain ⟨k, hk, rfl, hR, HZ, hB⟩ := hrel
      by_cases hlt : k < s.size
      · have hc := hR.cell hlt
        have hf := hR.frozen k
        obtain ⟨x, hx⟩ : ∃ x : Nat, x = s[k].toNat := ⟨_, rfl⟩
        have HN := hide (show byteN s k = x from (byteN_at hlt).trans hx.symm)
        have hx' := hx.symm
        clear hx
        by_cases h48 : x = 48
        · have t1 : ((x : Int) == 48) = true := by simp; omega
          have HT := hide (show textBit s k = 0 from by unfold textBit; rw [HN.out]; omega)
          have HOK := hide (show bitByte (byteN s k) = true from by rw [HN.out, h48]; rfl)
          clear h48
          go_wp2_with fail
          go_roundw
          case rel =>
            exact ⟨k + 1, by omega, by go_num, hR.congr (fun y _ => by
              by_cases e : y = k
              · subst e
                rw [if_neg (Nat.lt_irrefl _), if_pos (Nat.lt_succ_self _), HT.out]
              · by_cases e2 : y < k
                · rw [if_pos e2, if_pos (by omega)]
                · rw [if_neg e2, if_neg (by omega)]), hide fun j hj => (by
                rcases Nat.lt_or_ge j k with h | h
                · exact HZ.out j h
                · obtain rfl : j = k := by omega
                  exact HOK.out), hB⟩
          case measure => simp [intOf]; omega
        · have t1 : ((x : Int) == 48) = false := by simp; omega
          by_cases h49 : x = 49
          · have t2 : ((x : Int) == 49) = true := by simp; omega
            have HT := hide (show textBit s k = 1 from by unfold textBit; rw [HN.out]; omega)
            have HOK := hide (show bitByte (byteN s k) = true from by rw [HN.out, h49]; rfl)
            clear h48 h49
            go_wp2_with fail
            go_roundw
            case rel =>
              exact ⟨k + 1, by omega, by go_num, (hR.set k _).congr (fun y _ => by
                by_cases e : y = k
                · subst e
                  rw [if_pos rfl, if_pos (Nat.lt_succ_self _), HT.out]
                · rw [if_neg e]
                  by_cases e2 : y < k
                  · rw [if_pos e2, if_pos (by omega)]
                  · rw [if_neg e2, if_neg (by omega)]), hide fun j hj => (by
                  rcases Nat.lt_or_ge j k with h | h
                  · exact HZ.out j h
                  · obtain rfl : j = k := by omega
                    exact HOK.out), hB.setCell (by exact Nat.le_refl _) _⟩
            case measure => simp [intOf]; omega
          · have t2 : ((x : Int) == 49) = false := by simp; omega
            have HNO := hide (show ¬ okText s = true from fun h => by
              have := okText_iff.1 h k hlt
              rw [HN.out] at this
              unfold bitByte at this
              simp at this
              omega)
            have EQ := hide (E7.out HNO.out)
            have EL := hide (show parseLen s = 0 from if_neg (by rw [EQ.out]; decide))
            clear h48 h49
            go_wp2_with fail
            go_ret2
            refine ⟨.slice none 0 0, by rw [EQ.out]; rfl, ?_⟩
            rw [EL.out]
            exact ⟨_, _, rfl, Nat.le_refl _, IntsAt.nil_, hB⟩
      · obtain rfl : k = s.size := by omega
        have hok := okText_iff.2 HZ.out
        have EQ := hide (E0.out hok)
        have EL := hide (show parseLen s = s.size from if_pos EQ.out)
        clear hok
        go_wp2_with fail
        go_ret2
        refine ⟨.slice (some ⟨w.heap.size, 0, none⟩) s.size s.size, by rw [EQ.out]; rfl, ?_⟩
        rw [EL.out]
        exact GaveInts.of_row (hR.congr (fun x hx => by rw [if_pos hx])) (Nat.le_refl _) hB
end Go.Proofs.Ytdimjagmecnldaa
