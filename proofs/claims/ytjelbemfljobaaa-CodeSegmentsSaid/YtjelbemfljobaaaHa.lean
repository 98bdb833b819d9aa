/- slices.Equal of two lists of numbers. -/
import Derived.Test.YtjelbemfljobaaaCd
namespace Go.Proofs.Ytjelbemfljobaaa
open Go.RowKit
set_option maxHeartbeats 1000000 in
theorem equal_any (A C : Option Addr) (n m c d : Nat) (F G : Nat → Int) (w : World) (hn : n ≤ 100000) (hm : m ≤ 100000) (hF : IntsAt w 0 A n F) (hG : IntsAt w 0 C m G) :
    Calls Try.prog 111 #[.slice A n c, .slice C m d] w fun e w' => e = .returned (.bool (intsB n F m G)) ∧ ∃ q, w' = w.drewN q := by
  by_cases hnm : n = m
  · subst hnm
    have HF := hide hF
    have HG := hide hG
    clear hF hG
    go_enter Try.func111, Try.ntmps111
    go_wp2
    go_loopw [13] (fun i wr => ∃ k q : Nat, k ≤ n ∧ i = .int .i64 k ∧ wr = w.drewN q ∧ Hid (∀ j, j < k → F j = G j)) (fun i _ => n - (intOf i).toNat)
    case atStart => exact ⟨0, 0, Nat.zero_le _, rfl, rfl, hide fun j h => absurd h (Nat.not_lt_zero _)⟩
    case round =>
      obtain ⟨k, q, hk, rfl, rfl, HZ⟩ := hrel
      by_cases hlt : k < n
      · obtain ⟨b, o, rfl, -, hb, hcell⟩ := HF.out k hlt
        obtain ⟨b', o', rfl, -, hb', hcell'⟩ := HG.out k hlt
        have hltz : (k : Int) < (n : Int) := by omega
        by_cases he : F k = G k
        · have HE := hide he
          rw [he] at hcell
          clear he
          go_wp2
          go_quiet (fail)
          go_wp2
          go_roundw
          case rel =>
            exact ⟨k + 1, _, by omega, by go_num, rfl, hide fun j hj => by
              rcases Nat.lt_or_ge j k with h | h
              · exact HZ.out j h
              · obtain rfl : j = k := by omega
                exact HE.out⟩
          case measure => simp [intOf]; omega
        · have he' : (F k != G k) = true := by simpa using he
          have HE := hide (show intsB n F n G = false from by
            rw [← Bool.not_eq_true, intsB_iff]
            exact fun h => he (h.2 k hlt))
          clear he
          go_wp2
          go_quiet (fail)
          go_wp2
          go_ret
          exact ⟨ret_bool HE.out.symm, _, World.drewN_drewN _ _ _⟩
      · obtain rfl : k = n := by omega
        go_wp2
        go_ret
        exact ⟨ret_bool (Eq.symm (intsB_iff.2 ⟨rfl, HZ.out⟩)), _, rfl⟩
  · have he' : ((n : Int) != (m : Int)) = true := by simp; omega
    have HE := hide (show intsB n F m G = false from by
      rw [← Bool.not_eq_true, intsB_iff]
      exact fun h => hnm h.1)
    clear hF hG hnm
    go_enter Try.func111, Try.ntmps111
    go_wp2
    go_ret
    exact ⟨ret_bool HE.out.symm, 0, rfl⟩
end Go.Proofs.Ytjelbemfljobaaa
