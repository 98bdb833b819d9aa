/- code: slices.IndexFunc, ContainsFunc at numbers; areBits, areWithin. -/
import Derived.Test.YtjelbemfljobaaaCb
import Derived.Shelf.Abstract
namespace Go.Proofs.Ytjelbemfljobaaa
open Go.RowKit

def anyN (n : Nat) (p : Nat → Bool) : Bool := (List.range n).any p
theorem anyN_iff {n : Nat} {p : Nat → Bool} : anyN n p = true ↔ ∃ j, j < n ∧ p j = true := by simp [anyN]

set_option maxHeartbeats 2000000 in
theorem indexFunc_any (g : Nat) (lb : Array Value) (eg : ∀ args w, (callFunc g args).run Try.prog w = .ok (.enter g args) w) (p : Int → Bool) (A : Option Addr) (n c : Nat) (F : Nat → Int) (w : World)
    (hn : n ≤ 100000) (hI : IntsAt w 0 A n F) (hp : ∀ x W, Below w.heap.size w W → Calls Try.prog g (#[.int .i64 x] ++ lb) W fun e w' => e = .returned (.bool (p x)) ∧ ∃ q, w' = W.drewN q) :
    Calls Try.prog 131 #[.slice A n c, .func (.func g) #[] lb] w fun e w' => ∃ r : Int, e = .returned (.int .i64 r) ∧ (0 ≤ r ↔ ∃ j, j < n ∧ p (F j) = true) ∧ ∃ q, w' = w.drewN q := by
  have HP := hide (fun (x : Int) (q : Nat) => hp x (w.drewN q) (below_drewN (Below.refl _ _) q))
  have HI := hide hI
  clear hp hI
  go_enter Try.func131, Try.ntmps131
  go_wp2
  go_loopg [8] n (fun gg s8 wr => ∃ k q : Nat, k ≤ n ∧ n - k ≤ gg ∧ s8 = .int .i64 k ∧ wr = w.drewN q ∧ Hid (∀ j, j < k → p (F j) = false))
  case atStart => exact ⟨0, 0, Nat.zero_le _, by omega, rfl, rfl, hide fun j h => absurd h (Nat.not_lt_zero _)⟩
  case round =>
    obtain ⟨k, q, hk, hg, rfl, rfl, HZ⟩ := hrel
    by_cases hlt : k < n
    · have hltz : (k : Int) < (n : Int) := by omega
      obtain ⟨b, o, rfl, -, hb, hcell⟩ := HI.out k hlt
      have hcall := HP.out (F k)
      have HF := hide (rfl : F k = F k)
      generalize hx : F k = x at hcell hcall
      have HX := hide hx
      clear hx HF
      cases hq : p x with
      | true =>
        rw [hq] at hcall
        go_wp2_with (go_at_fn g; refine (hcall _).mono ?_; rintro e w' ⟨rfl, q', rfl⟩)
        go_ret
        exact ⟨(k : Int), rfl, ⟨fun _ => ⟨k, hlt, by rw [HX.out]; exact hq⟩, fun _ => by omega⟩, _, rfl⟩
      | false =>
        rw [hq] at hcall
        go_wp2_with (go_at_fn g; refine (hcall _).mono ?_; rintro e w' ⟨rfl, q', rfl⟩)
        go_roundg (n - (k + 1))
        case measure => omega
        case rel =>
          refine ⟨k + 1, _, by omega, by omega, by go_num, rfl, hide fun j hj => ?_⟩
          rcases Nat.lt_or_ge j k with h | h
          · exact HZ.out j h
          · obtain rfl : j = k := by omega
            rw [HX.out]; exact hq
    · have hltz : ¬ (k : Int) < (n : Int) := by omega
      obtain rfl : k = n := by omega
      go_wp2
      go_ret
      exact ⟨-1, rfl, ⟨fun h => absurd h (by decide), fun ⟨j, hj, ht⟩ => by rw [HZ.out j hj] at ht; cases ht⟩, q, rfl⟩

set_option maxHeartbeats 1000000 in
theorem containsFunc_any (g : Nat) (lb : Array Value) (eg : ∀ args w, (callFunc g args).run Try.prog w = .ok (.enter g args) w) (p : Int → Bool) (A : Option Addr) (n c : Nat) (F : Nat → Int) (w : World)
    (hn : n ≤ 100000) (hI : IntsAt w 0 A n F) (hp : ∀ x W, Below w.heap.size w W → Calls Try.prog g (#[.int .i64 x] ++ lb) W fun e w' => e = .returned (.bool (p x)) ∧ ∃ q, w' = W.drewN q) :
    Calls Try.prog 121 #[.slice A n c, .func (.func g) #[] lb] w fun e w' => e = .returned (.bool (anyN n fun j => p (F j))) ∧ ∃ q, w' = w.drewN q := by
  have HX := hide (indexFunc_any g lb eg p A n c F w hn hI hp)
  clear hp hI
  go_enter Try.func121, Try.ntmps121
  go_wp2_with (go_at_call 131; refine HX.out.mono ?_; rintro e w' ⟨r, rfl, hr, q, rfl⟩)
  go_ret
  refine ⟨ret_bool ?_, q, rfl⟩
  rw [Bool.eq_iff_iff, anyN_iff]
  exact decide_eq_true_iff

def notBit (x : Int) : Bool := x != 0 && x != 1

set_option maxHeartbeats 400000 in
theorem areBits1_any (x : Int) (w : World) : Calls Try.prog 122 #[.int .i64 x] w fun e w' => e = .returned (.bool (notBit x)) ∧ ∃ q, w' = w.drewN q := by
  unfold notBit
  go_enter Try.func122, Try.ntmps122
  go_wp2
  all_goals
    go_ret
    refine ⟨ret_bool ?_, 0, rfl⟩
    simp_all

def bitsB (n : Nat) (F : Nat → Int) : Bool := !anyN n fun j => notBit (F j)
theorem bitsB_iff {n : Nat} {F : Nat → Int} : bitsB n F = true ↔ ∀ j, j < n → IsBit (F j) := by
  unfold bitsB
  rw [Bool.not_eq_true', ← Bool.not_eq_true, anyN_iff]
  constructor
  · intro h j hj
    rcases Decidable.em (IsBit (F j)) with hb | hb
    · exact hb
    · exact absurd ⟨j, hj, by unfold notBit; unfold IsBit at hb; simp; omega⟩ h
  · rintro h ⟨j, hj, hb⟩
    have := h j hj
    unfold notBit at hb
    unfold IsBit at this
    simp at hb
    omega

set_option maxHeartbeats 400000 in
theorem areBits_any (A : Option Addr) (n c : Nat) (F : Nat → Int) (w : World) (hn : n ≤ 100000) (hI : IntsAt w 0 A n F) :
    Calls Try.prog 102 #[.slice A n c] w fun e w' => e = .returned (.bool (bitsB n F)) ∧ ∃ q, w' = w.drewN q := by
  have HX := hide (containsFunc_any 122 #[] (enters_of Try.func122 (by kernel_rfl) rfl) notBit A n c F w hn hI (fun x W _ => areBits1_any x W))
  clear hI
  go_enter Try.func102, Try.ntmps102
  go_wp2_with (go_at_call 121; refine HX.out.mono ?_; rintro e w' ⟨rfl, q, rfl⟩)
  go_ret
  exact ⟨rfl, q, rfl⟩

end Go.Proofs.Ytjelbemfljobaaa
