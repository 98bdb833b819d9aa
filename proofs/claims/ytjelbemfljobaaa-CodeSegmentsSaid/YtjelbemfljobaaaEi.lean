/- exploring: encoded -/
import Derived.Test.YtjelbemfljobaaaCd
import Derived.Test.YtjelbemfljobaaaEd
import Derived.Test.YtjelbemfljobaaaEh
namespace Go.Proofs.Ytjelbemfljobaaa
open Go.RowKit
/-- What stands at the position x of a polar code. -/
def posF (F B : Nat → Int) (x : Nat) : Nat → Int
  | 0 => 0
  | k + 1 => if F k = x then B k else posF F B x k
theorem posF_bit {F B : Nat → Int} : ∀ {n : Nat}, (∀ k, k < n → IsBit (B k)) → ∀ x, IsBit (posF F B x n)
  | 0, _, _ => .inl rfl
  | n + 1, h, x => by
    unfold posF
    split
    · exact h n (Nat.lt_succ_self _)
    · exact posF_bit (fun k hk => h k (by omega)) x
set_option maxHeartbeats 1000000 in
theorem encoded_any (p : Nat) (A C : Option Addr) (n c d : Nat) (F B : Nat → Int) (w : World) (hok : PolarOk p n F) (hn : n ≤ 1000) (hI : IntsAt w 0 A n F) (hJ : IntsAt w 0 C n B) (hb : ∀ k, k < n → IsBit (B k)) :
    Calls Try.prog 61 #[.agg #[.int .i64 (p : Int), .slice A n c], .slice C n d] w fun e w' => ∃ v, e = .returned v ∧ GaveInts w (2 ^ p) (wordF (2 ^ p) fun x => posF F B x n) v w' := by
  obtain ⟨h1, h2, h3, h4⟩ := hok
  obtain ⟨p1, p2⟩ : 1 ≤ (2 : Int) ^ p ∧ (2 : Int) ^ p ≤ 64 := by
    have h1 : 2 ^ p ≤ 2 ^ 6 := Nat.pow_le_pow_right (by decide) h1
    have h0 : 0 < 2 ^ p := Nat.two_pow_pos p
    have e : ((2 ^ p : Nat) : Int) = (2 : Int) ^ p := by simp
    omega
  obtain ⟨N, hN⟩ : ∃ N, N = 2 ^ p := ⟨_, rfl⟩
  have eN : (2 : Int) ^ p = (N : Int) := by rw [hN]; simp
  rw [← hN]
  rw [eN] at p1 p2
  have h3' : ∀ k, k < n → 0 ≤ F k ∧ F k < N := fun k hk => by have := h3 k hk; rw [eN] at this; omega
  obtain ⟨i0, hi, hz0, hz1, hz2⟩ := info_parts intInfo
  have hmk := fun W => run_make_row (P := Try.prog) 24 3 i0 (.int .i64 0) Try.underlying24 hi hz0 hz1 rfl .i64 .i64 N (by rw [hz2]; omega) (by omega) W
  have HI := hide hI
  have HJ := hide hJ
  have H3 := hide h3'
  have HB := hide hb
  clear hI hJ h3 h3' h4 hi hz0 hz1 hz2 hN hb
  go_enter Try.func61, Try.ntmps61
  go_wp2_with fail
  clear hmk
  go_loopw [15] (fun i wr => ∃ k : Nat, k ≤ n ∧ i = .int .i64 k ∧ wr.rowIs (w.heap.size + 1) 3 N (fun x => .int .i64 (posF F B x k)) ∧ Below w.heap.size w wr) (fun i _ => n - (intOf i).toNat)
  case atStart =>
    refine ⟨0, Nat.zero_le _, rfl, ?_, by (repeat (first | (with_reducible exact Below.refl _ _) | (with_reducible refine below_drewN ?_ _) | (with_reducible refine Below.drew ?_) | (with_reducible refine Below.alloc ?_ (by first | exact Nat.le_refl _ | (simp; done) | (simp; omega) | omega) _) | (with_reducible refine Below.setCell ?_ (by first | exact Nat.le_refl _ | (simp; done) | (simp; omega) | omega) _)))⟩
    have := World.rowIs_made (w.alloc (.cells #[.int .i64 (p : Int), .slice A n c] 26)) (.int .i64 0) N 3
    simp only [World.size_alloc] at this
    exact this.congr (fun _ _ => rfl)
  case round =>
    obtain ⟨k, hk, rfl, hR, hBl⟩ := hrel
    by_cases hlt : k < n
    · have hltz : (k : Int) < (n : Int) := by omega
      have hI := HI.out.below hBl
      have hJ := HJ.out.below hBl
      obtain ⟨b, o, rfl, -, hb, hcell⟩ := hI k hlt
      obtain ⟨b', o', rfl, -, hb', hcell'⟩ := hJ k hlt
      obtain ⟨f0, f1⟩ := H3.out k hlt
      obtain ⟨f, hf⟩ := Int.eq_ofNat_of_zero_le f0
      have HF := hide hf
      rw [hf] at hcell f0 f1
      clear hf
      have hc := hR.cell (i := f) (by omega)
      have hfz := hR.frozen f
      go_wp2_with fail
      go_roundw
      case rel =>
        exact ⟨k + 1, by omega, by go_num, (hR.set f _).congr (fun x _ => by
          show (if x = f then Value.int .i64 (B k) else _) = Value.int .i64 (if F k = x then B k else posF F B x k)
          by_cases e : x = f
          · rw [if_pos e, if_pos (by rw [HF.out, e])]
          · rw [if_neg e, if_neg (by rw [HF.out]; omega)]), hBl.setCell (by simp) _⟩
      case measure => simp [intOf]; omega
    · obtain rfl : k = n := by omega
      go_wp2_with fail
      refine (wordOf_any _ N N (fun x => posF F B x k) _ (by omega) (IntsAt.of_row hR (Nat.zero_le _)) (fun x _ => posF_bit HB.out x)).mono ?_
      rintro e w1 ⟨v, rfl, A', c', rfl, hc', hI', hb'⟩
      go_wp2_with fail
      go_ret
      exact ⟨_, rfl, A', c', rfl, hc', hI'.weak hBl.size, hBl.trans (hb'.mono hBl.size)⟩
end Go.Proofs.Ytjelbemfljobaaa
