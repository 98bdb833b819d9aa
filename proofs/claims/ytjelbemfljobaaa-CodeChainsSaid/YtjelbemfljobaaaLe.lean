/- Encode, Decode of the reference. -/
import Derived.Test.YtjelbemfljobaaaLd
import Derived.Test.YtjelbemfljobaaaEm
import Derived.Test.YtjelbemfljobaaaEn
import Derived.Test.YtjelbemfljobaaaId
namespace Go.Proofs.Ytjelbemfljobaaa
open Go.RowKit Go.Shelf
theorem isPos_iff {F : Nat → Int} {x : Nat} : ∀ {n : Nat}, isPos F x n = true ↔ ∃ k, k < n ∧ F k = x
  | 0 => by simp [isPos]
  | n + 1 => by
    unfold isPos
    by_cases h : F n = x
    · rw [if_pos h]; exact ⟨fun _ => ⟨n, Nat.lt_succ_self _, h⟩, fun _ => rfl⟩
    · rw [if_neg h, isPos_iff]
      constructor
      · rintro ⟨k, hk, e⟩; exact ⟨k, by omega, e⟩
      · rintro ⟨k, hk, e⟩
        by_cases h2 : k = n
        · subst h2; exact absurd e h
        · exact ⟨k, by omega, e⟩
set_option maxHeartbeats 1000000 in
theorem has_any (A : Option Addr) (n c x : Nat) (F : Nat → Int) (w : World) (hn : n ≤ 100000) (hI : IntsAt w 0 A n F) :
    Calls Try.prog 48 #[.slice A n c, .int .i64 (x : Int)] w fun e w' => e = .returned (.bool (isPos F x n)) ∧ w = w' := by
  have HI := hide hI
  clear hI
  obtain ⟨R, hR⟩ : ∃ R, R = isPos F x n := ⟨_, rfl⟩
  rw [← hR]
  have HR := hide hR
  clear hR
  go_enter Try.func48, Try.ntmps48
  go_wp2_with fail
  go_loopw [5] (fun i wr => ∃ k : Nat, k ≤ n ∧ i = .int .i64 k ∧ wr = w ∧ Hid (isPos F x k = false)) (fun i _ => n - (intOf i).toNat)
  case atStart => exact ⟨0, Nat.zero_le _, rfl, rfl, hide rfl⟩
  case round =>
    obtain ⟨k, hk, rfl, rfl, HZ⟩ := hrel
    by_cases hlt : k < n
    · have hltz : (k : Int) < (n : Int) := by omega
      obtain ⟨b, o, rfl, -, hb, hcell⟩ := HI.out k hlt
      by_cases he : F k = (x : Int)
      · have HE := hide (show R = true from by rw [HR.out]; exact isPos_iff.2 ⟨k, hlt, he⟩)
        rw [he] at hcell
        clear he
        go_wp2_with fail
        go_ret
        exact ⟨ret_bool HE.out.symm, rfl⟩
      · have HE := hide (show isPos F x (k + 1) = false from by unfold isPos; rw [if_neg he]; exact HZ.out)
        have t1 : (F k == (x : Int)) = false := by simpa using he
        clear he
        go_wp2_with fail
        go_roundw
        case rel => exact ⟨k + 1, by omega, by go_num, trivial, HE⟩
        case measure => simp [intOf]; omega
    · obtain rfl : k = n := by omega
      go_wp2_with fail
      go_ret
      exact ⟨ret_bool (by rw [HR.out, HZ.out]), rfl⟩
def signI (a : Int) : Int := min 1 (max (-1) a)
theorem signI_cases (a : Int) : (a < 0 ∧ signI a = -1) ∨ (a = 0 ∧ signI a = 0) ∨ (0 < a ∧ signI a = 1) := by unfold signI; omega
theorem sign_lesser (a b : Int) : signI a * signI b * min (sizeI a) (sizeI b) = lesserI a b := by
  unfold lesserI
  rcases signI_cases a with ⟨ha, ea⟩ | ⟨ha, ea⟩ | ⟨ha, ea⟩ <;> rcases signI_cases b with ⟨hb, eb⟩ | ⟨hb, eb⟩ | ⟨hb, eb⟩ <;> rw [ea, eb] <;> unfold sizeI
  · rw [if_pos (by simp [ha, hb])]; omega
  · rw [if_neg (by simp [ha, hb])]; omega
  · rw [if_neg (by simp [ha]; omega)]; omega
  · rw [if_neg (by simp [ha, hb])]; omega
  · rw [if_pos (by simp [ha, hb])]; omega
  · rw [if_pos (by simp [ha]; omega)]; omega
  · rw [if_neg (by simp [hb]; omega)]; omega
  · rw [if_pos (by simp [hb]; omega)]; omega
  · rw [if_pos (by simp; omega)]; omega
theorem signI_le (a : Int) : -1 ≤ signI a ∧ signI a ≤ 1 := by unfold signI; omega
theorem sign_mul_le (a b : Int) : -1 ≤ signI a * signI b ∧ signI a * signI b ≤ 1 := by
  rcases signI_cases a with ⟨ha, ea⟩ | ⟨ha, ea⟩ | ⟨ha, ea⟩ <;> rcases signI_cases b with ⟨hb, eb⟩ | ⟨hb, eb⟩ | ⟨hb, eb⟩ <;> rw [ea, eb] <;> omega
set_option maxHeartbeats 1000000 in
theorem sign_any (a : Int) (w : World) : Calls Try.prog 129 #[.int .i64 a] w fun e w' => e = .returned (.int .i64 (signI a)) ∧ w = w' := by
  have E := hide (show signI a = min 1 (max (-1) a) from rfl)
  generalize signI a = s at *
  go_enter Try.func129, Try.ntmps129
  go_wp2
  all_goals
    go_ret
    exact ⟨ret_int (by rw [E.out, Int.min_def, Int.max_def]; split <;> split <;> omega), rfl⟩
set_option maxHeartbeats 1000000 in
theorem size_any (a : Int) (w : World) (h0 : -1000000000000000 ≤ a) (h1 : a ≤ 1000000000000000) : Calls Try.prog 130 #[.int .i64 a] w fun e w' => e = .returned (.int .i64 (sizeI a)) ∧ w = w' := by
  have E := hide (show sizeI a = max a (-a) from rfl)
  have q : IntKind.i64.wrap (-a) = -a := IntWalk.i64_in _ (by omega)
  generalize sizeI a = s at *
  go_enter Try.func130, Try.ntmps130
  go_wp2
  all_goals
    go_ret
    exact ⟨ret_int (by rw [E.out, Int.max_def]; split <;> omega), rfl⟩
set_option maxHeartbeats 2000000 in
theorem encodeR_any (p : Nat) (A C : Option Addr) (n c d : Nat) (F B : Nat → Int) (w : World) (hok : PolarOk p n F) (hn : n ≤ 1000) (hI : IntsAt w 0 A n F) (hJ : IntsAt w 0 C n B) (hb : ∀ k, k < n → IsBit (B k)) :
    Calls Try.prog 70 #[.agg #[.int .i64 (p : Int), .slice A n c], .slice C n d] w fun e w' => ∃ v, e = .returned v ∧ OwnInts w' w.heap.size v (2 ^ p) (wordF (2 ^ p) fun x => posF F B x n) ∧ Below w.heap.size w w' := by
  obtain ⟨h1, h2, h3, h4⟩ := hok
  obtain ⟨p1, p2⟩ : 1 ≤ (2 : Int) ^ p ∧ (2 : Int) ^ p ≤ 64 := by
    have h1 : 2 ^ p ≤ 2 ^ 6 := Nat.pow_le_pow_right (by decide) h1
    have h0 : 0 < 2 ^ p := Nat.two_pow_pos p
    have e : ((2 ^ p : Nat) : Int) = (2 : Int) ^ p := by simp
    omega
  obtain ⟨N, hN⟩ : ∃ N, N = 2 ^ p := ⟨_, rfl⟩
  have eN : (2 : Int) ^ p = (N : Int) := by rw [hN]; simp
  rw [← hN]
  have HP := hide (fun W => powerR_any p W (by omega))
  rw [eN] at p1 p2 HP
  have h3' : ∀ k, k < n → 0 ≤ F k ∧ F k < N := fun k hk => by have := h3 k hk; rw [eN] at this; omega
  obtain ⟨i0, hi, hz0, hz1, hz2⟩ := info_parts intInfo
  have hmk := fun W => run_make_row (P := Try.prog) 24 3 i0 (.int .i64 0) Try.underlying24 hi hz0 hz1 rfl .i64 .i64 N (by rw [hz2]; omega) (by omega) W
  have HI := hide hI
  have HJ := hide hJ
  have H3 := hide h3'
  have HB := hide hb
  clear hI hJ h3 h3' h4 hi hz0 hz1 hz2 hN hb
  go_enter Try.func70, Try.ntmps70
  go_wp2_with (go_at_call 76; refine (HP.out _).mono ?_; rintro e w' ⟨rfl, rfl⟩)
  clear hmk
  go_loopw [6] (fun i wr => ∃ k : Nat, k ≤ n ∧ i = .int .i64 k ∧ wr.rowIs (w.heap.size + 1) 3 N (fun x => .int .i64 (posF F B x k)) ∧ Box wr w.heap.size 26 #[.int .i64 (p : Int), .slice A n c] ∧ Below w.heap.size w wr) (fun i _ => n - (intOf i).toNat)
  case atStart =>
    refine ⟨0, Nat.zero_le _, rfl, ?_, (Box.made rfl).alloc _, by (repeat (first | (with_reducible exact Below.refl _ _) | (with_reducible refine below_drewN ?_ _) | (with_reducible refine Below.drew ?_) | (with_reducible refine Below.alloc ?_ (by first | exact Nat.le_refl _ | (simp; done) | (simp; omega) | omega) _) | (with_reducible refine Below.setCell ?_ (by first | exact Nat.le_refl _ | (simp; done) | (simp; omega) | omega) _)))⟩
    have := World.rowIs_made (w.alloc (.cells #[.int .i64 (p : Int), .slice A n c] 26)) (.int .i64 0) N 3
    simp only [World.size_alloc] at this
    exact this.congr (fun _ _ => rfl)
  case round =>
    obtain ⟨k, hk, rfl, hR, bx, hBl⟩ := hrel
    have x1 := bx.at_ 1
    simp only [List.getElem?_toArray] at x1
    have hlx := bx.lt
    by_cases hlt : k < n
    · have hltz : (k : Int) < (n : Int) := by omega
      have hI := HI.out.below hBl
      have hJ := HJ.out.below hBl
      obtain ⟨b, o, rfl, -, hb, hcell⟩ := hI k hlt
      obtain ⟨b', o', rfl, -, hb', hcell'⟩ := hJ k hlt
      obtain ⟨f0, f1⟩ := H3.out k hlt
      obtain ⟨f, hf⟩ := Int.eq_ofNat_of_zero_le f0
      have HF := hide hf
      rw [hf] at hcell f0 f1
      clear hf
      have hc := hR.cell (i := f) (by omega)
      have hfz := hR.frozen f
      go_wp2_with fail
      go_region
      go_wp2_with fail
      refine ⟨⟨k + 1, by omega, by simp, (hR.set f _).congr (fun x _ => ?_), bx.drew.other (by simp) _, hBl.drew.setCell (by simp) _⟩, by simp [intOf]; omega⟩
      show (if x = f then Value.int .i64 (B k) else _) = Value.int .i64 (if F k = x then B k else posF F B x k)
      by_cases e : x = f
      · rw [if_pos e, if_pos (by rw [HF.out, e])]
      · rw [if_neg e, if_neg (by rw [HF.out]; omega)]
    · obtain rfl : k = n := by omega
      go_wp2_with fail
      refine (wordR_any _ N N (fun x => posF F B x k) _ (by omega) (IntsAt.of_row hR (Nat.zero_le _)) (fun x _ => posF_bit HB.out x)).mono ?_
      rintro e w1 ⟨v, rfl, hown, hb'⟩
      go_wp2_with fail
      go_ret
      exact ⟨_, rfl, hown.weak hBl.size, hBl.trans (hb'.mono hBl.size)⟩
end Go.Proofs.Ytjelbemfljobaaa
