/- Lemmas: Bh, Be, Bj. -/
import Derived.Test.YtdkbjgnkehoplaaBy19
import Derived.Test.YtdkbjgnkehoplaaBy21
import Derived.Test.YtdkbjgnkehoplaaBy22
import Derived.Test.YtdkbjgnkehoplaaBy23
set_option linter.unusedVariables false
set_option linter.unusedSimpArgs false
/- Numbers of any size: WideSub and WideCmp of two above 0. -/
namespace Go.Proofs.Ytdkbjgnkehoplaa
open Go.RowKit
set_option maxHeartbeats 4000000 in
set_option maxRecDepth 100000 in
theorem wideSub_pos (A B : Option Addr) (n c m d : Nat) (D E : Nat → Int) (w : World) (hn : n ≤ 1000) (hm : m ≤ 1000) (hI : IntsAt w 0 A n D) (hJ : IntsAt w 0 B m E) (hD : Dig n D) (hE : Dig m E) (hDn : Norm n D) (hEn : Norm m E) :
    Calls Try.prog 141 #[.agg #[.int .i64 1, .slice A n c], .agg #[.int .i64 1, .slice B m d]] w fun e w' => ∃ R r s, e = .returned (.agg #[.int .i64 (cmpI (valD D n) (valD E m)), .slice R r s]) ∧ Below w.heap.size w w' := by
  have HI := hide hI
  have HJ := hide hJ
  have HN := hide (fun W => wideNeg_any 1 B m d W (by decide))
  have HW := hide (fun W (h1 : IntsAt W 0 A n D) (h2 : IntsAt W 0 B m E) => wideAdd_opp A B n c m d D E W hn hm h1 h2 hD hE hDn hEn)
  clear hI hJ hD hE hDn hEn
  generalize valD D n = x at *
  generalize valD E m = y at *
  generalize cmpI x y = z at *
  go_enter Try.func141, Try.ntmps141
  go_upto_region 1 with fail
  obtain ⟨W, hW⟩ : ∃ q : World, q = ((w.alloc (.cells #[.int .i64 1, .slice A n c] 150)).alloc (.cells #[.int .i64 1, .slice B m d] 150)).alloc (.cells #[.int .i64 0, .slice none 0 0] 150) := ⟨_, rfl⟩
  rw [← hW]
  have hS1 : Box W w.heap.size 150 #[.int .i64 1, .slice A n c] ∧ Box W (w.heap.size + 1) 150 #[.int .i64 1, .slice B m d] := ⟨by rw [hW]; exact ((Box.made rfl).alloc _).alloc _, by rw [hW]; exact (Box.made (by simp)).alloc _⟩
  have bc : Box W (w.heap.size + 1 + 1) 150 #[.int .i64 0, .slice none 0 0] := by rw [hW]; exact Box.made (by simp)
  have hBW : Below w.heap.size w W := by rw [hW]; (repeat (first | (with_reducible exact Below.refl _ _) | (with_reducible refine Go.below_drewN ?_ _) | (with_reducible refine Below.drew ?_) | (with_reducible refine Below.alloc ?_ (by first | exact Nat.le_refl _ | (simp; done) | (simp; omega) | omega) _) | (with_reducible refine Below.setCell ?_ (by first | exact Nat.le_refl _ | (simp; done) | (simp; omega) | omega) _)))
  clear hW
  have HBC := hide bc
  have HB1 := hide hBW
  have HI1 := hide (HI.out.below hBW)
  have HJ1 := hide (HJ.out.below hBW)
  clear bc hBW HI HJ
  refine wp_region_held_drew (S := fun w' => Box w' w.heap.size 150 #[.int .i64 1, .slice A n c] ∧ Box w' (w.heap.size + 1) 150 #[.int .i64 1, .slice B m d]) (by kernel_rfl) hS1 (fun hHeld => ?_)
  refine wpAnyH_take (i := 0) (oi := ⟨some 5, _, _, _, _, _⟩) (v := ?_) rfl (by kernel_rfl) (by kernel_rfl) (by kernel_rfl) (fun _ _ _ h => h) (Or.inl ⟨by rfl, ?_⟩) (by assumption) ?_
  rotate_left
  · (intro w' hSw; (try dsimp only at hSw); have u0 := hSw.1.at_ 0; have u1 := hSw.1.at_ 1; have v0 := hSw.2.at_ 0; have v1 := hSw.2.at_ 1; simp only [List.getElem?_toArray] at u0 u1 v0 v1; go_simp <;> (with_reducible rfl))
  try simp only [Act.put, List.setIfInBounds_toArray, List.set_cons_zero, List.set_cons_succ]
  refine wpAnyH_take (i := 1) (oi := ⟨some 6, _, _, _, _, _⟩) (v := ?_) rfl (by kernel_rfl) (by kernel_rfl) (by kernel_rfl) (fun _ _ _ h => h) (Or.inl ⟨by rfl, ?_⟩) (by assumption) ?_
  rotate_left
  · (intro w' hSw; (try dsimp only at hSw); have u0 := hSw.1.at_ 0; have u1 := hSw.1.at_ 1; have v0 := hSw.2.at_ 0; have v1 := hSw.2.at_ 1; simp only [List.getElem?_toArray] at u0 u1 v0 v1; go_simp <;> (with_reducible rfl))
  try simp only [Act.put, List.setIfInBounds_toArray, List.set_cons_zero, List.set_cons_succ]
  refine wpAnyH_ready (rs := [2]) (by kernel_rfl) (by simp) ?_
  refine AllReadyH.cons (o := ⟨some 7, _, _, _, _, _⟩) rfl (fun K' hK => ?_) AllReadyH.nil
  go_simp
  go_at_call 155
  refine (HN.out _).mono ?_
  rintro e w2 ⟨rfl, hb2⟩
  have hc2 : Below W.heap.size W w2 := by first | exact hb2 | exact below_of_drew hb2 | exact below_of_drew (below_of_drew hb2)
  have hS2 : Box w2 w.heap.size 150 #[.int .i64 1, .slice A n c] ∧ Box w2 (w.heap.size + 1) 150 #[.int .i64 1, .slice B m d] := ⟨hS1.1.below hc2, hS1.2.below hc2⟩
  have HBC2 := hide (HBC.out.below hc2)
  have HB2 := hide (HB1.out.trans (hc2.mono HB1.out.size))
  have HI2 := hide (HI1.out.below hc2)
  have HJ2 := hide (HJ1.out.below hc2)
  clear hb2 hc2 hS1 HBC HB1 HI1 HJ1
  go_wp2_with fail
  refine hK.out _ _ hS2 (fun hHeld => ?_)
  clear hK K'
  try simp only [Act.put, List.setIfInBounds_toArray, List.set_cons_zero, List.set_cons_succ]
  refine wpAnyH_ready (rs := [3]) (by kernel_rfl) (by simp) ?_
  refine AllReadyH.cons (o := ⟨some 8, _, _, _, _, _⟩) rfl (fun K' hK => ?_) AllReadyH.nil
  go_simp
  go_at_call 154
  refine (HW.out _ (by exact HI2.out) (by exact HJ2.out)).mono ?_
  rintro e w3 ⟨R, r, s, rfl, hb2⟩
  have hc3 : Below w2.heap.size w2 w3 := by first | exact hb2 | exact below_of_drew hb2 | exact below_of_drew (below_of_drew hb2)
  have hS3 : Box w3 w.heap.size 150 #[.int .i64 1, .slice A n c] ∧ Box w3 (w.heap.size + 1) 150 #[.int .i64 1, .slice B m d] := ⟨hS2.1.below hc3, hS2.2.below hc3⟩
  have bc3 := HBC2.out.below hc3
  have hB3 := HB2.out.trans (hc3.mono HB2.out.size)
  clear hb2 hc3 hS2 HBC2 HB2 HI2 HJ2
  go_wp2_with fail
  refine hK.out _ _ hS3 (fun hHeld => ?_)
  clear hK K'
  try simp only [Act.put, List.setIfInBounds_toArray, List.set_cons_zero, List.set_cons_succ]
  have f0 := bc3.free 0
  have f1 := bc3.free 1
  have z0 := bc3.at_ 0
  have z1 := bc3.at_ 1
  simp only [List.getElem?_toArray] at z0 z1
  have hlt3 := bc3.lt
  have HC3 := hide ((bc3.set_ 0 (.int .i64 z)).set_ 1 (.slice R r s))
  have HL := hide ((hB3.setCell (p := ⟨w.heap.size + 1 + 1, 0, none⟩) (show w.heap.size ≤ w.heap.size + 1 + 1 by omega) (.int .i64 z)).setCell (p := ⟨w.heap.size + 1 + 1, 1, none⟩) (show w.heap.size ≤ w.heap.size + 1 + 1 by omega) (.slice R r s))
  have HSS := hide (show Box ((w3.setCell ⟨w.heap.size + 1 + 1, 0, none⟩ (.int .i64 z)).setCell ⟨w.heap.size + 1 + 1, 1, none⟩ (.slice R r s)) w.heap.size 150 #[.int .i64 1, .slice A n c] ∧ Box ((w3.setCell ⟨w.heap.size + 1 + 1, 0, none⟩ (.int .i64 z)).setCell ⟨w.heap.size + 1 + 1, 1, none⟩ (.slice R r s)) (w.heap.size + 1) 150 #[.int .i64 1, .slice B m d] from ⟨(hS3.1.other (by simp; omega) _).other (by simp; omega) _, (hS3.2.other (by simp) _).other (by simp) _⟩)
  clear hS3 bc3 hB3
  refine wpAnyH_ready (rs := [4]) (by kernel_rfl) (by simp) ?_
  refine AllReadyH.cons (o := ⟨none, _, _, _, _, _⟩) rfl (fun K' hK => ?_) AllReadyH.nil
  go_simp
  refine hK.out _ _ HSS.out (fun hHeld => ?_)
  clear hK K' f0 f1 z0 z1 hlt3
  try simp only [Act.put, List.setIfInBounds_toArray, List.set_cons_zero, List.set_cons_succ]
  refine wpAnyH_done (by kernel_rfl) ?_ _
  go_wp2_with fail
  have z0 := HC3.out.at_ 0
  have z1 := HC3.out.at_ 1
  simp only [Array.getElem?_setIfInBounds, List.setIfInBounds_toArray, List.getElem?_toArray] at z0 z1
  refine bodyPost_ret (v := .agg #[.int .i64 z, .slice R r s]) ?_ rfl ⟨_, _, _, rfl, by have h := HL.out; exact ⟨h.os, h.tape, h.output, h.size, h.block⟩⟩
  simp [results, Try.results141, go_sem, z0, z1]
set_option maxHeartbeats 1000000 in
set_option maxRecDepth 100000 in
theorem wideCmp_any (A B : Option Addr) (n c m d : Nat) (D E : Nat → Int) (w : World) (hn : n ≤ 1000) (hm : m ≤ 1000) (hI : IntsAt w 0 A n D) (hJ : IntsAt w 0 B m E) (hD : Dig n D) (hE : Dig m E) (hDn : Norm n D) (hEn : Norm m E) :
    Calls Try.prog 114 #[.agg #[.int .i64 1, .slice A n c], .agg #[.int .i64 1, .slice B m d]] w fun e w' => e = .returned (.int .i64 (cmpI (valD D n) (valD E m))) ∧ Below w.heap.size w w' := by
  have HI := hide hI
  have HJ := hide hJ
  have HW := hide (fun W (h1 : IntsAt W 0 A n D) (h2 : IntsAt W 0 B m E) => wideSub_pos A B n c m d D E W hn hm h1 h2 hD hE hDn hEn)
  clear hI hJ hD hE hDn hEn
  generalize valD D n = x at *
  generalize valD E m = y at *
  generalize cmpI x y = z at *
  go_enter Try.func114, Try.ntmps114
  go_upto_region 1 with fail
  obtain ⟨W, hW⟩ : ∃ q : World, q = (w.alloc (.cells #[.int .i64 1, .slice A n c] 150)).alloc (.cells #[.int .i64 1, .slice B m d] 150) := ⟨_, rfl⟩
  rw [← hW]
  have ba : Box W w.heap.size 150 #[.int .i64 1, .slice A n c] := by rw [hW]; exact (Box.made rfl).alloc _
  have bb : Box W (w.heap.size + 1) 150 #[.int .i64 1, .slice B m d] := by rw [hW]; exact Box.made (by simp)
  have hBW : Below w.heap.size w W := by rw [hW]; (repeat (first | (with_reducible exact Below.refl _ _) | (with_reducible refine Go.below_drewN ?_ _) | (with_reducible refine Below.drew ?_) | (with_reducible refine Below.alloc ?_ (by first | exact Nat.le_refl _ | (simp; done) | (simp; omega) | omega) _) | (with_reducible refine Below.setCell ?_ (by first | exact Nat.le_refl _ | (simp; done) | (simp; omega) | omega) _)))
  clear hW
  have x0 := ba.at_ 0
  have x1 := ba.at_ 1
  have y0 := bb.at_ 0
  have y1 := bb.at_ 1
  simp only [List.getElem?_toArray] at x0 x1 y0 y1
  have HI1 := hide (HI.out.below hBW)
  have HJ1 := hide (HJ.out.below hBW)
  go_wp2_with fail
  refine (HW.out _ HI1.out HJ1.out).mono ?_
  rintro e w3 ⟨R, r, s, rfl, hb2⟩
  have hB := hBW.trans (hb2.mono hBW.size)
  have HB := hide hB
  have hfd : ∀ w : World, (Instr.field 150 (.agg #[.int .i64 z, .slice R r s]) 0).run Try.prog w = .ok (.int .i64 z) w := fun _ => by kernel_rfl
  clear hb2 x0 x1 y0 y1 hB hBW ba bb HI1 HJ1 HI HJ HW
  go_wp2_with fail
  go_ret
  exact ⟨rfl, HB.out⟩
set_option maxRecDepth 100000 in
/-- WideCmp of two numbers above 0. -/
theorem wideCmp_pos (V U : Value) (k l : Nat) (x y : Int) (w : World) (hV : WideAt w 0 V k x) (hU : WideAt w 0 U l y) (hx : 0 < x) (hy : 0 < y) (hk : k ≤ 1000) (hl : l ≤ 1000) :
    Calls Try.prog 114 #[V, U] w fun e w' => e = .returned (.int .i64 (cmpI x y)) ∧ Below w.heap.size w w' := by
  obtain ⟨A, n, c, D, rfl, h1, -, h2, h3, h4, -, rfl⟩ := hV.sign_pos hx
  obtain ⟨B, m, d, E, rfl, g1, -, g2, g3, g4, -, rfl⟩ := hU.sign_pos hy
  exact wideCmp_any A B n c m d D E w (by omega) (by omega) h2 g2 h3 g3 h4 g4
set_option maxRecDepth 100000 in
/-- WideMul of a number by itself, or of two above 0. -/
theorem wideMul_pos (V U : Value) (k l : Nat) (x y : Int) (w : World) (hV : WideAt w 0 V k x) (hU : WideAt w 0 U l y) (hk : k ≤ 20) (hl : l ≤ 20) (hx : 0 < x) (hy : 0 < y) :
    Calls Try.prog 112 #[V, U] w fun e w' => ∃ V', e = .returned V' ∧ WideAt w' w.heap.size V' (k + l + 1) (x * y) ∧ Below w.heap.size w w' := by
  obtain ⟨A, n, c, D, rfl, h1, -, h2, h3, -, -, rfl⟩ := hV.sign_pos hx
  obtain ⟨B, m, d, E, rfl, g1, -, g2, g3, -, -, rfl⟩ := hU.sign_pos hy
  refine (wideMul_any 1 1 A B n c m d D E w (by omega) (by omega) h2 g2 h3 g3 (.inl rfl)).mono ?_
  rintro e w' ⟨V', rfl, hW, hB⟩
  rw [Int.one_mul, Int.one_mul] at hW
  exact ⟨V', rfl, hW.weak (Nat.le_refl _) (by omega), hB⟩
set_option maxRecDepth 100000 in
theorem wideMul_self (V U : Value) (k l : Nat) (x : Int) (w : World) (hV : WideAt w 0 V k x) (hU : WideAt w 0 U l x) (hk : k ≤ 20) (hl : l ≤ 20) (hx : x ≠ 0) :
    Calls Try.prog 112 #[V, U] w fun e w' => ∃ V', e = .returned V' ∧ WideAt w' w.heap.size V' (k + l + 1) (x * x) ∧ Below w.heap.size w w' := by
  rcases Int.lt_or_gt_of_ne hx with h | h
  · obtain ⟨s, A, n, c, D, rfl, h1, -, h2, h3, h4, h5, h6, h7⟩ := hV
    obtain ⟨t, B, m, d, E, rfl, g1, -, g2, g3, g4, g5, g6, g7⟩ := hU
    have p1 := (valD_range n h3).1
    have p2 := (valD_range m g3).1
    have hs : s = -1 := by
      rcases h5 with e | e | e
      · exact e
      · rw [e, Int.zero_mul] at h7; omega
      · rw [e, Int.one_mul] at h7; omega
    have ht : t = -1 := by
      rcases g5 with e | e | e
      · exact e
      · rw [e, Int.zero_mul] at g7; omega
      · rw [e, Int.one_mul] at g7; omega
    subst hs
    subst ht
    refine (wideMul_any (-1) (-1) A B n c m d D E w (by omega) (by omega) h2 g2 h3 g3 (.inl rfl)).mono ?_
    rintro e w' ⟨V', rfl, hW, hB⟩
    have e1 : (-1 : Int) * (-1) * (valD D n * valD E m) = x * x := by
      rw [show valD D n = -x by omega, show valD E m = -x by omega, Int.neg_mul_neg, Int.neg_mul_neg, Int.one_mul, Int.one_mul]
    rw [e1] at hW
    exact ⟨V', rfl, hW.weak (Nat.le_refl _) (by omega), hB⟩
  · exact wideMul_pos V U k l x x w hV hU hk hl h h
end Go.Proofs.Ytdkbjgnkehoplaa
/- Numbers of any size: WideOf. -/
namespace Go.Proofs.Ytdkbjgnkehoplaa
open Go.RowKit
def digW (x : Nat) (j : Nat) : Int := ((x / 1000000000 ^ j % 1000000000 : Nat) : Int)
theorem digW_dig (n x : Nat) : Dig n (digW x) := fun j _ => by
  have h := Nat.mod_lt (x / 1000000000 ^ j) (show 0 < 1000000000 by decide)
  unfold digW BB
  omega
theorem digW_next (x k : Nat) : x / 1000000000 ^ (k + 1) = x / 1000000000 ^ k / 1000000000 := by
  rw [Nat.pow_succ, Nat.div_div_eq_div_mul]
theorem digW_val (x : Nat) : ∀ k, valD (digW x) k + ((x / 1000000000 ^ k : Nat) : Int) * BB ^ k = (x : Int)
  | 0 => by rw [Nat.pow_zero, Nat.div_one, Int.pow_zero, Int.mul_one]; exact Int.zero_add _
  | k + 1 => by
    have ih := digW_val x k
    show valD (digW x) k + digW x k * BB ^ k + ((x / 1000000000 ^ (k + 1) : Nat) : Int) * BB ^ (k + 1) = (x : Int)
    rw [digW_next, Int.pow_succ, Int.mul_comm (BB ^ k) BB, show digW x k = ((x / 1000000000 ^ k % 1000000000 : Nat) : Int) from rfl]
    generalize x / 1000000000 ^ k = y at *
    have e1 : ((y % 1000000000 : Nat) : Int) * BB ^ k + ((y / 1000000000 : Nat) : Int) * (BB * BB ^ k) = (y : Int) * BB ^ k := by
      rw [← Int.mul_assoc, ← Int.add_mul]
      congr 1
      unfold BB
      omega
    omega
theorem digW_few {x : Nat} (h : x ≤ 9223372036854775807) : x / 1000000000 ^ 3 = 0 := Nat.div_eq_of_lt (by omega)
set_option maxHeartbeats 2000000 in
theorem wideOf1_any (x : Int) (X : Nat) (w : World) (hX : X ≤ 9223372036854775807) (hx : x = (X : Int) ∨ x = -(X : Int)) :
    Calls Try.prog 113 #[.int .i64 x] w fun e w' => ∃ V, e = .returned V ∧ WideAt w' w.heap.size V 3 x ∧ Below w.heap.size w w' := by
  have HWO := hide (fun (s : Int) (A : Option Addr) (n c : Nat) (W : World) (hn : n ≤ 1000) (hc : n ≤ c) (hI : IntsAt W 0 A n (digW X)) => wideOf_any s A n c (digW X) W hn hc hI)
  have H0 := hide (digW_few hX)
  have HV := hide (fun k (hk : X / 1000000000 ^ k = 0) => (show valD (digW X) k = (X : Int) from by have h := digW_val X k; rw [hk] at h; omega))
  by_cases hneg : x < 0
  · have q1 : IntKind.i64.wrap (-x) = (X : Int) := by rw [IntWalk.i64_in _ (by omega)]; omega
    go_enter Try.func113, Try.ntmps113
    go_upto_region 1 with fail
    obtain ⟨W, hW⟩ : ∃ q : World, q = w.alloc (.cells #[.int .i64 0, .slice none 0 0] 150) := ⟨_, rfl⟩
    rw [← hW]
    have b0 : Box W w.heap.size 150 #[.int .i64 0, .slice none 0 0] := by rw [hW]; exact Box.made rfl
    have hB0 : Below w.heap.size w W := by rw [hW]; (repeat (first | (with_reducible exact Below.refl _ _) | (with_reducible refine Go.below_drewN ?_ _) | (with_reducible refine Below.drew ?_) | (with_reducible refine Below.alloc ?_ (by first | exact Nat.le_refl _ | (simp; done) | (simp; omega) | omega) _) | (with_reducible refine Below.setCell ?_ (by first | exact Nat.le_refl _ | (simp; done) | (simp; omega) | omega) _)))
    have hWs : w.heap.size < W.heap.size := b0.lt
    clear hW
    go_wp2_with fail
    go_loopw [0, 4] (fun x v wr => ∃ k y : Nat, k ≤ 3 ∧ y ≤ X ∧ x = .int .i64 (y : Int) ∧ Hid (y = X / 1000000000 ^ k) ∧ OwnInts wr W.heap.size v k (digW X) ∧ Below W.heap.size W wr) (fun x _ _ => (Go.RowKit.intOf x).toNat)
    case atStart => exact ⟨0, X, by decide, Nat.le_refl _, rfl, hide (by rw [Nat.pow_zero, Nat.div_one]), OwnInts.nil_ _ _ _, Below.refl _ _⟩
    case round =>
      obtain ⟨k, y, hk, hyX, rfl, HY, ho, hB⟩ := hrel
      obtain ⟨wA, rfl⟩ : ∃ x : World, x = wr := ⟨_, rfl⟩
      obtain ⟨O, o9, rfl, ho9, hO⟩ := ho.form
      have hBs := hB.size
      by_cases hy : 0 < y
      · have hyz : (y : Int) > 0 := by omega
        have hk3 : k < 3 := by
          rcases Nat.lt_or_ge k 3 with h | h
          · exact h
          · exfalso
            have e : k = 3 := by omega
            have h1 := HY.out
            rw [e, H0.out] at h1
            omega
        have r1 : (y : Int).tmod 1000000000 = ((y % 1000000000 : Nat) : Int) := rfl
        have r2 : (y : Int).tdiv 1000000000 = ((y / 1000000000 : Nat) : Int) := rfl
        have hm := Nat.mod_lt y (show 0 < 1000000000 by decide)
        have hd : y / 1000000000 < y := Nat.div_lt_self hy (by decide)
        have HN := hide (show y / 1000000000 = X / 1000000000 ^ (k + 1) by rw [digW_next, ← HY.out])
        have HZ := hide (show digW X k = ((y % 1000000000 : Nat) : Int) by rw [HY.out]; rfl)
        generalize y % 1000000000 = z at *
        generalize y / 1000000000 = u at *
        have HO := hide ho
        have HB := hide hB
        clear ho hB hO
        go_wp2_with (at_builtin; refine wpList_append_ints _ rfl (.tmp 11) (.tmp 14) rfl W.heap.size 0 (.slice O k o9) k _ rfl (HO.out.alloc _) (some ⟨_, 0, none⟩) 1 1 (fun _ => (z : Int)) rfl (IntsAt.one _ 0 (z : Int) 3 (Nat.zero_le _)) (by omega) (by simp; omega) ?_; intro v' w' h1 hb4)
        go_roundw
        case rel =>
          refine ⟨k + 1, u, by omega, by omega, by go_num, HN, h1.congr fun j hj => ?_, (HB.out.alloc hBs _).trans hb4⟩
          unfold catF
          by_cases e : j < k
          · rw [if_pos e]
          · obtain rfl : j = k := by omega
            rw [if_neg e, HZ.out]
        case measure => simp [Go.RowKit.intOf]; omega
      · obtain rfl : y = 0 := by omega
        have hyz : ¬ (((0 : Nat) : Int) > 0) := by omega
        have b1 := b0.below hB
        have hlt := b1.lt
        have HT := hide (HWO.out (-1) O k o9 wA (by omega) ho9 (hO.weak (Nat.zero_le _)))
        have HVk := hide (HV.out k HY.out.symm)
        have hBA : Below w.heap.size w wA := hB0.trans (hB.mono (Nat.le_of_lt hWs))
        have HI := hide hO
        clear hy HY ho hO hB b0 hB0
        go_wp2_with fail
        refine HT.out.mono ?_
        rintro e w2 ⟨rfl, hb2⟩
        have b2 := b1.below hb2
        have f0 := b2.free 0
        have f1 := b2.free 1
        have y0 := b2.at_ 0
        have y1 := b2.at_ 1
        simp only [List.getElem?_toArray] at y0 y1
        have hlt2 := b2.lt
        have HC := hide ((b2.set_ 0 (.int .i64 (sgnT (-1) (trimN (digW X) k)))).set_ 1 (.slice O (trimN (digW X) k) o9))
        have hB2 := hBA.trans (hb2.mono hBA.size)
        have HL := hide ((hB2.setCell (p := ⟨w.heap.size, 0, none⟩) (Nat.le_refl _) (.int .i64 (sgnT (-1) (trimN (digW X) k)))).setCell (p := ⟨w.heap.size, 1, none⟩) (Nat.le_refl _) (.slice O (trimN (digW X) k) o9))
        have HWI := hide (show WideAt _ w.heap.size _ 3 x from (show (-1) * valD (digW X) k = x by rw [HVk.out]; omega) ▸ WideAt.of (m := 3) (s := -1) ((((HI.out.below hb2).other (p := ⟨w.heap.size, 0, none⟩) hWs (.int .i64 (sgnT (-1) (trimN (digW X) k)))).other (p := ⟨w.heap.size, 1, none⟩) hWs (.slice O (trimN (digW X) k) o9)).weak (Nat.le_of_lt hWs)) (digW_dig k X) ho9 (by omega) (by omega))
        clear HVk hB2 hb2 HI hBA
        go_wp2_with fail
        clear y0 y1
        have y0 := HC.out.at_ 0
        have y1 := HC.out.at_ 1
        simp only [Array.getElem?_setIfInBounds, List.setIfInBounds_toArray, List.getElem?_toArray] at y0 y1
        refine bodyPost_ret (v := .agg #[.int .i64 (sgnT (-1) (trimN (digW X) k)), .slice O (trimN (digW X) k) o9]) ?_ rfl ⟨_, rfl, HWI.out, HL.out⟩
        simp [results, Try.results113, go_sem, y0, y1]
  · have hxX : x = (X : Int) := by omega
    have hnneg : ¬ ((X : Int) < 0) := by omega
    clear hneg
    subst hxX
    go_enter Try.func113, Try.ntmps113
    go_upto_region 1 with fail
    obtain ⟨W, hW⟩ : ∃ q : World, q = w.alloc (.cells #[.int .i64 0, .slice none 0 0] 150) := ⟨_, rfl⟩
    rw [← hW]
    have b0 : Box W w.heap.size 150 #[.int .i64 0, .slice none 0 0] := by rw [hW]; exact Box.made rfl
    have hB0 : Below w.heap.size w W := by rw [hW]; (repeat (first | (with_reducible exact Below.refl _ _) | (with_reducible refine Go.below_drewN ?_ _) | (with_reducible refine Below.drew ?_) | (with_reducible refine Below.alloc ?_ (by first | exact Nat.le_refl _ | (simp; done) | (simp; omega) | omega) _) | (with_reducible refine Below.setCell ?_ (by first | exact Nat.le_refl _ | (simp; done) | (simp; omega) | omega) _)))
    have hWs : w.heap.size < W.heap.size := b0.lt
    clear hW
    go_wp2_with fail
    go_loopw [0, 4] (fun x v wr => ∃ k y : Nat, k ≤ 3 ∧ y ≤ X ∧ x = .int .i64 (y : Int) ∧ Hid (y = X / 1000000000 ^ k) ∧ OwnInts wr W.heap.size v k (digW X) ∧ Below W.heap.size W wr) (fun x _ _ => (Go.RowKit.intOf x).toNat)
    case atStart => exact ⟨0, X, by decide, Nat.le_refl _, rfl, hide (by rw [Nat.pow_zero, Nat.div_one]), OwnInts.nil_ _ _ _, Below.refl _ _⟩
    case round =>
      obtain ⟨k, y, hk, hyX, rfl, HY, ho, hB⟩ := hrel
      obtain ⟨wA, rfl⟩ : ∃ x : World, x = wr := ⟨_, rfl⟩
      obtain ⟨O, o9, rfl, ho9, hO⟩ := ho.form
      have hBs := hB.size
      by_cases hy : 0 < y
      · have hyz : (y : Int) > 0 := by omega
        have hk3 : k < 3 := by
          rcases Nat.lt_or_ge k 3 with h | h
          · exact h
          · exfalso
            have e : k = 3 := by omega
            have h1 := HY.out
            rw [e, H0.out] at h1
            omega
        have r1 : (y : Int).tmod 1000000000 = ((y % 1000000000 : Nat) : Int) := rfl
        have r2 : (y : Int).tdiv 1000000000 = ((y / 1000000000 : Nat) : Int) := rfl
        have hm := Nat.mod_lt y (show 0 < 1000000000 by decide)
        have hd : y / 1000000000 < y := Nat.div_lt_self hy (by decide)
        have HN := hide (show y / 1000000000 = X / 1000000000 ^ (k + 1) by rw [digW_next, ← HY.out])
        have HZ := hide (show digW X k = ((y % 1000000000 : Nat) : Int) by rw [HY.out]; rfl)
        generalize y % 1000000000 = z at *
        generalize y / 1000000000 = u at *
        have HO := hide ho
        have HB := hide hB
        clear ho hB hO
        go_wp2_with (at_builtin; refine wpList_append_ints _ rfl (.tmp 11) (.tmp 14) rfl W.heap.size 0 (.slice O k o9) k _ rfl (HO.out.alloc _) (some ⟨_, 0, none⟩) 1 1 (fun _ => (z : Int)) rfl (IntsAt.one _ 0 (z : Int) 3 (Nat.zero_le _)) (by omega) (by simp; omega) ?_; intro v' w' h1 hb4)
        go_roundw
        case rel =>
          refine ⟨k + 1, u, by omega, by omega, by go_num, HN, h1.congr fun j hj => ?_, (HB.out.alloc hBs _).trans hb4⟩
          unfold catF
          by_cases e : j < k
          · rw [if_pos e]
          · obtain rfl : j = k := by omega
            rw [if_neg e, HZ.out]
        case measure => simp [Go.RowKit.intOf]; omega
      · obtain rfl : y = 0 := by omega
        have hyz : ¬ (((0 : Nat) : Int) > 0) := by omega
        have b1 := b0.below hB
        have hlt := b1.lt
        have HT := hide (HWO.out (1) O k o9 wA (by omega) ho9 (hO.weak (Nat.zero_le _)))
        have HVk := hide (HV.out k HY.out.symm)
        have hBA : Below w.heap.size w wA := hB0.trans (hB.mono (Nat.le_of_lt hWs))
        have HI := hide hO
        clear hy HY ho hO hB b0 hB0
        go_wp2_with fail
        refine HT.out.mono ?_
        rintro e w2 ⟨rfl, hb2⟩
        have b2 := b1.below hb2
        have f0 := b2.free 0
        have f1 := b2.free 1
        have y0 := b2.at_ 0
        have y1 := b2.at_ 1
        simp only [List.getElem?_toArray] at y0 y1
        have hlt2 := b2.lt
        have HC := hide ((b2.set_ 0 (.int .i64 (sgnT (1) (trimN (digW X) k)))).set_ 1 (.slice O (trimN (digW X) k) o9))
        have hB2 := hBA.trans (hb2.mono hBA.size)
        have HL := hide ((hB2.setCell (p := ⟨w.heap.size, 0, none⟩) (Nat.le_refl _) (.int .i64 (sgnT (1) (trimN (digW X) k)))).setCell (p := ⟨w.heap.size, 1, none⟩) (Nat.le_refl _) (.slice O (trimN (digW X) k) o9))
        have HWI := hide (show WideAt _ w.heap.size _ 3 (X : Int) from (show (1) * valD (digW X) k = (X : Int) by rw [HVk.out]; omega) ▸ WideAt.of (m := 3) (s := 1) ((((HI.out.below hb2).other (p := ⟨w.heap.size, 0, none⟩) hWs (.int .i64 (sgnT (1) (trimN (digW X) k)))).other (p := ⟨w.heap.size, 1, none⟩) hWs (.slice O (trimN (digW X) k) o9)).weak (Nat.le_of_lt hWs)) (digW_dig k X) ho9 (by omega) (by omega))
        clear HVk hB2 hb2 HI hBA
        go_wp2_with fail
        clear y0 y1
        have y0 := HC.out.at_ 0
        have y1 := HC.out.at_ 1
        simp only [Array.getElem?_setIfInBounds, List.setIfInBounds_toArray, List.getElem?_toArray] at y0 y1
        refine bodyPost_ret (v := .agg #[.int .i64 (sgnT (1) (trimN (digW X) k)), .slice O (trimN (digW X) k) o9]) ?_ rfl ⟨_, rfl, HWI.out, HL.out⟩
        simp [results, Try.results113, go_sem, y0, y1]
end Go.Proofs.Ytdkbjgnkehoplaa
/- SquareErr, SquareOf, SquaresErr and Compared of the reference. -/
namespace Go.Proofs.Ytdkbjgnkehoplaa
open Go.RowKit
set_option maxHeartbeats 2000000 in
set_option maxRecDepth 100000 in
theorem squareOfR_any (x : Num) (w : World) (hx : x.Within 1000000) :
    Calls Try.prog 76 #[.agg #[.int .i64 x.a, .int .i64 x.b, .int .i64 x.c, .int .i64 x.d]] w fun e w' => e = .returned (.agg #[.int .i64 x.sqP, .int .i64 x.sqQ]) ∧ Below w.heap.size w w' := by
  obtain ⟨ha, hb, hc, hd⟩ := hx
  have HP := hide (show x.sqP = x.a * x.a + x.b * x.b + x.c * x.c + x.d * x.d from rfl)
  have HQ := hide (show x.sqQ = x.a * x.b + x.b * x.c + x.c * x.d - x.a * x.d from rfl)
  obtain ⟨a, b, c, d⟩ := x
  simp only at ha hb hc hd HP HQ ⊢
  have m1 := mul_within ha ha
  have m2 := mul_within hb hb
  have m3 := mul_within hc hc
  have m4 := mul_within hd hd
  have m5 := mul_within ha hb
  have m6 := mul_within hb hc
  have m7 := mul_within hc hd
  have m8 := mul_within ha hd
  obtain ⟨P, hP⟩ : ∃ P, P = (⟨a, b, c, d⟩ : Num).sqP := ⟨_, rfl⟩
  obtain ⟨Q, hQ⟩ : ∃ Q, Q = (⟨a, b, c, d⟩ : Num).sqQ := ⟨_, rfl⟩
  rw [← hP] at HP ⊢
  rw [← hQ] at HQ ⊢
  clear hP hQ ha hb hc hd
  generalize e1 : a * a = aa at *
  generalize e2 : b * b = bb at *
  generalize e3 : c * c = cc at *
  generalize e4 : d * d = dd at *
  generalize e5 : a * b = ab at *
  generalize e6 : b * c = bc at *
  generalize e7 : c * d = cd at *
  generalize e8 : a * d = ad at *
  have q1 : IntKind.i64.wrap aa = aa := IntWalk.i64_in _ (by omega)
  have q2 : IntKind.i64.wrap bb = bb := IntWalk.i64_in _ (by omega)
  have q3 : IntKind.i64.wrap cc = cc := IntWalk.i64_in _ (by omega)
  have q4 : IntKind.i64.wrap dd = dd := IntWalk.i64_in _ (by omega)
  have q5 : IntKind.i64.wrap ab = ab := IntWalk.i64_in _ (by omega)
  have q6 : IntKind.i64.wrap bc = bc := IntWalk.i64_in _ (by omega)
  have q7 : IntKind.i64.wrap cd = cd := IntWalk.i64_in _ (by omega)
  have q8 : IntKind.i64.wrap ad = ad := IntWalk.i64_in _ (by omega)
  have q9 : IntKind.i64.wrap (aa + bb) = aa + bb := IntWalk.i64_in _ (by omega)
  have q10 : IntKind.i64.wrap (aa + bb + cc) = aa + bb + cc := IntWalk.i64_in _ (by omega)
  have q11 : IntKind.i64.wrap (aa + bb + cc + dd) = P := by rw [HP.out]; exact IntWalk.i64_in _ (by omega)
  have q12 : IntKind.i64.wrap (ab + bc) = ab + bc := IntWalk.i64_in _ (by omega)
  have q13 : IntKind.i64.wrap (ab + bc + cd) = ab + bc + cd := IntWalk.i64_in _ (by omega)
  have q14 : IntKind.i64.wrap (ab + bc + cd - ad) = Q := by rw [HQ.out]; exact IntWalk.i64_in _ (by omega)
  clear m1 m2 m3 m4 m5 m6 m7 m8
  go_enter Try.func76, Try.ntmps76
  go_wp2_with fail
  have hbx : Box ((w.alloc (.cells #[.int .i64 a, .int .i64 b, .int .i64 c, .int .i64 d] 109)).alloc (.cells #[.int .i64 P, .int .i64 Q] 39)) (w.heap.size + 1) 39 #[.int .i64 P, .int .i64 Q] := Box.made (by simp)
  have y0 := hbx.at_ 0
  have y1 := hbx.at_ 1
  simp only [List.getElem?_toArray] at y0 y1
  refine bodyPost_ret (v := .agg #[.int .i64 P, .int .i64 Q]) ?_ rfl ⟨rfl, by (repeat (first | (with_reducible exact Below.refl _ _) | (with_reducible refine Go.below_drewN ?_ _) | (with_reducible refine Below.drew ?_) | (with_reducible refine Below.alloc ?_ (by first | exact Nat.le_refl _ | (simp; done) | (simp; omega) | omega) _) | (with_reducible refine Below.setCell ?_ (by first | exact Nat.le_refl _ | (simp; done) | (simp; omega) | omega) _)))⟩
  simp [results, Try.results76, go_sem, y0, y1]
/-- Twice a square is no square. -/
theorem no_root : ∀ (n p q : Nat), q ≤ n → p * p = 2 * (q * q) → q = 0
  | 0, _, _, h, _ => by omega
  | n + 1, p, q, h, e => by
    rcases Nat.mod_two_eq_zero_or_one p with h2 | h2
    · obtain ⟨k, rfl⟩ : ∃ k, p = 2 * k := ⟨p / 2, by omega⟩
      have e0 : 2 * k * (2 * k) = 2 * 2 * (k * k) := Nat.mul_mul_mul_comm 2 k 2 k
      have e1 : q * q = 2 * (k * k) := by omega
      rcases Nat.eq_zero_or_pos q with hq | hq
      · exact hq
      · have hqq := Nat.mul_pos hq hq
        have hk : k < q := by
          rcases Nat.lt_or_ge k q with h' | h'
          · exact h'
          · have := Nat.mul_le_mul h' h'
            omega
        have hk0 := no_root n q k (by omega) e1
        subst hk0
        omega
    · obtain ⟨k, rfl⟩ : ∃ k, p = 2 * k + 1 := ⟨p / 2, by omega⟩
      rw [Nat.add_mul, Nat.one_mul, Nat.mul_assoc] at e
      omega
theorem no_rootI {p q : Int} (hq : q ≠ 0) : p * p ≠ 2 * (q * q) := fun e => by
  have e1 := congrArg Int.natAbs e
  rw [Int.natAbs_mul, Int.natAbs_mul, Int.natAbs_mul] at e1
  have := no_root q.natAbs p.natAbs q.natAbs (Nat.le_refl _) e1
  omega
/-- What the reference's Compared says of the differences of two squares. -/
def refC (p q : Int) : Int := if 0 ≤ p ∧ 0 ≤ q then (if p = 0 ∧ q = 0 then 0 else 1) else if p ≤ 0 ∧ q ≤ 0 then -1 else if (0 < cmpI (p * p) (2 * (q * q))) = (0 < p) then 1 else -1
theorem refC_comp (p q : Int) : refC p q = compI p (-q) := by
  unfold refC compI
  have e1 : -q * (-q * 2) = 2 * (q * q) := by rw [Int.neg_mul, Int.neg_mul, Int.mul_neg, Int.neg_neg, Int.mul_comm 2, Int.mul_assoc]
  rw [e1]
  rcases Int.lt_trichotomy p 0 with hp | hp | hp
  · rcases Int.lt_trichotomy q 0 with hq | hq | hq
    · rw [if_neg (by omega), if_pos (by omega), cmpI_lt hp, cmpI_gt (show 0 < -q by omega)]; rw [if_neg (by decide)]; decide
    · subst hq
      rw [if_neg (by omega), if_pos (by omega), cmpI_lt hp]; rw [if_neg (by decide)]; decide
    · have hn := no_rootI (p := p) (q := q) (by omega)
      rw [if_neg (by omega), if_neg (by omega), cmpI_lt hp, cmpI_lt (show -q < 0 by omega), if_pos rfl]
      rcases Int.lt_trichotomy (p * p) (2 * (q * q)) with h | h | h
      · rw [cmpI_lt h, if_pos (by simp; omega)]; decide
      · exact absurd h hn
      · rw [cmpI_gt h, if_neg (by simp; omega)]; decide
  · subst hp
    rcases Int.lt_trichotomy q 0 with hq | hq | hq
    · rw [if_neg (by omega), if_pos (by omega), cmpI_gt (show 0 < -q by omega)]; rw [if_neg (by decide)]; decide
    · subst hq; decide
    · rw [if_pos (by omega), if_neg (by omega), cmpI_lt (show -q < 0 by omega)]; rw [if_neg (by decide)]; decide
  · rcases Int.lt_trichotomy q 0 with hq | hq | hq
    · have hn := no_rootI (p := p) (q := q) (by omega)
      rw [if_neg (by omega), if_neg (by omega), cmpI_gt hp, cmpI_gt (show 0 < -q by omega), if_pos rfl]
      rcases Int.lt_trichotomy (p * p) (2 * (q * q)) with h | h | h
      · rw [cmpI_lt h, if_neg (by simp; omega)]; decide
      · exact absurd h hn
      · rw [cmpI_gt h, if_pos (by simp; omega)]; decide
    · subst hq
      rw [if_pos (by omega), if_neg (by omega), cmpI_gt hp]; rw [if_neg (by decide)]; decide
    · rw [if_pos (by omega), if_neg (by omega), cmpI_gt hp, cmpI_lt (show -q < 0 by omega)]; rw [if_neg (by decide)]; decide
end Go.Proofs.Ytdkbjgnkehoplaa
