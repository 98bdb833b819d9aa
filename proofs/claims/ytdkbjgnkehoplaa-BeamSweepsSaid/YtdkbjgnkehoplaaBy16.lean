/- Lemmas: E53, E55. -/
import Derived.Test.YtdkbjgnkehoplaaBy06
import Derived.Test.YtdkbjgnkehoplaaBy11
import Derived.Test.YtdkbjgnkehoplaaBy12
set_option linter.unusedVariables false
set_option linter.unusedSimpArgs false
/- powerOf and PowerOf of the code. -/
namespace Go.Proofs.Ytdkbjgnkehoplaa
open Go.RowKit Go.Great
/-- The power of a beam for a channel. -/
def pwP (n : Nat) (F : Nat → Int) (X : Nat → Gau) : Int := (tsN F X n).sqP
def pwQ (n : Nat) (F : Nat → Int) (X : Nat → Gau) : Int := (tsN F X n).sqQ
theorem ts_small {n : Nat} {F : Nat → Int} {X : Nat → Gau} (h : OkC n X) : (tsN F X n).Within 240 := (tsN_within (by decide) n h.small).more (by have := h.n8; omega)
theorem pw_bounds {n : Nat} {F : Nat → Int} {X : Nat → Gau} (h : OkC n X) : (-1000000 ≤ pwP n F X ∧ pwP n F X ≤ 1000000) ∧ -1000000 ≤ pwQ n F X ∧ pwQ n F X ≤ 1000000 := by
  have hw := ts_small (F := F) h
  unfold pwP pwQ
  generalize tsN F X n = x at hw
  obtain ⟨a, b, c, d⟩ := hw
  have h1 := prod_le a a
  have h2 := prod_le b b
  have h3 := prod_le c c
  have h4 := prod_le d d
  have h5 := prod_le a b
  have h6 := prod_le b c
  have h7 := prod_le c d
  have h8 := prod_le a d
  have hP : x.sqP = x.a * x.a + x.b * x.b + x.c * x.c + x.d * x.d := rfl
  have hQ : x.sqQ = x.a * x.b + x.b * x.c + x.c * x.d - x.a * x.d := rfl
  rw [hP, hQ]
  omega
set_option maxHeartbeats 4000000 in
set_option maxRecDepth 100000 in
theorem powerOf_any (A B : Option Addr) (n c d : Nat) (F : Nat → Int) (X : Nat → Gau) (w : World) (h : OkC n X) (hF : ∀ j, j < n → -1 ≤ F j ∧ F j ≤ 7) (hI : IntsAt w 0 A n F) (hJ : GausAt w 0 B n X) :
    Calls Try.prog 71 #[.agg #[.slice A n c], .slice B n d] w fun e w' => e = .returned (.agg #[.int .i64 (pwP n F X), .int .i64 (pwQ n F X)]) ∧ Below w.heap.size w w' := by
  have HI := hide hI
  have HJ := hide hJ
  have hn8 := h.n8
  have HCO := hide (fun W (k : GausAt W 0 B n X) => complexOf_any B n d X W (by omega) k)
  have HTS := hide (fun (C : Option Addr) W (k : IntsAt W 0 A n F) (l : CpxAt W C n (cU X) (cV X)) => turnedSum_any A C n c n F (cU X) (cV X) X W (by omega) k l hF (cUV_whole h.more) h.more)
  have HSQ := hide (fun W => squareOf_any (tsN F X n) W ((ts_small h).more (by decide)))
  rw [show (tsN F X n).sqP = pwP n F X from rfl, show (tsN F X n).sqQ = pwQ n F X from rfl] at HSQ
  obtain ⟨P, hP⟩ : ∃ z, pwP n F X = z := ⟨_, rfl⟩
  obtain ⟨Q, hQ⟩ : ∃ z, pwQ n F X = z := ⟨_, rfl⟩
  simp only [hP, hQ] at HSQ ⊢
  obtain ⟨U, hU⟩ : ∃ z, cU X = z := ⟨_, rfl⟩
  obtain ⟨V, hV⟩ : ∃ z, cV X = z := ⟨_, rfl⟩
  simp only [hU, hV] at HCO HTS
  obtain ⟨T, hT⟩ : ∃ z, tsN F X n = z := ⟨_, rfl⟩
  simp only [hT] at HTS HSQ
  clear hI hJ h hF hP hQ hU hV hT
  go_enter Try.func71, Try.ntmps71
  go_upto_region 1 with fail
  obtain ⟨w_1, hw_1⟩ : ∃ q : World, q = ((w.alloc (.cells #[.slice A n c] 43)).alloc (.cells #[.int .i64 0, .int .i64 0] 39)) := ⟨_, rfl⟩
  try rw [← hw_1]
  have HX0 := hide (show Box w_1 (w.heap.size) 43 #[.slice A n c] by rw [hw_1]; exact (Box.made rfl).alloc _)
  have HX1 := hide (show Box w_1 (w.heap.size + 1) 39 #[.int .i64 0, .int .i64 0] by rw [hw_1]; exact Box.made (by simp))
  have HB := hide (show Below w.heap.size w w_1 by rw [hw_1]; (repeat (first | (with_reducible exact Below.refl _ _) | (with_reducible refine Go.below_drewN ?_ _) | (with_reducible refine Below.drew ?_) | (with_reducible refine Below.alloc ?_ (by first | exact Nat.le_refl _ | (simp; done) | (simp; omega) | omega) _) | (with_reducible refine Below.setCell ?_ (by first | exact Nat.le_refl _ | (simp; done) | (simp; omega) | omega) _))))
  clear hw_1
  refine wp_region_held_drew (S := fun w' => w'.cell? ⟨w.heap.size, 0, none⟩ = some (.slice A n c)) (by kernel_rfl) HX0.out.c1.1 (fun hHeld => ?_)
  obtain ⟨w_2, hw_2⟩ : ∃ q : World, q = w_1.drew := ⟨_, rfl⟩
  rw [← hw_2] at hHeld ⊢
  have hc_2 : Below w_1.heap.size w_1 w_2 := by rw [hw_2]; exact (Below.refl _ _).drew
  clear hw_2
  replace HX0 := hide (HX0.out.below hc_2)
  replace HX1 := hide (HX1.out.below hc_2)
  replace HB := hide (HB.out.trans (hc_2.mono HB.out.size))
  clear hc_2
  refine wpAnyH_take (i := 0) (oi := ⟨some 5, _, _, _, _, _⟩) (v := ?_) rfl (by kernel_rfl) (by kernel_rfl) (by kernel_rfl) (fun _ _ _ h => h) (Or.inl ⟨by rfl, ?_⟩) (by assumption) ?_
  rotate_left
  · (intro w' hSw; (try dsimp only at hSw); go_simp <;> (with_reducible rfl))
  try simp only [Act.put, List.setIfInBounds_toArray, List.set_cons_zero, List.set_cons_succ]
  refine wpAnyH_take (i := 1) (oi := ⟨some 6, _, _, _, _, _⟩) (v := ?_) rfl (by kernel_rfl) (by kernel_rfl) (by kernel_rfl) (fun _ _ _ h => h) (Or.inl ⟨by rfl, ?_⟩) (by assumption) ?_
  rotate_left
  · (intro w' hSw; (try dsimp only at hSw); go_simp <;> (with_reducible rfl))
  try simp only [Act.put, List.setIfInBounds_toArray, List.set_cons_zero, List.set_cons_succ]
  refine wpAnyH_take (i := 2) (oi := ⟨some 7, _, _, _, _, _⟩) (v := ?_) rfl (by kernel_rfl) (by kernel_rfl) (by kernel_rfl) (fun _ _ _ h => h) (Or.inl ⟨by rfl, ?_⟩) (by assumption) ?_
  rotate_left
  · (intro w' hSw; (try dsimp only at hSw); go_simp <;> (with_reducible rfl))
  try simp only [Act.put, List.setIfInBounds_toArray, List.set_cons_zero, List.set_cons_succ]
  refine wpAnyH_ready (rs := [3]) (by kernel_rfl) (by simp) ?_
  refine AllReadyH.cons (o := ⟨some 8, _, _, _, _, _⟩) rfl (fun K' hK => ?_) AllReadyH.nil
  go_simp
  go_at_call 83
  refine (HCO.out _ (HJ.out.below HB.out)).mono ?_
  rintro e_ w_3 ⟨C, rfl, hC, hb_3⟩
  replace HX0 := hide (HX0.out.below hb_3)
  replace HX1 := hide (HX1.out.below hb_3)
  replace HB := hide (HB.out.trans (hb_3.mono HB.out.size))
  clear hb_3
  have HC1 := hide hC
  clear hC
  go_wp2_with fail
  refine hK.out _ _ HX0.out.c1.1 (fun hHeld => ?_)
  clear hK K'
  try simp only [Act.put, List.setIfInBounds_toArray, List.set_cons_zero, List.set_cons_succ]
  refine wpAnyH_ready (rs := [4]) (by kernel_rfl) (by simp) ?_
  refine AllReadyH.cons (o := ⟨some 9, _, _, _, _, _⟩) rfl (fun K' hK => ?_) AllReadyH.nil
  go_simp
  go_at_call 118
  refine (HTS.out _ _ (HI.out.below HB.out) HC1.out).mono ?_
  rintro e_ w_4 ⟨rfl, hb_4⟩
  replace HX0 := hide (HX0.out.below hb_4)
  replace HX1 := hide (HX1.out.below hb_4)
  replace HC1 := hide (HC1.out.below hb_4)
  replace HB := hide (HB.out.trans (hb_4.mono HB.out.size))
  clear hb_4
  go_wp2_with fail
  refine hK.out _ _ HX0.out.c1.1 (fun hHeld => ?_)
  clear hK K'
  try simp only [Act.put, List.setIfInBounds_toArray, List.set_cons_zero, List.set_cons_succ]
  refine wpAnyH_ready (rs := [5]) (by kernel_rfl) (by simp) ?_
  refine AllReadyH.cons (o := ⟨some 10, _, _, _, _, _⟩) rfl (fun K' hK => ?_) AllReadyH.nil
  go_simp
  go_at_call 102
  refine (HSQ.out _).mono ?_
  rintro e_ w_5 ⟨rfl, hb_5⟩
  replace HX0 := hide (HX0.out.below hb_5)
  replace HX1 := hide (HX1.out.below hb_5)
  replace HC1 := hide (HC1.out.below hb_5)
  replace HB := hide (HB.out.trans (hb_5.mono HB.out.size))
  clear hb_5
  go_wp2_with fail
  refine hK.out _ _ HX0.out.c1.1 (fun hHeld => ?_)
  clear hK K'
  try simp only [Act.put, List.setIfInBounds_toArray, List.set_cons_zero, List.set_cons_succ]
  refine wpAnyH_ready (rs := [6]) (by kernel_rfl) (by simp) ?_
  refine AllReadyH.cons (o := ⟨none, _, _, _, _, _⟩) rfl (fun K' hK => ?_) AllReadyH.nil
  obtain ⟨x0, x1, f0, f1, hlx⟩ := HX1.out.c2
  go_simp
  clear x0 x1 f0 f1 hlx
  replace HX0 := hide ((HX0.out.other (p := ⟨w.heap.size + 1, 0, none⟩) (by show w.heap.size ≠ w.heap.size + 1; omega) (.int .i64 P)).other (p := ⟨w.heap.size + 1, 1, none⟩) (by show w.heap.size ≠ w.heap.size + 1; omega) (.int .i64 Q))
  replace HX1 := hide (HX1.out.put2 (.int .i64 P) (.int .i64 Q))
  replace HB := hide ((HB.out.setCell (p := ⟨w.heap.size + 1, 0, none⟩) (Nat.le_succ _) (.int .i64 P)).setCell (p := ⟨w.heap.size + 1, 1, none⟩) (Nat.le_succ _) (.int .i64 Q))
  obtain ⟨w_6, hw_6⟩ : ∃ q : World, (w_5.setCell ⟨w.heap.size + 1, 0, none⟩ (.int .i64 P)).setCell ⟨w.heap.size + 1, 1, none⟩ (.int .i64 Q) = q := ⟨_, rfl⟩
  rw [hw_6] at HX0 HX1 HB ⊢
  clear hw_6
  refine hK.out _ _ HX0.out.c1.1 (fun hHeld => ?_)
  clear hK K'
  try simp only [Act.put, List.setIfInBounds_toArray, List.set_cons_zero, List.set_cons_succ]
  refine wpAnyH_done (by kernel_rfl) ?_ _
  obtain ⟨x0, x1, -, -, hlx⟩ := HX1.out.c2
  go_wp2_with fail
  refine bodyPost_ret (v := .agg #[.int .i64 P, .int .i64 Q]) ?_ rfl ⟨rfl, HB.out⟩
  simp [results, Try.results71, go_sem, x0, x1]
/-- The error of a beam and a channel, and what is handed back beside it. -/
def pwE (n m : Nat) (F : Nat → Int) (X : Nat → Gau) : Int := firstE [cbE n F, chE m X, unI ((n : Int) == (m : Int)) 13]
def poP (n m : Nat) (F : Nat → Int) (X : Nat → Gau) : Int := if pwE n m F X = 0 then pwP n F X else 0
def poQ (n m : Nat) (F : Nat → Int) (X : Nat → Gau) : Int := if pwE n m F X = 0 then pwQ n F X else 0
theorem pwE_zero {n m : Nat} {F : Nat → Int} {X : Nat → Gau} (h : pwE n m F X = 0) : m = n ∧ cbE n F = 0 ∧ OkC n X ∧ ∀ j, j < n → -1 ≤ F j ∧ F j ≤ 7 := by
  obtain ⟨h1, h2⟩ := firstE_none2 h
  obtain ⟨h4, h3⟩ := firstE_none2 h2
  obtain ⟨h5, -⟩ := firstE_none2 h3
  have h6 := unI_none (by decide) h5
  simp at h6
  clear h h2 h3 h5
  obtain rfl : m = n := by omega
  exact ⟨rfl, h1, chE_ok h4, (cbE_zero h1).2.1⟩
set_option maxHeartbeats 4000000 in
set_option maxRecDepth 100000 in
theorem PowerOf_any (A B : Option Addr) (n c m d : Nat) (F : Nat → Int) (X : Nat → Gau) (w : World) (hn : n ≤ 100000) (hm : m ≤ 100000) (hI : IntsAt w 0 A n F) (hJ : GausAt w 0 B m X) :
    Calls Try.prog 20 #[.agg #[.slice A n c], .slice B m d] w fun e w' => e = .returned (.tuple #[.agg #[.int .i64 (poP n m F X), .int .i64 (poQ n m F X)], .int .i64 (pwE n m F X)]) ∧ Below w.heap.size w w' := by
  have HI := hide hI
  have HJ := hide hJ
  have HQ := hide (show firstE [cbE n F, chE m X, unI ((n : Int) == (m : Int)) 13] = pwE n m F X from rfl)
  have HBE := hide (fun W (h : IntsAt W 0 A n F) => beamError_any A n c F W hn h)
  have HCE := hide (fun W (h : GausAt W 0 B m X) => channelError_any B m d X W hm h)
  have HZ := hide (pwE_zero (n := n) (m := m) (F := F) (X := X))
  have HP := hide (show poP n m F X = if pwE n m F X = 0 then pwP n F X else 0 from rfl)
  have HS := hide (show poQ n m F X = if pwE n m F X = 0 then pwQ n F X else 0 from rfl)
  obtain ⟨P, hP⟩ : ∃ z, poP n m F X = z := ⟨_, rfl⟩
  obtain ⟨Q, hQ⟩ : ∃ z, poQ n m F X = z := ⟨_, rfl⟩
  obtain ⟨V, hV⟩ : ∃ z, pwE n m F X = z := ⟨_, rfl⟩
  obtain ⟨u, hu⟩ : ∃ z, cbE n F = z := ⟨_, rfl⟩
  obtain ⟨v, hv⟩ : ∃ z, chE m X = z := ⟨_, rfl⟩
  simp only [hP, hQ, hV, hu, hv] at HQ HBE HCE HZ HP HS ⊢
  clear hI hJ hP hQ hV hu hv
  go_enter Try.func20, Try.ntmps20
  go_upto_region 1 with fail
  obtain ⟨w_1, hw_1⟩ : ∃ q : World, q = ((w.alloc (.cells #[.slice A n c] 43)).alloc (.cells #[.int .i64 0, .int .i64 0] 39)) := ⟨_, rfl⟩
  try rw [← hw_1]
  have HX0 := hide (show Box w_1 (w.heap.size) 43 #[.slice A n c] by rw [hw_1]; exact (Box.made rfl).alloc _)
  have HX1 := hide (show Box w_1 (w.heap.size + 1) 39 #[.int .i64 0, .int .i64 0] by rw [hw_1]; exact Box.made (by simp))
  have HB := hide (show Below w.heap.size w w_1 by rw [hw_1]; (repeat (first | (with_reducible exact Below.refl _ _) | (with_reducible refine Go.below_drewN ?_ _) | (with_reducible refine Below.drew ?_) | (with_reducible refine Below.alloc ?_ (by first | exact Nat.le_refl _ | (simp; done) | (simp; omega) | omega) _) | (with_reducible refine Below.setCell ?_ (by first | exact Nat.le_refl _ | (simp; done) | (simp; omega) | omega) _))))
  clear hw_1
  refine wp_region_held_drew (S := fun w' => w'.cell? ⟨w.heap.size, 0, none⟩ = some (.slice A n c)) (by kernel_rfl) HX0.out.c1.1 (fun hHeld => ?_)
  obtain ⟨w_2, hw_2⟩ : ∃ q : World, q = w_1.drew := ⟨_, rfl⟩
  rw [← hw_2] at hHeld ⊢
  have hc_2 : Below w_1.heap.size w_1 w_2 := by rw [hw_2]; exact (Below.refl _ _).drew
  clear hw_2
  replace HX0 := hide (HX0.out.below hc_2)
  replace HX1 := hide (HX1.out.below hc_2)
  replace HB := hide (HB.out.trans (hc_2.mono HB.out.size))
  clear hc_2
  refine wpAnyH_take (i := 0) (oi := ⟨some 7, _, _, _, _, _⟩) (v := ?_) rfl (by kernel_rfl) (by kernel_rfl) (by kernel_rfl) (fun _ _ _ h => h) (Or.inl ⟨by rfl, ?_⟩) (by assumption) ?_
  rotate_left
  · (intro w' hSw; (try dsimp only at hSw); go_simp <;> (with_reducible rfl))
  try simp only [Act.put, List.setIfInBounds_toArray, List.set_cons_zero, List.set_cons_succ]
  refine wpAnyH_take (i := 2) (oi := ⟨some 9, _, _, _, _, _⟩) (v := ?_) rfl (by kernel_rfl) (by kernel_rfl) (by kernel_rfl) (fun _ _ _ h => h) (Or.inl ⟨by rfl, ?_⟩) (by assumption) ?_
  rotate_left
  · (intro w' hSw; (try dsimp only at hSw); go_simp <;> (with_reducible rfl))
  try simp only [Act.put, List.setIfInBounds_toArray, List.set_cons_zero, List.set_cons_succ]
  refine wpAnyH_take (i := 4) (oi := ⟨some 11, _, _, _, _, _⟩) (v := ?_) rfl (by kernel_rfl) (by kernel_rfl) (by kernel_rfl) (fun _ _ _ h => h) (Or.inl ⟨by rfl, ?_⟩) (by assumption) ?_
  rotate_left
  · (intro w' hSw; (try dsimp only at hSw); go_simp <;> (with_reducible rfl))
  try simp only [Act.put, List.setIfInBounds_toArray, List.set_cons_zero, List.set_cons_succ]
  refine wpAnyH_take (i := 5) (oi := ⟨some 12, _, _, _, _, _⟩) (v := ?_) rfl (by kernel_rfl) (by kernel_rfl) (by kernel_rfl) (fun _ _ _ h => h) (Or.inl ⟨by rfl, ?_⟩) (by assumption) ?_
  rotate_left
  · (intro w' hSw; (try dsimp only at hSw); go_simp <;> (with_reducible rfl))
  try simp only [Act.put, List.setIfInBounds_toArray, List.set_cons_zero, List.set_cons_succ]
  refine wpAnyH_take (i := 6) (oi := ⟨some 13, _, _, _, _, _⟩) (v := ?_) rfl (by kernel_rfl) (by kernel_rfl) (by kernel_rfl) (fun _ _ _ h => h) (Or.inl ⟨by rfl, ?_⟩) (by assumption) ?_
  rotate_left
  · (intro w' hSw; (try dsimp only at hSw); go_simp <;> (with_reducible rfl))
  try simp only [Act.put, List.setIfInBounds_toArray, List.set_cons_zero, List.set_cons_succ]
  refine wpAnyH_take (i := 7) (oi := ⟨some 14, _, _, _, _, _⟩) (v := ?_) rfl (by kernel_rfl) (by kernel_rfl) (by kernel_rfl) (fun _ _ _ h => h) (Or.inl ⟨by rfl, ?_⟩) (by assumption) ?_
  rotate_left
  · (intro w' hSw; (try dsimp only at hSw); go_simp <;> (with_reducible rfl))
  try simp only [Act.put, List.setIfInBounds_toArray, List.set_cons_zero, List.set_cons_succ]
  refine wpAnyH_take (i := 8) (oi := ⟨some 15, _, _, _, _, _⟩) (v := ?_) rfl (by kernel_rfl) (by kernel_rfl) (by kernel_rfl) (fun _ _ _ h => h) (Or.inl ⟨by rfl, ?_⟩) (by assumption) ?_
  rotate_left
  · (intro w' hSw; (try dsimp only at hSw); go_simp <;> (with_reducible rfl))
  try simp only [Act.put, List.setIfInBounds_toArray, List.set_cons_zero, List.set_cons_succ]
  refine wpAnyH_take (i := 9) (oi := ⟨some 16, _, _, _, _, _⟩) (v := ?_) rfl (by kernel_rfl) (by kernel_rfl) (by kernel_rfl) (fun _ _ _ h => h) (Or.inl ⟨by rfl, ?_⟩) (by assumption) ?_
  rotate_left
  · (intro w' hSw; (try dsimp only at hSw); go_simp <;> (with_reducible rfl))
  try simp only [Act.put, List.setIfInBounds_toArray, List.set_cons_zero, List.set_cons_succ]
  refine wpAnyH_ready (rs := [1]) (by kernel_rfl) (by simp) ?_
  refine AllReadyH.cons (o := ⟨some 8, _, _, _, _, _⟩) rfl (fun K' hK => ?_) AllReadyH.nil
  go_simp
  go_at_call 68
  refine (HBE.out _ (HI.out.below HB.out)).mono ?_
  rintro e_ w_3 ⟨rfl, hb_3⟩
  replace HX0 := hide (HX0.out.below hb_3)
  replace HX1 := hide (HX1.out.below hb_3)
  replace HB := hide (HB.out.trans (hb_3.mono HB.out.size))
  clear hb_3
  go_wp2_with fail
  refine hK.out _ _ HX0.out.c1.1 (fun hHeld => ?_)
  clear hK K'
  try simp only [Act.put, List.setIfInBounds_toArray, List.set_cons_zero, List.set_cons_succ]
  refine wpAnyH_ready (rs := [3]) (by kernel_rfl) (by simp) ?_
  refine AllReadyH.cons (o := ⟨some 10, _, _, _, _, _⟩) rfl (fun K' hK => ?_) AllReadyH.nil
  go_simp
  go_at_call 69
  refine (HCE.out _ (HJ.out.below HB.out)).mono ?_
  rintro e_ w_4 ⟨rfl, hb_4⟩
  replace HX0 := hide (HX0.out.below hb_4)
  replace HX1 := hide (HX1.out.below hb_4)
  replace HB := hide (HB.out.trans (hb_4.mono HB.out.size))
  clear hb_4
  go_wp2_with fail
  refine hK.out _ _ HX0.out.c1.1 (fun hHeld => ?_)
  clear hK K'
  try simp only [Act.put, List.setIfInBounds_toArray, List.set_cons_zero, List.set_cons_succ]
  refine wpAnyH_ready (rs := [10]) (by kernel_rfl) (by simp) ?_
  refine AllReadyH.cons (o := ⟨some 17, _, _, _, _, _⟩) rfl (fun K' hK => ?_) AllReadyH.nil
  go_simp
  go_at_call 70
  refine (unless_any _ _ _).mono ?_
  rintro e_ v_ ⟨rfl, rfl⟩
  go_wp2_with fail
  refine hK.out _ _ HX0.out.c1.1 (fun hHeld => ?_)
  clear hK K'
  try simp only [Act.put, List.setIfInBounds_toArray, List.set_cons_zero, List.set_cons_succ]
  refine wpAnyH_ready (rs := [11]) (by kernel_rfl) (by simp) ?_
  refine AllReadyH.cons (o := ⟨some 18, _, _, _, _, _⟩) rfl (fun K' hK => ?_) AllReadyH.nil
  go_simp
  obtain ⟨g2, hg2⟩ : ∃ q, w_4.heap.size = q := ⟨_, rfl⟩
  obtain ⟨w_5, hw_5⟩ : ∃ q : World, q = w_4.alloc (.cells #[.int .i64 u, .int .i64 v, .int .i64 (unI ((n : Int) == (m : Int)) 13)] 28) := ⟨_, rfl⟩
  try rw [← hw_5]
  have HE2 := hide (show Box w_5 g2 28 #[.int .i64 u, .int .i64 v, .int .i64 (unI ((n : Int) == (m : Int)) 13)] by rw [hw_5]; exact Box.made hg2.symm)
  have hc_5 : Below w_4.heap.size w_4 w_5 := by rw [hw_5]; exact (Below.refl _ _).alloc (Nat.le_refl _) _
  clear hw_5
  replace HX0 := hide (HX0.out.below hc_5)
  replace HX1 := hide (HX1.out.below hc_5)
  replace HB := hide (HB.out.trans (hc_5.mono HB.out.size))
  clear hc_5
  try simp only [hg2]
  clear hg2
  refine hK.out _ _ HX0.out.c1.1 (fun hHeld => ?_)
  clear hK K'
  try simp only [Act.put, List.setIfInBounds_toArray, List.set_cons_zero, List.set_cons_succ]
  refine wpAnyH_ready (rs := [12]) (by kernel_rfl) (by simp) ?_
  refine AllReadyH.cons (o := ⟨some 19, _, _, _, _, _⟩) rfl (fun K' hK => ?_) AllReadyH.nil
  go_simp
  go_at_call 67
  refine (firstError_box g2 3 [u, v, unI ((n : Int) == (m : Int)) 13] _ _ rfl (by decide) HE2.out).mono ?_
  rintro e_ v_ ⟨rfl, rfl⟩
  go_wp2_with fail
  refine hK.out _ _ HX0.out.c1.1 (fun hHeld => ?_)
  clear hK K'
  try simp only [Act.put, List.setIfInBounds_toArray, List.set_cons_zero, List.set_cons_succ]
  refine wpAnyH_take (i := 13) (oi := ⟨some 6, _, _, _, _, _⟩) (v := ?_) rfl (by kernel_rfl) (by kernel_rfl) (by kernel_rfl) (fun _ _ _ h => h) (Or.inl ⟨by rfl, ?_⟩) (by assumption) ?_
  rotate_left
  · (intro w' hSw; (try dsimp only at hSw); go_simp <;> (with_reducible rfl))
  try simp only [Act.put, List.setIfInBounds_toArray, List.set_cons_zero, List.set_cons_succ]
  refine wpAnyH_done (by kernel_rfl) ?_ _
  rw [HQ.out]
  clear hHeld HE2 HQ HBE HCE
  by_cases hv : V = 0
  case neg =>
    have tv : (V != 0) = true := by simpa using hv
    rw [if_neg hv] at HP HS
    clear hv HZ
    have HY := hide (HX1.out.put2 (.int .i64 0) (.int .i64 0))
    have HL := hide ((HB.out.setCell (p := ⟨w.heap.size + 1, 0, none⟩) (Nat.le_succ _) (.int .i64 0)).setCell (p := ⟨w.heap.size + 1, 1, none⟩) (Nat.le_succ _) (.int .i64 0))
    obtain ⟨x0, x1, f0, f1, hlx⟩ := HX1.out.c2
    clear HX0 HX1 HB
    go_wp2_with fail
    clear x0 x1
    obtain ⟨y0, y1, -, -, hly⟩ := HY.out.c2
    refine bodyPost_ret (v := .tuple #[.agg #[.int .i64 0, .int .i64 0], .int .i64 V]) ?_ rfl ⟨by rw [HP.out, HS.out], HL.out⟩
    simp [results, Try.results20, go_sem, y0, y1]
  have tv : (V != 0) = false := by simpa using hv
  rw [if_pos hv] at HP HS
  obtain ⟨rfl, -, hX, hF⟩ := HZ.out hv
  subst hv
  have HPW := hide (fun W (h : IntsAt W 0 A m F) (k : GausAt W 0 B m X) => powerOf_any A B m c d F X W hX hF h k)
  clear hX hF HZ
  obtain ⟨p, hp⟩ : ∃ z, pwP m F X = z := ⟨_, rfl⟩
  obtain ⟨r, hr⟩ : ∃ z, pwQ m F X = z := ⟨_, rfl⟩
  simp only [hp, hr] at HPW HP HS
  clear hp hr
  obtain ⟨z0, -, hlz⟩ := HX0.out.c1
  go_wp2_with fail
  clear z0 hlz
  refine (HPW.out _ (HI.out.below HB.out) (HJ.out.below HB.out)).mono ?_
  rintro e_ w_6 ⟨rfl, hb_6⟩
  replace HX0 := hide (HX0.out.below hb_6)
  replace HX1 := hide (HX1.out.below hb_6)
  replace HB := hide (HB.out.trans (hb_6.mono HB.out.size))
  clear hb_6
  have HY := hide (HX1.out.put2 (.int .i64 p) (.int .i64 r))
  have HL := hide ((HB.out.setCell (p := ⟨w.heap.size + 1, 0, none⟩) (Nat.le_succ _) (.int .i64 p)).setCell (p := ⟨w.heap.size + 1, 1, none⟩) (Nat.le_succ _) (.int .i64 r))
  obtain ⟨x0, x1, f0, f1, hlx⟩ := HX1.out.c2
  clear HX0 HX1 HB
  go_wp2_with fail
  clear x0 x1
  obtain ⟨y0, y1, -, -, hly⟩ := HY.out.c2
  refine bodyPost_ret (v := .tuple #[.agg #[.int .i64 p, .int .i64 r], .int .i64 0]) ?_ rfl ⟨by rw [HP.out, HS.out], HL.out⟩
  simp [results, Try.results20, go_sem, y0, y1]
end Go.Proofs.Ytdkbjgnkehoplaa
/- Books of beams in memory; sweepError of the code. -/
namespace Go.Proofs.Ytdkbjgnkehoplaa
open Go.RowKit Go.Great
/-- A slice of n beams; the beam i has L i antennas with the phases F i. -/
def BookAt (w : World) (lo : Nat) (A : Option Addr) (n : Nat) (L : Nat → Nat) (F : Nat → Nat → Int) : Prop :=
  ∀ i, i < n → ∃ b o Ai ci, A = some ⟨b, o, none⟩ ∧ lo ≤ b ∧ b < w.heap.size ∧ w.cell? ⟨b, o + i, none⟩ = some (.slice Ai (L i) ci) ∧ L i ≤ ci ∧ ci ≤ 9223372036854775807 ∧ IntsAt w lo Ai (L i) (F i)
section
variable {w w' : World} {lo n : Nat} {A : Option Addr} {L : Nat → Nat} {F : Nat → Nat → Int}
theorem BookAt.nil_ : BookAt w lo A 0 L F := fun i h => absurd h (Nat.not_lt_zero i)
theorem BookAt.below (h : BookAt w lo A n L F) (hb : Below w.heap.size w w') : BookAt w' lo A n L F := fun i hi => by
  obtain ⟨b, o, Ai, ci, e, h1, h2, h3, h4, h5, h6⟩ := h i hi
  exact ⟨b, o, Ai, ci, e, h1, Nat.lt_of_lt_of_le h2 hb.size, (hb.cell (p := ⟨b, o + i, none⟩) h2).trans h3, h4, h5, h6.below hb⟩
theorem BookAt.weak {lo' : Nat} (h : BookAt w lo A n L F) (hl : lo' ≤ lo) : BookAt w lo' A n L F := fun i hi => by
  obtain ⟨b, o, Ai, ci, e, h1, h2, h3, h4, h5, h6⟩ := h i hi
  exact ⟨b, o, Ai, ci, e, Nat.le_trans hl h1, h2, h3, h4, h5, h6.weak hl⟩
theorem BookAt.fewer {m : Nat} (h : BookAt w lo A n L F) (hm : m ≤ n) : BookAt w lo A m L F := fun i hi => h i (Nat.lt_of_lt_of_le hi hm)
end
set_option maxHeartbeats 4000000 in
set_option maxRecDepth 100000 in
theorem firstWrong_book (g : Nat) (lb : Array Value) (eg : ∀ args w, (callFunc g args).run Try.prog w = .ok (.enter g args) w) (p : Nat → Int) (A : Option Addr) (n c : Nat) (L : Nat → Nat) (F : Nat → Nat → Int) (w : World)
    (hn : n ≤ 100000) (hI : BookAt w 0 A n L F) (hp : ∀ i, i < n → ∀ (B : Option Addr) d W, Below w.heap.size w W → IntsAt W 0 B (L i) (F i) → Calls Try.prog g (#[.agg #[.slice B (L i) d]] ++ lb) W fun e w' => e = .returned (.int .i64 (p i)) ∧ Below W.heap.size W w') :
    Calls Try.prog 138 #[.slice A n c, .func (.func g) #[] lb] w fun e w' => e = .returned (.tuple #[.int .i64 (badI p n : Nat), .int .i64 (badE p n)]) ∧ Below w.heap.size w w' := by
  have HP := hide hp
  have HI := hide hI
  clear hp hI
  go_enter Try.func138, Try.ntmps138
  go_wp2_with fail
  go_loopg [11] n (fun gg s wr => ∃ k : Nat, k ≤ n ∧ n - k ≤ gg ∧ s = .int .i64 (k : Int) ∧ Hid (badE p k = 0) ∧ Below w.heap.size w wr)
  case atStart => exact ⟨0, Nat.zero_le _, by omega, rfl, hide rfl, Below.refl _ _⟩
  case round =>
    obtain ⟨k, hk, hg, rfl, HZ, hB⟩ := hrel
    obtain ⟨wA, rfl⟩ : ∃ x : World, x = wr := ⟨_, rfl⟩
    have hBs := hB.size
    by_cases hlt : k < n
    · have hltz : (k : Int) < (n : Int) := by omega
      obtain ⟨b, o, Ai, ci, rfl, -, hb, c0, hlc, -, hik⟩ := (HI.out.below hB) k hlt
      have HIK := hide hik
      have HQ := hide (show p k ≠ 0 → badE p n = p k ∧ badI p n = k from fun h => ⟨badE_at (g := p) HZ.out h n hlt, badI_at (g := p) HZ.out h n hlt⟩)
      have HN := hide (show p k = 0 → badE p (k + 1) = 0 from fun h => by rw [badE_succ HZ.out]; exact h)
      have HC := hide (HP.out k hlt Ai ci)
      clear hik
      obtain ⟨m, hm⟩ : ∃ m, L k = m := ⟨_, rfl⟩
      simp only [hm] at c0 HC HIK hlc
      generalize p k = r at *
      clear hm hlc
      go_upto_region 4 with fail
      obtain ⟨W1, hW1⟩ : ∃ y : World, y = wA.alloc (.cells #[.slice Ai m ci] 43) := ⟨_, rfl⟩
      rw [← hW1]
      have bx1 : Box W1 wA.heap.size 43 #[.slice Ai m ci] := by rw [hW1]; exact Box.made rfl
      have hB1 : Below w.heap.size w W1 := by rw [hW1]; exact hB.alloc hBs _
      have hba : Below wA.heap.size wA W1 := by rw [hW1]; exact (Below.refl _ _).alloc (Nat.le_refl _) _
      have hcall := HC.out W1 hB1 (HIK.out.below hba)
      clear hW1 hB hb c0 hba
      obtain ⟨y0, g0, hl'⟩ := bx1.c1
      by_cases hr : r = 0
      · have HN2 := hide (HN.out hr)
        subst hr
        clear HQ HN
        go_wp2_with (go_at_fn g; refine hcall.mono ?_; rintro e w2 ⟨rfl, hb2⟩)
        go_roundg (n - (k + 1))
        case measure => omega
        case rel => exact ⟨k + 1, by omega, by omega, by go_num, HN2, hB1.trans (hb2.mono hB1.size)⟩
      · have t1 : (r != 0) = true := by simpa using hr
        have HQ2 := hide (HQ.out hr)
        clear HQ HN hr
        go_wp2_with (go_at_fn g; refine hcall.mono ?_; rintro e w2 ⟨rfl, hb2⟩)
        go_ret2
        exact ⟨by rw [HQ2.out.1, HQ2.out.2]; rfl, hB1.trans (hb2.mono hB1.size)⟩
    · obtain rfl : k = n := by omega
      go_wp2_with fail
      go_ret2
      exact ⟨by rw [HZ.out, badI_zero HZ.out]; rfl, hB⟩
set_option maxHeartbeats 1000000 in
theorem itemsError_book (g : Nat) (lb : Array Value) (eg : ∀ args w, (callFunc g args).run Try.prog w = .ok (.enter g args) w) (p : Nat → Int) (A : Option Addr) (n c : Nat) (L : Nat → Nat) (F : Nat → Nat → Int) (w : World)
    (hn : n ≤ 100000) (hI : BookAt w 0 A n L F) (hp : ∀ i, i < n → ∀ (B : Option Addr) d W, Below w.heap.size w W → IntsAt W 0 B (L i) (F i) → Calls Try.prog g (#[.agg #[.slice B (L i) d]] ++ lb) W fun e w' => e = .returned (.int .i64 (p i)) ∧ Below W.heap.size W w') :
    Calls Try.prog 109 #[.slice A n c, .func (.func g) #[] lb] w fun e w' => e = .returned (.int .i64 (badE p n)) ∧ Below w.heap.size w w' := by
  have HX := hide (firstWrong_book g lb eg p A n c L F w hn hI hp)
  clear hI hp
  go_enter Try.func109, Try.ntmps109
  go_wp2_with (go_at_call 138; refine HX.out.mono ?_; rintro e w' ⟨rfl, hb1⟩)
  go_ret
  exact ⟨rfl, hb1⟩
set_option maxHeartbeats 2000000 in
theorem sweepError1_any (A C : Option Addr) (n c m d b : Nat) (w : World) (h0 : CellV w b 0 (.slice C m d)) :
    Calls Try.prog 108 #[.agg #[.slice A n c], .pointer (some ⟨b, 0, none⟩)] w fun e w' => e = .returned (.int .i64 (unI ((n : Int) == (m : Int)) 13)) ∧ Below w.heap.size w w' := by
  have h1 := (h0.below ((Below.refl _ _).alloc (Nat.le_refl _) (.cells #[.slice A n c] 43))).c
  have hl := h0.lt
  clear h0
  go_enter Try.func108, Try.ntmps108
  go_wp2_with (go_at_call 70; refine (unless_any _ _ _).mono ?_; rintro e w' ⟨rfl, rfl⟩)
  go_ret
  exact ⟨rfl, by (repeat (first | (with_reducible exact Below.refl _ _) | (with_reducible refine Go.below_drewN ?_ _) | (with_reducible refine Below.drew ?_) | (with_reducible refine Below.alloc ?_ (by first | exact Nat.le_refl _ | (simp; done) | (simp; omega) | omega) _) | (with_reducible refine Below.setCell ?_ (by first | exact Nat.le_refl _ | (simp; done) | (simp; omega) | omega) _)))⟩
/-- The error of a book and a channel. -/
def bkE (n : Nat) (L : Nat → Nat) (F : Nat → Nat → Int) : Int := badE (fun i => cbE (L i) (F i)) n
def fitE (n : Nat) (L : Nat → Nat) (m : Nat) : Int := badE (fun i => unI ((L i : Int) == (m : Int)) 13) n
def swE (n : Nat) (L : Nat → Nat) (F : Nat → Nat → Int) (m : Nat) (X : Nat → Gau) : Int := firstE [unI (decide (0 < n)) 10, unI (decide ((n : Int) ≤ 16)) 8, bkE n L F, chE m X, fitE n L m]
set_option maxHeartbeats 8000000 in
set_option maxRecDepth 100000 in
theorem sweepError_any (A B : Option Addr) (n c m d : Nat) (L : Nat → Nat) (F : Nat → Nat → Int) (X : Nat → Gau) (w : World) (hn : n ≤ 100000) (hm : m ≤ 100000) (hL : ∀ i, i < n → L i ≤ 100000) (hI : BookAt w 0 A n L F) (hJ : GausAt w 0 B m X) :
    Calls Try.prog 63 #[.slice A n c, .slice B m d] w fun e w' => e = .returned (.int .i64 (swE n L F m X)) ∧ Below w.heap.size w w' := by
  have HI := hide hI
  have HJ := hide hJ
  have HQ := hide (show firstE [unI (decide (0 < n)) 10, unI (decide ((n : Int) ≤ 16)) 8, bkE n L F, chE m X, fitE n L m] = swE n L F m X from rfl)
  have HCE := hide (fun W (h : GausAt W 0 B m X) => channelError_any B m d X W hm h)
  have HB1 := hide (fun W (h : BookAt W 0 A n L F) => (show Calls Try.prog 109 #[.slice A n c, .func (.func 68) #[] #[]] W fun e w' => e = .returned (.int .i64 (bkE n L F)) ∧ Below W.heap.size W w' from itemsError_book 68 #[] (enters_of Try.func68 (by kernel_rfl) rfl) (fun i => cbE (L i) (F i)) A n c L F W hn h (fun i hi C e V _ hc => beamError_any C (L i) e (F i) V (hL i hi) hc)))
  have HB2 := hide (fun (b : Nat) W (h : BookAt W 0 A n L F) (k : CellV W b 0 (.slice B m d)) => (show Calls Try.prog 109 #[.slice A n c, .func (.func 108) #[] #[.pointer (some ⟨b, 0, none⟩)]] W fun e w' => e = .returned (.int .i64 (fitE n L m)) ∧ Below W.heap.size W w' from itemsError_book 108 #[.pointer (some ⟨b, 0, none⟩)] (enters_of Try.func108 (by kernel_rfl) rfl) (fun i => unI ((L i : Int) == (m : Int)) 13) A n c L F W hn h (fun i hi C e V hV _ => sweepError1_any C B (L i) e m d b V (k.below hV))))
  obtain ⟨u, hu⟩ : ∃ z, bkE n L F = z := ⟨_, rfl⟩
  obtain ⟨v, hv⟩ : ∃ z, chE m X = z := ⟨_, rfl⟩
  obtain ⟨x, hx⟩ : ∃ z, fitE n L m = z := ⟨_, rfl⟩
  obtain ⟨V, hV⟩ : ∃ z, swE n L F m X = z := ⟨_, rfl⟩
  simp only [hu, hv, hx, hV] at HQ HCE HB1 HB2 ⊢
  clear hI hJ hu hv hx hV hL
  go_enter Try.func63, Try.ntmps63
  go_upto_region 2 with fail
  obtain ⟨w_1, hw_1⟩ : ∃ q : World, q = (w.alloc (.cells #[.slice B m d] 23)) := ⟨_, rfl⟩
  try rw [← hw_1]
  have HX0 := hide (show Box w_1 (w.heap.size) 23 #[.slice B m d] by rw [hw_1]; exact Box.made rfl)
  have HB := hide (show Below w.heap.size w w_1 by rw [hw_1]; (repeat (first | (with_reducible exact Below.refl _ _) | (with_reducible refine Go.below_drewN ?_ _) | (with_reducible refine Below.drew ?_) | (with_reducible refine Below.alloc ?_ (by first | exact Nat.le_refl _ | (simp; done) | (simp; omega) | omega) _) | (with_reducible refine Below.setCell ?_ (by first | exact Nat.le_refl _ | (simp; done) | (simp; omega) | omega) _))))
  clear hw_1
  refine wp_region_held_drew (S := fun w' => w'.cell? ⟨w.heap.size, 0, none⟩ = some (.slice B m d)) (by kernel_rfl) HX0.out.c1.1 (fun hHeld => ?_)
  obtain ⟨w_2, hw_2⟩ : ∃ q : World, q = w_1.drew := ⟨_, rfl⟩
  rw [← hw_2] at hHeld ⊢
  have hc_2 : Below w_1.heap.size w_1 w_2 := by rw [hw_2]; exact (Below.refl _ _).drew
  clear hw_2
  replace HX0 := hide (HX0.out.below hc_2)
  replace HB := hide (HB.out.trans (hc_2.mono HB.out.size))
  clear hc_2
  refine wpAnyH_take (i := 0) (oi := ⟨some 7, _, _, _, _, _⟩) (v := ?_) rfl (by kernel_rfl) (by kernel_rfl) (by kernel_rfl) (fun _ _ _ h => h) (Or.inl ⟨by rfl, ?_⟩) (by assumption) ?_
  rotate_left
  · (intro w' hSw; (try dsimp only at hSw); go_simp <;> (with_reducible rfl))
  try simp only [Act.put, List.setIfInBounds_toArray, List.set_cons_zero, List.set_cons_succ]
  refine wpAnyH_take (i := 1) (oi := ⟨some 8, _, _, _, _, _⟩) (v := ?_) rfl (by kernel_rfl) (by kernel_rfl) (by kernel_rfl) (fun _ _ _ h => h) (Or.inl ⟨by rfl, ?_⟩) (by assumption) ?_
  rotate_left
  · (intro w' hSw; (try dsimp only at hSw); go_simp <;> (with_reducible rfl))
  try simp only [Act.put, List.setIfInBounds_toArray, List.set_cons_zero, List.set_cons_succ]
  refine wpAnyH_take (i := 2) (oi := ⟨some 9, _, _, _, _, _⟩) (v := ?_) rfl (by kernel_rfl) (by kernel_rfl) (by kernel_rfl) (fun _ _ _ h => h) (Or.inl ⟨by rfl, ?_⟩) (by assumption) ?_
  rotate_left
  · (intro w' hSw; (try dsimp only at hSw); go_simp <;> (with_reducible rfl))
  try simp only [Act.put, List.setIfInBounds_toArray, List.set_cons_zero, List.set_cons_succ]
  refine wpAnyH_take (i := 4) (oi := ⟨some 11, _, _, _, _, _⟩) (v := ?_) rfl (by kernel_rfl) (by kernel_rfl) (by kernel_rfl) (fun _ _ _ h => h) (Or.inl ⟨by rfl, ?_⟩) (by assumption) ?_
  rotate_left
  · (intro w' hSw; (try dsimp only at hSw); go_simp <;> (with_reducible rfl))
  try simp only [Act.put, List.setIfInBounds_toArray, List.set_cons_zero, List.set_cons_succ]
  refine wpAnyH_take (i := 5) (oi := ⟨some 12, _, _, _, _, _⟩) (v := ?_) rfl (by kernel_rfl) (by kernel_rfl) (by kernel_rfl) (fun _ _ _ h => h) (Or.inl ⟨by rfl, ?_⟩) (by assumption) ?_
  rotate_left
  · (intro w' hSw; (try dsimp only at hSw); go_simp <;> (with_reducible rfl))
  try simp only [Act.put, List.setIfInBounds_toArray, List.set_cons_zero, List.set_cons_succ]
  refine wpAnyH_take (i := 6) (oi := ⟨some 13, _, _, _, _, _⟩) (v := ?_) rfl (by kernel_rfl) (by kernel_rfl) (by kernel_rfl) (fun _ _ _ h => h) (Or.inl ⟨by rfl, ?_⟩) (by assumption) ?_
  rotate_left
  · (intro w' hSw; (try dsimp only at hSw); go_simp <;> (with_reducible rfl))
  try simp only [Act.put, List.setIfInBounds_toArray, List.set_cons_zero, List.set_cons_succ]
  refine wpAnyH_take (i := 8) (oi := ⟨some 15, _, _, _, _, _⟩) (v := ?_) rfl (by kernel_rfl) (by kernel_rfl) (by kernel_rfl) (fun _ _ _ h => h) (Or.inl ⟨by rfl, ?_⟩) (by assumption) ?_
  rotate_left
  · (intro w' hSw; (try dsimp only at hSw); go_simp <;> (with_reducible rfl))
  try simp only [Act.put, List.setIfInBounds_toArray, List.set_cons_zero, List.set_cons_succ]
  refine wpAnyH_take (i := 10) (oi := ⟨some 17, _, _, _, _, _⟩) (v := ?_) rfl (by kernel_rfl) (by kernel_rfl) (by kernel_rfl) (fun _ _ _ h => h) (Or.inl ⟨by rfl, ?_⟩) (by assumption) ?_
  rotate_left
  · (intro w' hSw; (try dsimp only at hSw); go_simp <;> (with_reducible rfl))
  try simp only [Act.put, List.setIfInBounds_toArray, List.set_cons_zero, List.set_cons_succ]
  refine wpAnyH_take (i := 12) (oi := ⟨some 19, _, _, _, _, _⟩) (v := ?_) rfl (by kernel_rfl) (by kernel_rfl) (by kernel_rfl) (fun _ _ _ h => h) (Or.inl ⟨by rfl, ?_⟩) (by assumption) ?_
  rotate_left
  · (intro w' hSw; (try dsimp only at hSw); go_simp <;> (with_reducible rfl))
  try simp only [Act.put, List.setIfInBounds_toArray, List.set_cons_zero, List.set_cons_succ]
  refine wpAnyH_take (i := 13) (oi := ⟨some 20, _, _, _, _, _⟩) (v := ?_) rfl (by kernel_rfl) (by kernel_rfl) (by kernel_rfl) (fun _ _ _ h => h) (Or.inl ⟨by rfl, ?_⟩) (by assumption) ?_
  rotate_left
  · (intro w' hSw; (try dsimp only at hSw); go_simp <;> (with_reducible rfl))
  try simp only [Act.put, List.setIfInBounds_toArray, List.set_cons_zero, List.set_cons_succ]
  refine wpAnyH_ready (rs := [3]) (by kernel_rfl) (by simp) ?_
  refine AllReadyH.cons (o := ⟨some 10, _, _, _, _, _⟩) rfl (fun K' hK => ?_) AllReadyH.nil
  go_simp
  go_at_call 70
  refine (unless_any _ _ _).mono ?_
  rintro e_ v_ ⟨rfl, rfl⟩
  go_wp2_with fail
  refine hK.out _ _ HX0.out.c1.1 (fun hHeld => ?_)
  clear hK K'
  try simp only [Act.put, List.setIfInBounds_toArray, List.set_cons_zero, List.set_cons_succ]
  refine wpAnyH_ready (rs := [7]) (by kernel_rfl) (by simp) ?_
  refine AllReadyH.cons (o := ⟨some 14, _, _, _, _, _⟩) rfl (fun K' hK => ?_) AllReadyH.nil
  go_simp
  go_at_call 70
  refine (unless_any _ _ _).mono ?_
  rintro e_ v_ ⟨rfl, rfl⟩
  go_wp2_with fail
  refine hK.out _ _ HX0.out.c1.1 (fun hHeld => ?_)
  clear hK K'
  try simp only [Act.put, List.setIfInBounds_toArray, List.set_cons_zero, List.set_cons_succ]
  refine wpAnyH_ready (rs := [9]) (by kernel_rfl) (by simp) ?_
  refine AllReadyH.cons (o := ⟨some 16, _, _, _, _, _⟩) rfl (fun K' hK => ?_) AllReadyH.nil
  go_simp
  go_at_call 109
  refine (HB1.out _ (HI.out.below HB.out)).mono ?_
  rintro e_ w_3 ⟨rfl, hb_3⟩
  replace HX0 := hide (HX0.out.below hb_3)
  replace HB := hide (HB.out.trans (hb_3.mono HB.out.size))
  clear hb_3
  go_wp2_with fail
  refine hK.out _ _ HX0.out.c1.1 (fun hHeld => ?_)
  clear hK K'
  try simp only [Act.put, List.setIfInBounds_toArray, List.set_cons_zero, List.set_cons_succ]
  refine wpAnyH_ready (rs := [11]) (by kernel_rfl) (by simp) ?_
  refine AllReadyH.cons (o := ⟨some 18, _, _, _, _, _⟩) rfl (fun K' hK => ?_) AllReadyH.nil
  go_simp
  go_at_call 69
  refine (HCE.out _ (HJ.out.below HB.out)).mono ?_
  rintro e_ w_4 ⟨rfl, hb_4⟩
  replace HX0 := hide (HX0.out.below hb_4)
  replace HB := hide (HB.out.trans (hb_4.mono HB.out.size))
  clear hb_4
  go_wp2_with fail
  refine hK.out _ _ HX0.out.c1.1 (fun hHeld => ?_)
  clear hK K'
  try simp only [Act.put, List.setIfInBounds_toArray, List.set_cons_zero, List.set_cons_succ]
  refine wpAnyH_ready (rs := [14]) (by kernel_rfl) (by simp) ?_
  refine AllReadyH.cons (o := ⟨some 21, _, _, _, _, _⟩) rfl (fun K' hK => ?_) AllReadyH.nil
  go_simp
  go_at_call 109
  refine (HB2.out _ _ (HI.out.below HB.out) ⟨HX0.out.c1.1⟩).mono ?_
  rintro e_ w_5 ⟨rfl, hb_5⟩
  replace HX0 := hide (HX0.out.below hb_5)
  replace HB := hide (HB.out.trans (hb_5.mono HB.out.size))
  clear hb_5
  go_wp2_with fail
  refine hK.out _ _ HX0.out.c1.1 (fun hHeld => ?_)
  clear hK K'
  try simp only [Act.put, List.setIfInBounds_toArray, List.set_cons_zero, List.set_cons_succ]
  refine wpAnyH_ready (rs := [15]) (by kernel_rfl) (by simp) ?_
  refine AllReadyH.cons (o := ⟨some 22, _, _, _, _, _⟩) rfl (fun K' hK => ?_) AllReadyH.nil
  go_simp
  obtain ⟨g2, hg2⟩ : ∃ q, w_5.heap.size = q := ⟨_, rfl⟩
  obtain ⟨w_6, hw_6⟩ : ∃ q : World, q = w_5.alloc (.cells #[.int .i64 (unI (decide (0 < n)) 10), .int .i64 (unI (decide ((n : Int) ≤ 16)) 8), .int .i64 u, .int .i64 v, .int .i64 x] 28) := ⟨_, rfl⟩
  try rw [← hw_6]
  have HE2 := hide (show Box w_6 g2 28 #[.int .i64 (unI (decide (0 < n)) 10), .int .i64 (unI (decide ((n : Int) ≤ 16)) 8), .int .i64 u, .int .i64 v, .int .i64 x] by rw [hw_6]; exact Box.made hg2.symm)
  have hc_6 : Below w_5.heap.size w_5 w_6 := by rw [hw_6]; exact (Below.refl _ _).alloc (Nat.le_refl _) _
  clear hw_6
  replace HX0 := hide (HX0.out.below hc_6)
  replace HB := hide (HB.out.trans (hc_6.mono HB.out.size))
  clear hc_6
  try simp only [hg2]
  clear hg2
  refine hK.out _ _ HX0.out.c1.1 (fun hHeld => ?_)
  clear hK K'
  try simp only [Act.put, List.setIfInBounds_toArray, List.set_cons_zero, List.set_cons_succ]
  refine wpAnyH_ready (rs := [16]) (by kernel_rfl) (by simp) ?_
  refine AllReadyH.cons (o := ⟨some 23, _, _, _, _, _⟩) rfl (fun K' hK => ?_) AllReadyH.nil
  go_simp
  go_at_call 67
  refine (firstError_box g2 5 [unI (decide (0 < n)) 10, unI (decide ((n : Int) ≤ 16)) 8, u, v, x] _ _ rfl (by decide) HE2.out).mono ?_
  rintro e_ v_ ⟨rfl, rfl⟩
  go_wp2_with fail
  refine hK.out _ _ HX0.out.c1.1 (fun hHeld => ?_)
  clear hK K'
  try simp only [Act.put, List.setIfInBounds_toArray, List.set_cons_zero, List.set_cons_succ]
  refine wpAnyH_take (i := 17) (oi := ⟨some 4, _, _, _, _, _⟩) (v := ?_) rfl (by kernel_rfl) (by kernel_rfl) (by kernel_rfl) (fun _ _ _ h => h) (Or.inl ⟨by rfl, ?_⟩) (by assumption) ?_
  rotate_left
  · (intro w' hSw; (try dsimp only at hSw); go_simp <;> (with_reducible rfl))
  try simp only [Act.put, List.setIfInBounds_toArray, List.set_cons_zero, List.set_cons_succ]
  refine wpAnyH_done (by kernel_rfl) ?_ _
  rw [HQ.out]
  go_wp2_with fail
  go_ret
  exact ⟨rfl, HB.out⟩
end Go.Proofs.Ytdkbjgnkehoplaa
