/- Lemmas: E47, E49. -/
import Derived.Test.YtdkbjgnkehoplaaBy12
import Derived.Test.YtdkbjgnkehoplaaBy13
import Derived.Test.YtdkbjgnkehoplaaBy14
set_option linter.unusedVariables false
set_option linter.unusedSimpArgs false
/- Cleared of the reference. -/
namespace Go.Proofs.Ytdkbjgnkehoplaa
open Go.RowKit Go.Great
theorem CellV.kept {w w' : World} {B b o : Nat} {v : Value} (h : CellV w b o v) (hb : Below B w w') (hl : b < B) : CellV w' b o v := ⟨(hb.cell (p := ⟨b, o, none⟩) hl).trans h.c⟩
set_option maxHeartbeats 8000000 in
set_option maxRecDepth 100000 in
theorem Cleared_ref (A B : Option Addr) (n c d : Nat) (X Y : Nat → Gau) (w : World) (h : OkC n X) (k : OkC n Y) (hI : GausAt w 0 A n X) (hJ : GausAt w 0 B n Y) :
    Calls Try.prog 38 #[.slice A n c, .slice B n d] w fun e w' => ∃ C f, e = .returned (.slice C n f) ∧ GausAt w' w.heap.size C n (clF X Y n) ∧ Below w.heap.size w w' := by
  have HI := hide hI
  have HJ := hide hJ
  have hn8 := h.n8
  have HIO := hide (fun W (u : GausAt W 0 A n X) (v : GausAt W 0 B n Y) => InnerOf_ref A B n c d X Y W h k u v)
  have HEX := hide (fun W (u : GausAt W 0 A n X) => Energy_any A n c X W h u)
  have HBI := hide (h.inner k)
  have HBE := hide h.energy
  have HSX := hide h.small
  have HSY := hide k.small
  have HCL := hide (fun j => (show clF X Y n j = ⟨enI X n * (Y j).re - (inA X Y n * (X j).re - inB X Y n * (X j).im), enI X n * (Y j).im - (inA X Y n * (X j).im + inB X Y n * (X j).re)⟩ from rfl))
  obtain ⟨L, hL⟩ : ∃ z, clF X Y n = z := ⟨_, rfl⟩
  obtain ⟨I, hIa⟩ : ∃ z, inA X Y n = z := ⟨_, rfl⟩
  obtain ⟨J, hJa⟩ : ∃ z, inB X Y n = z := ⟨_, rfl⟩
  obtain ⟨E, hE⟩ : ∃ z, enI X n = z := ⟨_, rfl⟩
  simp only [hL, hIa, hJa, hE] at HIO HEX HBI HBE HCL ⊢
  clear hI hJ h k hL hIa hJa hE
  go_enter Try.func38, Try.ntmps38
  have HB := hide (Below.refl w.heap.size w)
  go_wp2_with fail
  refine (HIO.out _ HI.out HJ.out).mono ?_
  rintro e_ w_1 ⟨rfl, hb_1⟩
  replace HB := hide (HB.out.trans (hb_1.mono HB.out.size))
  clear hb_1
  go_upto_region 2 with fail
  obtain ⟨g5, hg5⟩ : ∃ q, w_1.heap.size = q := ⟨_, rfl⟩
  obtain ⟨w_2, hw_2⟩ : ∃ q : World, q = w_1.alloc (.cells #[.int .i64 I, .int .i64 J] 53) := ⟨_, rfl⟩
  try rw [← hw_2]
  have HX5 := hide (show Box w_2 g5 53 #[.int .i64 I, .int .i64 J] by rw [hw_2]; exact Box.made hg5.symm)
  have hc_2 : Below w_1.heap.size w_1 w_2 := by rw [hw_2]; exact (Below.refl _ _).alloc (Nat.le_refl _) _
  clear hw_2
  replace HB := hide (HB.out.trans (hc_2.mono HB.out.size))
  clear hc_2
  try simp only [hg5]
  clear hg5
  have hl5 := HX5.out.lt
  obtain ⟨W0, hW0⟩ : ∃ q : World, w_2 = q := ⟨_, rfl⟩
  rw [hW0] at HX5 HB hl5 ⊢
  clear hW0
  have HI0 := hide (HI.out.below HB.out)
  have HJ0 := hide (HJ.out.below HB.out)
  have HL0 := hide (Below.refl W0.heap.size W0)
  go_wp2_with fail
  go_loopw [6, 7] (fun s i wr => ∃ k : Nat, k ≤ n ∧ i = .int .i64 (k : Int) ∧ Hid (OwnGaus wr W0.heap.size s k L) ∧ Hid (Box wr g5 53 #[.int .i64 I, .int .i64 J]) ∧ Hid (Below W0.heap.size W0 wr)) (fun _ i _ => n - (Go.RowKit.intOf i).toNat)
  case atStart => exact ⟨0, Nat.zero_le _, rfl, hide (ownGaus_nil _ _ _), HX5, HL0⟩
  case round =>
    clear HX5 HL0
    obtain ⟨k, hk, rfl, HO, HX5, HL⟩ := hrel
    obtain ⟨wA, rfl⟩ : ∃ x : World, x = wr := ⟨_, rfl⟩
    obtain ⟨As, cs, rfl, hcs, hIs⟩ := ownGaus_form HO.out
    clear hIs
    by_cases hlt : k < n
    case pos =>
      have hltz : (k : Int) < (n : Int) := by omega
      obtain ⟨b1, o1, hb1e, -, l1, c0, c1⟩ := HI0.out k hlt
      obtain ⟨b2, o2, hb2e, -, l2, d0, d1⟩ := HJ0.out k hlt
      have hx := HSX.out k hlt
      have hy := HSY.out k hlt
      have hbi := HBI.out
      have hbe := HBE.out
      have HLK := hide (HCL.out k)
      have HIW := hide (fun W (hb : Below W0.heap.size W0 W) => HEX.out W (HI0.out.below hb))
      subst hb1e
      subst hb2e
      generalize X k = x at *
      generalize Y k = y at *
      have HM1 := hide (fun W => gmul5_any ⟨E, 0⟩ y 14400 30 W ⟨by show -14400 ≤ E ∧ E ≤ 14400; omega, by show -14400 ≤ (0 : Int) ∧ (0 : Int) ≤ 14400; decide⟩ hy (by decide))
      have HM2 := hide (fun W => gmul5_any ⟨I, J⟩ x 14400 30 W ⟨hbi.1, hbi.2⟩ hx (by decide))
      have m1 := mul_le2 (M := 14400) (N := 30) (show -14400 ≤ E ∧ E ≤ 14400 by omega) hy.re (by decide) (by decide)
      have m2 := mul_le2 (M := 14400) (N := 30) (show -14400 ≤ E ∧ E ≤ 14400 by omega) hy.im (by decide) (by decide)
      have m3 := mul_le2 hbi.1 hx.re (by decide) (by decide)
      have m4 := mul_le2 hbi.2 hx.im (by decide) (by decide)
      have m5 := mul_le2 hbi.1 hx.im (by decide) (by decide)
      have m6 := mul_le2 hbi.2 hx.re (by decide) (by decide)
      simp only [Int.zero_mul, Int.sub_zero, Int.add_zero] at HM1
      obtain ⟨x0, hx0⟩ : ∃ z, x.re = z := ⟨_, rfl⟩
      obtain ⟨x1, hx1⟩ : ∃ z, x.im = z := ⟨_, rfl⟩
      obtain ⟨y0, hy0⟩ : ∃ z, y.re = z := ⟨_, rfl⟩
      obtain ⟨y1, hy1⟩ : ∃ z, y.im = z := ⟨_, rfl⟩
      simp only [hx0, hx1, hy0, hy1] at HM1 HM2 m1 m2 m3 m4 m5 m6 c0 c1 d0 d1 HLK
      obtain ⟨p0, hp0⟩ : ∃ z, E * y0 = z := ⟨_, rfl⟩
      obtain ⟨p1, hp1⟩ : ∃ z, E * y1 = z := ⟨_, rfl⟩
      obtain ⟨s0, hs0⟩ : ∃ z, I * x0 - J * x1 = z := ⟨_, rfl⟩
      obtain ⟨s1, hs1⟩ : ∃ z, I * x1 + J * x0 = z := ⟨_, rfl⟩
      have hpb : (-432000 ≤ p0 ∧ p0 ≤ 432000) ∧ (-432000 ≤ p1 ∧ p1 ≤ 432000) ∧ (-864000 ≤ s0 ∧ s0 ≤ 864000) ∧ (-864000 ≤ s1 ∧ s1 ≤ 864000) := by omega
      simp only [hp0, hp1, hs0, hs1] at HM1 HM2 HLK
      have HGS := hide (fun W => gsub_any ⟨p0, p1⟩ ⟨s0, s1⟩ W (by show -9223372036854775808 ≤ p0 - s0 ∧ p0 - s0 ≤ 9223372036854775807; omega) (by show -9223372036854775808 ≤ p1 - s1 ∧ p1 - s1 ≤ 9223372036854775807; omega))
      have HC0 := hide (CellV.kept (B := W0.heap.size) (show CellV W0 b1 (o1 + k * 2) (.int .i64 x0) from ⟨c0⟩) HL.out l1)
      have HC1 := hide (CellV.kept (B := W0.heap.size) (show CellV W0 b1 (o1 + k * 2 + 1) (.int .i64 x1) from ⟨c1⟩) HL.out l1)
      have HD0 := hide (CellV.kept (B := W0.heap.size) (show CellV W0 b2 (o2 + k * 2) (.int .i64 y0) from ⟨d0⟩) HL.out l2)
      have HD1 := hide (CellV.kept (B := W0.heap.size) (show CellV W0 b2 (o2 + k * 2 + 1) (.int .i64 y1) from ⟨d1⟩) HL.out l2)
      clear c0 c1 d0 d1 hx hy hbi hbe m1 m2 m3 m4 m5 m6 hp0 hp1 hs0 hs1 hpb hx0 hx1 hy0 hy1
      go_upto_region 6 with fail
      refine wp_region_held_drew (S := fun w' => w'.cell? ⟨b1, o1 + k * 2, none⟩ = some (.int .i64 x0) ∧ w'.cell? ⟨b1, o1 + k * 2 + 1, none⟩ = some (.int .i64 x1) ∧ w'.cell? ⟨b2, o2 + k * 2, none⟩ = some (.int .i64 y0) ∧ w'.cell? ⟨b2, o2 + k * 2 + 1, none⟩ = some (.int .i64 y1) ∧ w'.cell? ⟨g5, 0, none⟩ = some (.int .i64 I) ∧ w'.cell? ⟨g5, 1, none⟩ = some (.int .i64 J)) (by kernel_rfl) ⟨HC0.out.c, HC1.out.c, HD0.out.c, HD1.out.c, HX5.out.c2.1, HX5.out.c2.2.1⟩ (fun hHeld => ?_)
      obtain ⟨w_3, hw_3⟩ : ∃ q : World, q = wA.drew := ⟨_, rfl⟩
      rw [← hw_3] at hHeld ⊢
      have hc_3 : Below wA.heap.size wA w_3 := by rw [hw_3]; exact (Below.refl _ _).drew
      clear hw_3
      replace HO := hide (HO.out.below hc_3)
      replace HX5 := hide (HX5.out.below hc_3)
      replace HC0 := hide (HC0.out.below hc_3)
      replace HC1 := hide (HC1.out.below hc_3)
      replace HD0 := hide (HD0.out.below hc_3)
      replace HD1 := hide (HD1.out.below hc_3)
      replace HL := hide (HL.out.trans (hc_3.mono HL.out.size))
      clear hc_3
      refine wpAnyH_take (i := 0) (oi := ⟨some 17, _, _, _, _, _⟩) (v := ?_) rfl (by kernel_rfl) (by kernel_rfl) (by kernel_rfl) (fun _ _ _ h => h) (Or.inl ⟨by rfl, ?_⟩) (by assumption) ?_
      rotate_left
      · (intro w' hSw; (try dsimp only at hSw); go_simp <;> (with_reducible rfl))
      try simp only [Act.put, List.setIfInBounds_toArray, List.set_cons_zero, List.set_cons_succ]
      refine wpAnyH_take (i := 1) (oi := ⟨some 18, _, _, _, _, _⟩) (v := ?_) rfl (by kernel_rfl) (by kernel_rfl) (by kernel_rfl) (fun _ _ _ h => h) (Or.inl ⟨by rfl, ?_⟩) (by assumption) ?_
      rotate_left
      · (intro w' hSw; (try dsimp only at hSw); go_simp <;> (with_reducible rfl))
      try simp only [Act.put, List.setIfInBounds_toArray, List.set_cons_zero, List.set_cons_succ]
      refine wpAnyH_take (i := 4) (oi := ⟨some 21, _, _, _, _, _⟩) (v := ?_) rfl (by kernel_rfl) (by kernel_rfl) (by kernel_rfl) (fun _ _ _ h => h) (Or.inl ⟨by rfl, ?_⟩) (by assumption) ?_
      rotate_left
      · (intro w' hSw; (try dsimp only at hSw); go_simp <;> (with_reducible rfl))
      try simp only [Act.put, List.setIfInBounds_toArray, List.set_cons_zero, List.set_cons_succ]
      refine wpAnyH_take (i := 5) (oi := ⟨some 22, _, _, _, _, _⟩) (v := ?_) rfl (by kernel_rfl) (by kernel_rfl) (by kernel_rfl) (fun _ _ _ h => h) (Or.inl ⟨by rfl, ?_⟩) (by assumption) ?_
      rotate_left
      · (intro w' hSw; (try dsimp only at hSw); go_simp <;> (with_reducible rfl))
      try simp only [Act.put, List.setIfInBounds_toArray, List.set_cons_zero, List.set_cons_succ]
      refine wpAnyH_take (i := 6) (oi := ⟨some 23, _, _, _, _, _⟩) (v := ?_) rfl (by kernel_rfl) (by kernel_rfl) (by kernel_rfl) (fun _ _ _ h => h) (Or.inl ⟨by rfl, ?_⟩) (by assumption) ?_
      rotate_left
      · (intro w' hSw; (try dsimp only at hSw); go_simp <;> (with_reducible rfl))
      try simp only [Act.put, List.setIfInBounds_toArray, List.set_cons_zero, List.set_cons_succ]
      refine wpAnyH_take (i := 7) (oi := ⟨some 24, _, _, _, _, _⟩) (v := ?_) rfl (by kernel_rfl) (by kernel_rfl) (by kernel_rfl) (fun _ _ _ h => h) (Or.inl ⟨by rfl, ?_⟩) (by assumption) ?_
      rotate_left
      · (intro w' hSw; (try dsimp only at hSw); go_simp <;> (with_reducible rfl))
      try simp only [Act.put, List.setIfInBounds_toArray, List.set_cons_zero, List.set_cons_succ]
      refine wpAnyH_take (i := 9) (oi := ⟨some 26, _, _, _, _, _⟩) (v := ?_) rfl (by kernel_rfl) (by kernel_rfl) (by kernel_rfl) (fun _ _ _ h => h) (Or.inl ⟨by rfl, ?_⟩) (by assumption) ?_
      rotate_left
      · (intro w' hSw; (try dsimp only at hSw); go_simp <;> (with_reducible rfl))
      try simp only [Act.put, List.setIfInBounds_toArray, List.set_cons_zero, List.set_cons_succ]
      refine wpAnyH_take (i := 10) (oi := ⟨some 27, _, _, _, _, _⟩) (v := ?_) rfl (by kernel_rfl) (by kernel_rfl) (by kernel_rfl) (fun _ _ _ h => h) (Or.inl ⟨by rfl, ?_⟩) (by assumption) ?_
      rotate_left
      · (intro w' hSw; (try dsimp only at hSw); go_simp <;> (with_reducible rfl))
      try simp only [Act.put, List.setIfInBounds_toArray, List.set_cons_zero, List.set_cons_succ]
      refine wpAnyH_take (i := 11) (oi := ⟨some 28, _, _, _, _, _⟩) (v := ?_) rfl (by kernel_rfl) (by kernel_rfl) (by kernel_rfl) (fun _ _ _ h => h) (Or.inl ⟨by rfl, ?_⟩) (by assumption) ?_
      rotate_left
      · (intro w' hSw; (try dsimp only at hSw); go_simp <;> (with_reducible rfl))
      try simp only [Act.put, List.setIfInBounds_toArray, List.set_cons_zero, List.set_cons_succ]
      refine wpAnyH_take (i := 12) (oi := ⟨some 29, _, _, _, _, _⟩) (v := ?_) rfl (by kernel_rfl) (by kernel_rfl) (by kernel_rfl) (fun _ _ _ h => h) (Or.inl ⟨by rfl, ?_⟩) (by assumption) ?_
      rotate_left
      · (intro w' hSw; (try dsimp only at hSw); go_simp <;> (with_reducible rfl))
      try simp only [Act.put, List.setIfInBounds_toArray, List.set_cons_zero, List.set_cons_succ]
      refine wpAnyH_take (i := 13) (oi := ⟨some 30, _, _, _, _, _⟩) (v := ?_) rfl (by kernel_rfl) (by kernel_rfl) (by kernel_rfl) (fun _ _ _ h => h) (Or.inl ⟨by rfl, ?_⟩) (by assumption) ?_
      rotate_left
      · (intro w' hSw; (try dsimp only at hSw); go_simp <;> (with_reducible rfl))
      try simp only [Act.put, List.setIfInBounds_toArray, List.set_cons_zero, List.set_cons_succ]
      refine wpAnyH_ready (rs := [2]) (by kernel_rfl) (by simp) ?_
      refine AllReadyH.cons (o := ⟨some 19, _, _, _, _, _⟩) rfl (fun K' hK => ?_) AllReadyH.nil
      go_simp
      go_at_call 56
      refine (HIW.out _ HL.out).mono ?_
      rintro e_ w_4 ⟨rfl, hb_4⟩
      replace HO := hide (HO.out.below hb_4)
      replace HX5 := hide (HX5.out.below hb_4)
      replace HC0 := hide (HC0.out.below hb_4)
      replace HC1 := hide (HC1.out.below hb_4)
      replace HD0 := hide (HD0.out.below hb_4)
      replace HD1 := hide (HD1.out.below hb_4)
      replace HL := hide (HL.out.trans (hb_4.mono HL.out.size))
      clear hb_4
      go_wp2_with fail
      refine hK.out _ _ ⟨HC0.out.c, HC1.out.c, HD0.out.c, HD1.out.c, HX5.out.c2.1, HX5.out.c2.2.1⟩ (fun hHeld => ?_)
      clear hK K'
      try simp only [Act.put, List.setIfInBounds_toArray, List.set_cons_zero, List.set_cons_succ]
      refine wpAnyH_take (i := 3) (oi := ⟨some 20, _, _, _, _, _⟩) (v := ?_) rfl (by kernel_rfl) (by kernel_rfl) (by kernel_rfl) (fun _ _ _ h => h) (Or.inl ⟨by rfl, ?_⟩) (by assumption) ?_
      rotate_left
      · (intro w' hSw; (try dsimp only at hSw); go_simp <;> (with_reducible rfl))
      try simp only [Act.put, List.setIfInBounds_toArray, List.set_cons_zero, List.set_cons_succ]
      refine wpAnyH_ready (rs := [8]) (by kernel_rfl) (by simp) ?_
      refine AllReadyH.cons (o := ⟨some 25, _, _, _, _, _⟩) rfl (fun K' hK => ?_) AllReadyH.nil
      go_simp
      go_at_call 40
      refine (HM1.out _).mono ?_
      rintro e_ w_5 ⟨rfl, hb_5⟩
      replace HO := hide (HO.out.below hb_5)
      replace HX5 := hide (HX5.out.below hb_5)
      replace HC0 := hide (HC0.out.below hb_5)
      replace HC1 := hide (HC1.out.below hb_5)
      replace HD0 := hide (HD0.out.below hb_5)
      replace HD1 := hide (HD1.out.below hb_5)
      replace HL := hide (HL.out.trans (hb_5.mono HL.out.size))
      clear hb_5
      go_wp2_with fail
      refine hK.out _ _ ⟨HC0.out.c, HC1.out.c, HD0.out.c, HD1.out.c, HX5.out.c2.1, HX5.out.c2.2.1⟩ (fun hHeld => ?_)
      clear hK K'
      try simp only [Act.put, List.setIfInBounds_toArray, List.set_cons_zero, List.set_cons_succ]
      refine wpAnyH_ready (rs := [14]) (by kernel_rfl) (by simp) ?_
      refine AllReadyH.cons (o := ⟨some 31, _, _, _, _, _⟩) rfl (fun K' hK => ?_) AllReadyH.nil
      go_simp
      go_at_call 40
      refine (HM2.out _).mono ?_
      rintro e_ w_6 ⟨rfl, hb_6⟩
      replace HO := hide (HO.out.below hb_6)
      replace HX5 := hide (HX5.out.below hb_6)
      replace HC0 := hide (HC0.out.below hb_6)
      replace HC1 := hide (HC1.out.below hb_6)
      replace HD0 := hide (HD0.out.below hb_6)
      replace HD1 := hide (HD1.out.below hb_6)
      replace HL := hide (HL.out.trans (hb_6.mono HL.out.size))
      clear hb_6
      go_wp2_with fail
      refine hK.out _ _ ⟨HC0.out.c, HC1.out.c, HD0.out.c, HD1.out.c, HX5.out.c2.1, HX5.out.c2.2.1⟩ (fun hHeld => ?_)
      clear hK K'
      try simp only [Act.put, List.setIfInBounds_toArray, List.set_cons_zero, List.set_cons_succ]
      refine wpAnyH_ready (rs := [15]) (by kernel_rfl) (by simp) ?_
      refine AllReadyH.cons (o := ⟨some 32, _, _, _, _, _⟩) rfl (fun K' hK => ?_) AllReadyH.nil
      go_simp
      go_at_call 88
      refine (HGS.out _).mono ?_
      rintro e_ w_7 ⟨rfl, hb_7⟩
      replace HO := hide (HO.out.below hb_7)
      replace HX5 := hide (HX5.out.below hb_7)
      replace HC0 := hide (HC0.out.below hb_7)
      replace HC1 := hide (HC1.out.below hb_7)
      replace HD0 := hide (HD0.out.below hb_7)
      replace HD1 := hide (HD1.out.below hb_7)
      replace HL := hide (HL.out.trans (hb_7.mono HL.out.size))
      clear hb_7
      go_wp2_with fail
      refine hK.out _ _ ⟨HC0.out.c, HC1.out.c, HD0.out.c, HD1.out.c, HX5.out.c2.1, HX5.out.c2.2.1⟩ (fun hHeld => ?_)
      clear hK K'
      try simp only [Act.put, List.setIfInBounds_toArray, List.set_cons_zero, List.set_cons_succ]
      refine wpAnyH_ready (rs := [16]) (by kernel_rfl) (by simp) ?_
      refine AllReadyH.cons (o := ⟨some 33, _, _, _, _, _⟩) rfl (fun K' hK => ?_) AllReadyH.nil
      go_simp
      obtain ⟨g33, hg33⟩ : ∃ q, w_7.heap.size = q := ⟨_, rfl⟩
      obtain ⟨w_8, hw_8⟩ : ∃ q : World, q = w_7.alloc (.cells #[.int .i64 (p0 - s0), .int .i64 (p1 - s1)] 53) := ⟨_, rfl⟩
      try rw [← hw_8]
      have HN := hide (show Box w_8 g33 53 #[.int .i64 (p0 - s0), .int .i64 (p1 - s1)] by rw [hw_8]; exact Box.made hg33.symm)
      have hc_8 : Below w_7.heap.size w_7 w_8 := by rw [hw_8]; exact (Below.refl _ _).alloc (Nat.le_refl _) _
      clear hw_8
      replace HO := hide (HO.out.below hc_8)
      replace HX5 := hide (HX5.out.below hc_8)
      replace HC0 := hide (HC0.out.below hc_8)
      replace HC1 := hide (HC1.out.below hc_8)
      replace HD0 := hide (HD0.out.below hc_8)
      replace HD1 := hide (HD1.out.below hc_8)
      replace HL := hide (HL.out.trans (hc_8.mono HL.out.size))
      clear hc_8
      try simp only [hg33]
      clear hg33
      refine hK.out _ _ ⟨HC0.out.c, HC1.out.c, HD0.out.c, HD1.out.c, HX5.out.c2.1, HX5.out.c2.2.1⟩ (fun hHeld => ?_)
      clear hK K'
      try simp only [Act.put, List.setIfInBounds_toArray, List.set_cons_zero, List.set_cons_succ]
      refine wpAnyH_ready (rs := [17]) (by kernel_rfl) (by simp) ?_
      refine AllReadyH.cons (o := ⟨some 34, _, _, _, _, _⟩) rfl (fun K' hK => ?_) AllReadyH.nil
      have hsz := HL.out.size
      refine wp_append_gaus _ (.tmp 17) (.tmp 33) rfl W0.heap.size 0 (.slice As k cs) k L rfl HO.out (some ⟨g33, 0, none⟩) 1 1 (fun _ => ⟨p0 - s0, p1 - s1⟩) rfl (GausAt.one (x := ⟨p0 - s0, p1 - s1⟩) HN.out) (by omega) hsz ?_
      intro v2 w_9 ho_9 hb_9
      obtain ⟨A2, c2, rfl, hc2, hi2⟩ := ownGaus_form ho_9
      clear hi2 hsz
      replace HX5 := hide (HX5.out.kept hb_9 hl5)
      replace HC0 := hide (HC0.out.kept hb_9 l1)
      replace HC1 := hide (HC1.out.kept hb_9 l1)
      replace HD0 := hide (HD0.out.kept hb_9 l2)
      replace HD1 := hide (HD1.out.kept hb_9 l2)
      replace HL := hide (HL.out.trans hb_9)
      have HO2 := hide ho_9
      clear hb_9 ho_9 HN HO
      refine hK.out _ _ ⟨HC0.out.c, HC1.out.c, HD0.out.c, HD1.out.c, HX5.out.c2.1, HX5.out.c2.2.1⟩ (fun hHeld => ?_)
      clear hK K'
      try simp only [Act.put, List.setIfInBounds_toArray, List.set_cons_zero, List.set_cons_succ]
      refine wpAnyH_take (i := 18) (oi := ⟨some 6, _, _, _, _, _⟩) (v := ?_) rfl (by kernel_rfl) (by kernel_rfl) (by kernel_rfl) (fun _ _ _ h => h) (Or.inl ⟨by rfl, ?_⟩) (by assumption) ?_
      rotate_left
      · (intro w' hSw; (try dsimp only at hSw); go_simp <;> (with_reducible rfl))
      try simp only [Act.put, List.setIfInBounds_toArray, List.set_cons_zero, List.set_cons_succ]
      refine wpAnyH_done (by kernel_rfl) ?_ _
      go_wp2_with fail
      go_roundw
      case rel => exact ⟨k + 1, by omega, by go_num, hide (HO2.out.congr fun i hi => by
          unfold catG
          by_cases e : i < k
          · rw [if_pos e]
          · rw [if_neg e, show i = k by omega]; exact HLK.out.symm), HX5, HL⟩
      case measure => simp [Go.RowKit.intOf]; omega
    obtain rfl : k = n := by omega
    have HG := hide (OwnGaus.gaus HO.out)
    clear HO HX5
    go_wp2_with fail
    go_ret
    exact ⟨_, _, rfl, HG.out.weak HB.out.size, HB.out.trans (HL.out.mono HB.out.size)⟩
end Go.Proofs.Ytdkbjgnkehoplaa
/- Two right channels: what PartOf, KeptOf, Cleared hand back, and what holds of it. -/
namespace Go.Proofs.Ytdkbjgnkehoplaa
open Go.RowKit Go.Great
/-- Two right channels. -/
structure TwoC (n : Nat) (X Y : Nat → Gau) : Prop where
  x : OkC n X
  y : OkC n Y
  ex : 0 < enI X n
  ey : 0 < enI Y n
  e0 : tchE n n X Y = 0
theorem tchE_swap {n : Nat} {X Y : Nat → Gau} (h : tchE n n X Y = 0) : tchE n n Y X = 0 := by
  obtain ⟨h1, h2, h3⟩ := tchE_zero h
  obtain ⟨h4, h5, -⟩ := bthE_zero h1
  rw [tchE_if, bthE_if, h4, h5, h2, h3]
  simp [unI]
theorem TwoC.of {n m : Nat} {X Y : Nat → Gau} (h : tchE n m X Y = 0) : m = n ∧ TwoC n X Y := by
  obtain ⟨rfl, h1, h2, h3, h4⟩ := tchE_ok h
  exact ⟨rfl, h1, h2, h3, h4, h⟩
theorem TwoC.swap {n : Nat} {X Y : Nat → Gau} (h : TwoC n X Y) : TwoC n Y X := ⟨h.y, h.x, h.ey, h.ex, tchE_swap h.e0⟩
theorem ptG_swap (X Y : Nat → Gau) (n : Nat) : ptG Y X n = ptG X Y n := by unfold ptG; rw [nmI_comm, Int.mul_comm]
theorem ptN_swap (X Y : Nat → Gau) (n : Nat) : ptN Y X n = ptN X Y n := by unfold ptN; rw [nmI_comm, ptG_swap]
theorem ptD_swap (X Y : Nat → Gau) (n : Nat) : ptD Y X n = ptD X Y n := by unfold ptD; rw [ptG_swap, Int.mul_comm]
theorem TwoC.lowest {n : Nat} {X Y : Nat → Gau} (h : TwoC n X Y) : 0 < ptG X Y n ∧ ptN X Y n * ptG X Y n = nmI X Y n ∧ ptD X Y n * ptG X Y n = enI X n * enI Y n := by
  have hg := (h.x.common h.y h.ex h.ey).1
  refine ⟨hg, ?_, ?_⟩
  · unfold ptN ptG
    exact Int.tdiv_mul_cancel (Int.gcd_dvd_left ..)
  · unfold ptD ptG
    exact Int.tdiv_mul_cancel (Int.gcd_dvd_right ..)
theorem TwoC.fraction {n : Nat} {X Y : Nat → Gau} (h : TwoC n X Y) : 0 ≤ ptN X Y n ∧ ptN X Y n ≤ ptD X Y n ∧ 1 ≤ ptD X Y n ∧ ptD X Y n ≤ 207360000 ∧ (ptD X Y n - ptN X Y n = 0 ↔ enI X n * enI Y n - nmI X Y n = 0) := by
  obtain ⟨hg, e1, e2⟩ := h.lowest
  obtain ⟨⟨b1, -⟩, b2, b3⟩ := h.x.parts h.y h.ex
  have hp := Int.mul_pos h.ex h.ey
  have hle := nmI_le (H := Y) h.ex
  have e3 : (ptD X Y n - ptN X Y n) * ptG X Y n = enI X n * enI Y n - nmI X Y n := by rw [Int.sub_mul, e1, e2]
  refine ⟨b1, ?_, ?_, b3, ?_⟩
  · have : 0 ≤ (ptD X Y n - ptN X Y n) * ptG X Y n := by omega
    rcases Int.lt_or_le (ptD X Y n - ptN X Y n) 0 with h1 | h1
    · have := Int.mul_neg_of_neg_of_pos h1 hg
      omega
    · omega
  · rcases Int.lt_or_le 0 (ptD X Y n) with h1 | h1
    · omega
    · have h0 : ptD X Y n = 0 := by omega
      rw [h0, Int.zero_mul] at e2
      omega
  · constructor
    · intro h0
      rw [h0, Int.zero_mul] at e3
      exact e3.symm
    · intro h0
      rw [h0] at e3
      rcases Int.mul_eq_zero.1 e3 with h1 | h1
      · exact h1
      · omega
theorem TwoC.left {n : Nat} {X Y : Nat → Gau} (h : TwoC n X Y) : hrB n (clF X Y n) = (ptD X Y n - ptN X Y n != 0) := by
  rw [hrB_energy, clear_energy, Bool.eq_iff_iff]
  simp only [bne_iff_ne, ne_eq]
  have := h.fraction.2.2.2.2
  have hx := h.ex
  rw [this]
  constructor
  · intro h1 h2
    exact h1 (by rw [h2, Int.mul_zero])
  · intro h1 h2
    rcases Int.mul_eq_zero.1 h2 with h3 | h3
    · omega
    · exact h1 h3
theorem TwoC.small {n : Nat} {X Y : Nat → Gau} (h : TwoC n X Y) : ∀ j, j < n → (clF X Y n j).Within 2000000 := fun j hj => by
  obtain ⟨h1, h2⟩ := h.x.energy
  obtain ⟨h3, h4⟩ := h.x.inner h.y
  exact clG_within (by omega) h3 h4 (h.x.small j hj) (h.y.small j hj)
theorem hrB_succ (k : Nat) (X : Nat → Gau) : hrB (k + 1) X = (hrB k X || heardB (X k)) := by
  unfold hrB anyN
  rw [List.range_succ, List.any_append]
  simp
theorem PartOf_two (A B : Option Addr) (n c d : Nat) (X Y : Nat → Gau) (w : World) (h : TwoC n X Y) (hI : GausAt w 0 A n X) (hJ : GausAt w 0 B n Y) :
    Calls Try.prog 29 #[.slice A n c, .slice B n d] w fun e w' => e = .returned (.tuple #[.agg #[.int .i64 (ptN X Y n), .int .i64 (ptD X Y n)], .int .i64 0]) ∧ Below w.heap.size w w' := by
  have hn8 := h.x.n8
  have := PartOf_any A B n c n d X Y w (by omega) (by omega) hI hJ
  rw [show poN n n X Y = ptN X Y n from if_pos h.e0, show poD n n X Y = ptD X Y n from if_pos h.e0, h.e0] at this
  exact this
theorem KeptOf_two (A B : Option Addr) (n c d : Nat) (X Y : Nat → Gau) (w : World) (h : TwoC n X Y) (hI : GausAt w 0 A n X) (hJ : GausAt w 0 B n Y) :
    Calls Try.prog 30 #[.slice A n c, .slice B n d] w fun e w' => e = .returned (.tuple #[.agg #[.int .i64 (ptD X Y n - ptN X Y n), .int .i64 (ptD X Y n)], .int .i64 0]) ∧ Below w.heap.size w w' := by
  have hn8 := h.x.n8
  have := KeptOf_any A B n c n d X Y w (by omega) (by omega) hI hJ
  rw [show koN n n X Y = ptD X Y n - ptN X Y n from if_pos h.e0, show poD n n X Y = ptD X Y n from if_pos h.e0, h.e0] at this
  exact this
theorem Cleared_two (A B : Option Addr) (n c d : Nat) (X Y : Nat → Gau) (w : World) (h : TwoC n X Y) (hI : GausAt w 0 A n X) (hJ : GausAt w 0 B n Y) :
    Calls Try.prog 31 #[.slice A n c, .slice B n d] w fun e w' => ∃ C f, e = .returned (.tuple #[.slice C n f, .int .i64 0]) ∧ GausAt w' 0 C n (clF X Y n) ∧ Below w.heap.size w w' := by
  have hn8 := h.x.n8
  refine (Cleared_any A B n c n d X Y w (by omega) (by omega) hI hJ).mono ?_
  rintro e w1 ⟨v, rfl, ⟨C, q, f, rfl, hq, -, -, hi⟩, hb⟩
  obtain rfl := hq.1 h.e0
  rw [h.e0]
  exact ⟨C, f, rfl, hi, hb⟩
theorem copyGausses5_any (A : Option Addr) (n c : Nat) (F : Nat → Gau) (w : World) (hn : n ≤ 10000000) (hI : GausAt w 0 A n F) :
    Calls Try.prog 15 #[.slice A n c] w fun e w' => ∃ C f, e = .returned (.slice C n f) ∧ GausAt w' 0 C n F ∧ Below w.heap.size w w' := by
  refine (copyGausses_own A n c F w hn hI).mono ?_
  rintro e w1 ⟨v, rfl, ho, hb⟩
  obtain ⟨C, f, rfl, -, hi⟩ := ownGaus_form ho
  exact ⟨C, f, rfl, hi.weak (Nat.zero_le _), hb⟩
end Go.Proofs.Ytdkbjgnkehoplaa
