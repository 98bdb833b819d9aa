/- Lemmas: E31. -/
import Derived.Test.YtejhakkfgfahaaaBz08
import Derived.Test.YtejhakkfgfahaaaBz16
set_option linter.unusedVariables false
set_option linter.unusedSimpArgs false
/- Refined of the reference. -/
namespace Go.Proofs.Ytejhakkfgfahaaa
open Go.RowKit Go.Shelf Go.Great
set_option maxHeartbeats 8000000 in
set_option maxRecDepth 100000 in
theorem Refined_ref (s : Nat) (w : World) (hs7 : s ≤ 7) :
    Calls Try.prog 33 #[.int .i64 (s : Int)] w fun e w' => ∃ v, e = .returned (.tuple #[v, .int .i64 ((rfK s 3 : Nat) : Int)]) ∧ OwnLooks w' w.heap.size v 6 (rfF s) (rfP s) (rfQ s) ∧ Below w.heap.size w w' := by
  have HLK := hide (fun (a k : Nat) W h1 h2 h3 => look_ref a k s W h1 h2 h3 hs7)
  have HST := hide (fun r => (show rfK s (r + 1) = if 0 < compI ((lkN (rfK s r + 2 ^ r) (4 / 2 ^ r) s).sqP - (lkN (rfK s r) (4 / 2 ^ r) s).sqP) ((lkN (rfK s r) (4 / 2 ^ r) s).sqQ - (lkN (rfK s r + 2 ^ r) (4 / 2 ^ r) s).sqQ) then rfK s r + 2 ^ r else rfK s r from rfl))
  have HLT := hide (fun r => rfK_lt s r)
  have HFF := hide (fun r j (hj : j < 2) => (show rfF s (2 * r + j) = stF (rfK s r + j * 2 ^ r) (4 / 2 ^ r) ∧ rfP s (2 * r + j) = (lkN (rfK s r + j * 2 ^ r) (4 / 2 ^ r) s).sqP ∧ rfQ s (2 * r + j) = (lkN (rfK s r + j * 2 ^ r) (4 / 2 ^ r) s).sqQ by
    unfold rfF rfP rfQ rK rA
    rw [show (2 * r + j) / 2 = r by omega, show (2 * r + j) % 2 = j by omega]
    exact ⟨rfl, rfl, rfl⟩))
  go_enter Try.func33, Try.ntmps33
  go_wp2_with fail
  go_loopw [4, 5, 6, 7] (fun v k f a wr => ∃ r : Nat, r ≤ 3 ∧ k = .int .i64 ((rfK s r : Nat) : Int) ∧ f = .int .i64 ((2 ^ r : Nat) : Int) ∧ a = .int .i64 ((4 / 2 ^ r : Nat) : Int) ∧ Hid (OwnLooks wr w.heap.size v (2 * r) (rfF s) (rfP s) (rfQ s)) ∧ Hid (Below w.heap.size w wr)) (fun _ _ _ a _ => (Go.RowKit.intOf a).toNat)
  case atStart => exact ⟨0, Nat.zero_le _, rfl, rfl, rfl, hide (OwnLooks.nil_ _ _ _ _ _), hide (Below.refl _ _)⟩
  case round =>
    obtain ⟨r, hr, rfl, rfl, rfl, HO, HB⟩ := hrel
    obtain ⟨wA, rfl⟩ : ∃ x : World, x = wr := ⟨_, rfl⟩
    have hBs := HB.out.size
    have hST := HST.out r
    have hkf := HLT.out r
    have hF0 := HFF.out r 0 (by decide)
    have hF1 := HFF.out r 1 (by decide)
    have hf2 : 2 ^ (r + 1) = 2 ^ r * 2 := Nat.pow_succ 2 r
    have hcase : r = 0 ∨ r = 1 ∨ r = 2 ∨ r = 3 := by omega
    by_cases hlt : r < 3
    case neg =>
      obtain rfl : r = 3 := by omega
      have q9 : ((4 / 2 ^ 3 : Nat) : Int) = 0 := rfl
      rw [q9]
      go_wp2_with fail
      go_ret2
      exact ⟨_, rfl, HO.out, HB.out⟩
    have hf : 1 ≤ 2 ^ r ∧ 2 ^ r ≤ 4 ∧ 1 ≤ 4 / 2 ^ r ∧ 4 / 2 ^ r ≤ 4 ∧ 4 / 2 ^ (r + 1) = (4 / 2 ^ r) / 2 := by
      rcases hcase with rfl | rfl | rfl | rfl
      · decide
      · decide
      · decide
      · omega
    have hfe2 : (4 / 2 ^ r) / 2 = 4 / 2 ^ (r + 1) := hf.2.2.2.2.symm
    obtain ⟨f, hfe⟩ : ∃ z, 2 ^ r = z := ⟨_, rfl⟩
    rw [hfe] at hf hST hkf hF0 hF1 hf2 hfe2
    simp only [hfe]
    obtain ⟨a, hae⟩ : ∃ z, 4 / f = z := ⟨_, rfl⟩
    rw [hae] at hf hST hF0 hF1 hfe2
    simp only [hae]
    obtain ⟨k, hke⟩ : ∃ z, rfK s r = z := ⟨_, rfl⟩
    rw [hke] at hST hkf hF0 hF1
    simp only [hke]
    rw [Nat.zero_mul, Nat.add_zero, Nat.add_zero] at hF0
    rw [Nat.one_mul] at hF1
    obtain ⟨hf1, hf4, ha1, ha4, -⟩ := hf
    have haz : (1 : Int) ≤ (a : Int) := by omega
    have q1 : IntKind.i64.wrap ((k : Int) + (f : Int)) = ((k + f : Nat) : Int) := by rw [← Int.natCast_add]; exact IntWalk.i64_in _ (by omega)
    have q4 : IntKind.i64.wrap (2 * (f : Int)) = ((f * 2 : Nat) : Int) := by rw [show 2 * (f : Int) = ((f * 2 : Nat) : Int) by omega]; exact IntWalk.i64_in _ (by omega)
    have q5 : (a : Int).tdiv 2 = ((a / 2 : Nat) : Int) := by rw [Int.tdiv_eq_ediv_of_nonneg (by omega)]; omega
    have q6 : IntKind.i64.wrap ((a / 2 : Nat) : Int) = ((a / 2 : Nat) : Int) := IntWalk.i64_in _ (by omega)
    have HREL := hide (show 2 ^ (r + 1) = f * 2 by rw [hf2])
    have HREA := hide (show 4 / 2 ^ (r + 1) = a / 2 from hfe2.symm)
    have HST1 := hide hST
    have HF0 := hide hF0
    have HF1 := hide hF1
    have hvlt := fun b => (HO.out.lt (k := b))
    clear hST hF0 hF1 hf2 hfe hae hke hcase HST HFF HLT hfe2
    have HN0 := lkN_bounds k a s
    have HN1 := lkN_bounds (k + f) a s
    have HLK0 := hide (fun W => HLK.out a k W ha1 (by omega) (by omega))
    have HLK1 := hide (fun W => HLK.out a (k + f) W ha1 (by omega) (by omega))
    obtain ⟨p0, hp0⟩ : ∃ z, (lkN k a s).sqP = z := ⟨_, rfl⟩
    obtain ⟨q0, hq0⟩ : ∃ z, (lkN k a s).sqQ = z := ⟨_, rfl⟩
    obtain ⟨p1, hp1⟩ : ∃ z, (lkN (k + f) a s).sqP = z := ⟨_, rfl⟩
    obtain ⟨qq, hq1⟩ : ∃ z, (lkN (k + f) a s).sqQ = z := ⟨_, rfl⟩
    rw [hp0, hq0] at HN0
    rw [hp1, hq1] at HN1
    rw [hp0, hq0, hp1, hq1] at HST1
    rw [hp0, hq0] at HF0
    rw [hp1, hq1] at HF1
    simp only [hp0, hq0] at HLK0
    simp only [hp1, hq1] at HLK1
    have HLA := hide (fun W => (show Calls Try.prog 31 #[.agg #[.int .i64 p1, .int .i64 qq], .agg #[.int .i64 p0, .int .i64 q0]] W fun e w' => e = .returned (.int .i64 (compI (p1 - p0) (q0 - qq))) ∧ Below W.heap.size W w' by
      have := largerR_any p1 qq p0 q0 W (by omega) (by omega) (by omega) (by omega)
      rw [refC_comp, Int.neg_sub] at this
      exact this))
    clear hp0 hq0 hp1 hq1 HN0 HN1 HLK
    go_wp2_with fail
    refine (HLK0.out _).mono ?_
    rintro e_ w_1 ⟨D0, d0, rfl, hc0, hi0, hb_1⟩
    have hsz := hb_1.size
    replace HO := hide (HO.out.below hb_1)
    replace HB := hide (HB.out.trans (hb_1.mono HB.out.size))
    clear hb_1
    have hap0 : ∀ b o, D0 = some ⟨b, o, none⟩ → wA.heap.size ≤ b ∧ b < w_1.heap.size := fun b o e => by subst e; exact hi0.block (by decide : 0 < 8)
    have HI0 := hide (hi0.weak hBs)
    have hs1 := HB.out.size
    skip
    clear hi0
    have HSA := hide (show wA.heap.size ≤ w_1.heap.size from hsz)
    go_wp2_with fail
    refine (HLK1.out _).mono ?_
    rintro e_ w_2 ⟨D1, d1, rfl, hc1, hi1, hb_2⟩
    have hsz2 := hb_2.size
    replace HO := hide (HO.out.below hb_2)
    replace HI0 := hide (HI0.out.below hb_2)
    replace HB := hide (HB.out.trans (hb_2.mono HB.out.size))
    clear hb_2
    have hap1 : ∀ b o, D1 = some ⟨b, o, none⟩ → w_1.heap.size ≤ b ∧ b < w_2.heap.size := fun b o e => by subst e; exact hi1.block (by decide : 0 < 8)
    have HI1 := hide (hi1.weak hs1)
    clear hi1 HLK0 HLK1
    have HSB := hide (show wA.heap.size ≤ w_1.heap.size ∧ w_1.heap.size ≤ w_2.heap.size from ⟨hsz, hsz2⟩)
    go_upto_region 7 with fail
    clear hs1
    obtain ⟨g8, hg8⟩ : ∃ q, w_2.heap.size = q := ⟨_, rfl⟩
    obtain ⟨w_3, hw_3⟩ : ∃ q : World, q = w_2.alloc (.cells #[.slice D0 8 d0, .int .i64 p0, .int .i64 q0] 100) := ⟨_, rfl⟩
    try rw [← hw_3]
    have HX8 := hide (show Box w_3 g8 100 #[.slice D0 8 d0, .int .i64 p0, .int .i64 q0] by rw [hw_3]; exact Box.made hg8.symm)
    have hs8 : w_2.heap.size = g8 := hg8
    have hs3 : w_3.heap.size = g8 + 1 := by rw [hw_3, ← hg8]; simp
    have hc_3 : Below w_2.heap.size w_2 w_3 := by rw [hw_3]; exact (Below.refl _ _).alloc (Nat.le_refl _) _
    clear hw_3
    replace HO := hide (HO.out.below hc_3)
    replace HI0 := hide (HI0.out.below hc_3)
    replace HI1 := hide (HI1.out.below hc_3)
    replace HB := hide (HB.out.trans (hc_3.mono HB.out.size))
    clear hc_3
    try simp only [hg8]
    clear hg8
    obtain ⟨g9, hg9⟩ : ∃ q, w_3.heap.size = q := ⟨_, rfl⟩
    obtain ⟨w_4, hw_4⟩ : ∃ q : World, q = w_3.alloc (.cells #[.slice D1 8 d1, .int .i64 p1, .int .i64 qq] 100) := ⟨_, rfl⟩
    try rw [← hw_4]
    have HX9 := hide (show Box w_4 g9 100 #[.slice D1 8 d1, .int .i64 p1, .int .i64 qq] by rw [hw_4]; exact Box.made hg9.symm)
    have he9 : g8 + 1 = g9 := hs3.symm.trans hg9
    have hc_4 : Below w_3.heap.size w_3 w_4 := by rw [hw_4]; exact (Below.refl _ _).alloc (Nat.le_refl _) _
    clear hw_4
    replace HO := hide (HO.out.below hc_4)
    replace HI0 := hide (HI0.out.below hc_4)
    replace HI1 := hide (HI1.out.below hc_4)
    replace HX8 := hide (HX8.out.below hc_4)
    replace HB := hide (HB.out.trans (hc_4.mono HB.out.size))
    clear hc_4
    try simp only [hg9]
    clear hg9
    simp only [he9]
    clear hs3
    obtain ⟨x0, x1, x2, -, -, -, hlx⟩ := HX8.out.cellsT
    obtain ⟨y0, y1, y2, -, -, -, hly⟩ := HX9.out.cellsT
    obtain ⟨w9, hw9⟩ : ∃ z : World, z = w_4.alloc (.cells #[.slice D0 8 d0, .int .i64 p0, .int .i64 q0, .slice D1 8 d1, .int .i64 p1, .int .i64 qq] 100) := ⟨_, rfl⟩
    have hw9s : w9.heap.size = w_4.heap.size + 1 := by rw [hw9]; simp
    have HBX := hide (show Box w9 w_4.heap.size 100 #[.slice D0 8 d0, .int .i64 p0, .int .i64 q0, .slice D1 8 d1, .int .i64 p1, .int .i64 qq] by rw [hw9]; exact Box.made rfl)
    replace HO := hide (show OwnLooks w9 w.heap.size _ (2 * r) (rfF s) (rfP s) (rfQ s) by rw [hw9]; exact HO.out.alloc _)
    replace HI0 := hide (show IntsAt w9 w.heap.size D0 8 (stF k a) by rw [hw9]; exact HI0.out.alloc _)
    replace HI1 := hide (show IntsAt w9 w.heap.size D1 8 (stF (k + f) a) by rw [hw9]; exact HI1.out.alloc _)
    replace HX8 := hide (show Box w9 g8 100 #[.slice D0 8 d0, .int .i64 p0, .int .i64 q0] by rw [hw9]; exact HX8.out.alloc _)
    replace HX9 := hide (show Box w9 g9 100 #[.slice D1 8 d1, .int .i64 p1, .int .i64 qq] by rw [hw9]; exact HX9.out.alloc _)
    replace HB := hide (show Below w.heap.size w w9 by rw [hw9]; exact HB.out.alloc HB.out.size _)
    have HW9 := hide hw9
    have HWS := hide hw9s
    clear hw9 hw9s
    go_upto_region 8 with (at_builtin; (try rw [← HW9.out]); refine wpList_append_looks _ rfl (.tmp 24) (.tmp 27) rfl w.heap.size _ (2 * r) (rfF s) (rfP s) (rfQ s) rfl HO.out ⟨w_4.heap.size, 0, none⟩ 2 2 _ _ _ [.slice D0 8 d0, .int .i64 p0, .int .i64 q0, .slice D1 8 d1, .int .i64 p1, .int .i64 qq] rfl rfl (looks_two HBX.out HI0.out HI1.out (fun b o e => ⟨fun y => (by have h1 := hap0 b o e; have h2 := (hvlt _ y).2; omega), by have := hap0 b o e; have := HWS.out; omega⟩) (fun b o e => ⟨fun y => (by have h1 := hap1 b o e; have h2 := (hvlt _ y).2; omega), by have := hap1 b o e; have := HWS.out; omega⟩)).1 (by intro u hu; simp at hu; rcases hu with rfl | rfl | rfl | rfl | rfl | rfl <;> rfl) (looks_two HBX.out HI0.out HI1.out (fun b o e => ⟨fun y => (by have h1 := hap0 b o e; have h2 := (hvlt _ y).2; omega), by have := hap0 b o e; have := HWS.out; omega⟩) (fun b o e => ⟨fun y => (by have h1 := hap1 b o e; have h2 := (hvlt _ y).2; omega), by have := hap1 b o e; have := HWS.out; omega⟩)).2 (by omega) HB.out.size ?_; intro v2 w10 h1 h2 h3)
    have hvl := HO.out
    have ne8 : some g8 ≠ _ := fun y => (by have h4 := (hvlt g8 y.symm).2; omega)
    have ne9 : some g9 ≠ _ := fun y => (by have h4 := (hvlt g9 y.symm).2; omega)
    have HY8 := hide ((h3.block g8 HX8.out.lt ne8).trans HX8.out)
    have HY9 := hide ((h3.block g9 HX9.out.lt ne9).trans HX9.out)
    have HO2 := hide h1
    replace HB := hide (HB.out.trans h2)
    have hB9 := HB.out.size
    obtain ⟨c0, c1, c2, -, -, -, hlc⟩ := (show Box w10 g8 100 #[.slice D0 8 d0, .int .i64 p0, .int .i64 q0] from HY8.out).cellsT
    obtain ⟨e0, e1, e2, -, -, -, hle⟩ := (show Box w10 g9 100 #[.slice D1 8 d1, .int .i64 p1, .int .i64 qq] from HY9.out).cellsT
    clear h1 h2 h3 hvl ne8 ne9 x0 x1 x2 hlx y0 y1 y2 hly HX8 HX9 HO HI0 HI1 HBX hap0 hap1 hvlt
    go_wp2_with fail
    refine (HLA.out _).mono ?_
    rintro e_ w11 ⟨rfl, hb⟩
    have HO3 := hide (HO2.out.below hb)
    replace HB := hide (HB.out.trans (hb.mono HB.out.size))
    clear c0 c1 c2 hlc e0 e1 e2 hle hb HLA HO2
    have HO4 := hide (HO3.out.congr (F' := rfF s) (P' := rfP s) (Q' := rfQ s) fun i hi => by
        unfold catA
        by_cases e : i < 2 * r
        · rw [if_pos e, if_pos e, if_pos e]; exact ⟨rfl, rfl, rfl⟩
        · rw [if_neg e, if_neg e, if_neg e]
          have : i = 2 * r ∨ i = 2 * r + 1 := by omega
          rcases this with rfl | rfl
          · rw [Nat.sub_self]; exact ⟨HF0.out.1.symm, HF0.out.2.1.symm, HF0.out.2.2.symm⟩
          · rw [Nat.add_sub_cancel_left]; exact ⟨HF1.out.1.symm, HF1.out.2.1.symm, HF1.out.2.2.symm⟩)
    clear HO3
    by_cases hc : 0 < compI (p1 - p0) (q0 - qq)
    · have hst := hide (HST1.out.trans (if_pos hc))
      clear HST1
      go_wp2_with fail
      go_roundw
      case rel => exact ⟨r + 1, by omega, by rw [hst.out]; try go_num, by rw [HREL.out]; try go_num, by rw [HREA.out]; try go_num, hide (by rw [show 2 * (r + 1) = 2 * r + 2 by omega]; exact HO4.out), HB⟩
      case measure => simp [Go.RowKit.intOf]; omega
    · have hst := hide (HST1.out.trans (if_neg hc))
      have hc' : ¬ 0 < compI (p1 - p0) (q0 - qq) := hc
      clear HST1
      go_wp2_with fail
      go_roundw
      case rel => exact ⟨r + 1, by omega, by rw [hst.out]; try go_num, by rw [HREL.out]; try go_num, by rw [HREA.out]; try go_num, hide (by rw [show 2 * (r + 1) = 2 * r + 2 by omega]; exact HO4.out), HB⟩
      case measure => simp [Go.RowKit.intOf]; omega
end Go.Proofs.Ytejhakkfgfahaaa
