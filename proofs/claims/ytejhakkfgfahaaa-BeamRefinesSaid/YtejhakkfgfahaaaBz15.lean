/- Lemmas: Bf, Bh, Be. -/
import Derived.StillTailTactics
import Derived.Test.YtejhakkfgfahaaaBz03
import Derived.Test.YtejhakkfgfahaaaBz14
set_option linter.unusedVariables false
set_option linter.unusedSimpArgs false
/- Numbers of any size: WideMul. -/
namespace Go.Proofs.Ytejhakkfgfahaaa
open Go.RowKit
theorem ownInts_zeros (w : World) (base g f : Nat) (hb : base ≤ w.heap.size) (hg : g = w.heap.size) (hf : f ≤ maxLen) : OwnInts (w.alloc (.cells (madeCells #[.int .i64 0] f) 3)) base (.slice (some ⟨g, 0, none⟩) f f) f (fun _ => 0) :=
  hg ▸ ⟨by rw [intCells_len, Nat.mul_one], .inr ⟨w.heap.size, f, _, rfl, hb, heap_alloc_new w _, Nat.le_refl _, hf, by simp [madeCells], by
    apply List.ext_getElem?
    intro j
    rw [intCells_get, Nat.mul_one]
    by_cases hj : j < f
    · rw [if_pos hj]; simp [madeCells, hj, Nat.mod_one]
    · rw [if_neg hj]; simp [madeCells, hj]⟩⟩
theorem ownInts_ints {w : World} {base n c : Nat} {A : Option Addr} {F : Nat → Int} (h : OwnInts w base (.slice A n c) n F) : IntsAt w base A n F := by
  obtain ⟨A', c', e, -, hI⟩ := h.form
  injection e with e1
  subst e1
  exact hI
theorem mul_end {F : Nat → Int} {q N i : Nat} {c V vb a : Int} (hN : q < N) (h0 : F q = 0) (h : valD F N + c * BB ^ q = V * vb + a * vb * BB ^ i) : valD (setF F q c) N = (V + a * BB ^ i) * vb := by
  rw [valD_set N hN, h0, Int.sub_zero, h, Int.add_mul, Int.mul_assoc a, Int.mul_assoc a, Int.mul_comm vb]
set_option maxHeartbeats 8000000 in
set_option maxRecDepth 100000 in
theorem wideMul_any (sa sb : Int) (A B : Option Addr) (n c m d : Nat) (D E : Nat → Int) (w : World) (hn : n ≤ 20) (hm : m ≤ 20) (hI : IntsAt w 0 A n D) (hJ : IntsAt w 0 B m E) (hD : Dig n D) (hE : Dig m E)
    (hs : sa * sb = 1 ∨ sa * sb = -1 ∨ (sa * sb = 0 ∧ valD D n * valD E m = 0)) :
    Calls Try.prog 61 #[.agg #[.int .i64 sa, .slice A n c], .agg #[.int .i64 sb, .slice B m d]] w fun e w' => ∃ V, e = .returned V ∧ WideAt w' w.heap.size V (n + m + 1) (sa * sb * (valD D n * valD E m)) ∧ Below w.heap.size w w' := by
  obtain ⟨σ, hσ⟩ : ∃ σ, σ = sa * sb := ⟨_, rfl⟩
  rw [← hσ] at hs ⊢
  have qs : IntKind.i64.wrap (sa * sb) = σ := by rw [← hσ]; exact IntWalk.i64_in _ (by omega)
  have q0 : IntKind.i64.wrap ((n : Int) + (m : Int)) = (n : Int) + (m : Int) := IntWalk.i64_in _ (by omega)
  obtain ⟨i0, hi, hz0, hz1, hz2⟩ := info_parts intInfo
  have hmk := fun W => run_make_row (P := Try.prog) 22 3 i0 (.int .i64 0) Try.underlying22 hi hz0 hz1 rfl .i64 .i64 (n + m + 1) (by rw [hz2]; omega) (by omega) W
  have eN : ((n + m + 1 : Nat) : Int) = (n : Int) + (m : Int) + 1 := by omega
  simp only [eN] at hmk
  have HI := hide hI
  have HJ := hide hJ
  have HD := hide hD
  have HE := hide hE
  have HS := hide hs
  have HQS := hide qs
  have HWO := hide (fun (F : Nat → Int) (R : Option Addr) (r : Nat) (W : World) (h : IntsAt W 0 R (n + m + 1) F) (hr : n + m + 1 ≤ r) => wideOf_any σ R (n + m + 1) r F W (by omega) hr h)
  clear hI hJ hD hE hi hz0 hz1 hz2 hs hσ qs eN
  go_enter Try.func61, Try.ntmps61
  go_upto_region 1 with fail
  obtain ⟨W, hW⟩ : ∃ q : World, q = ((w.alloc (.cells #[.int .i64 sa, .slice A n c] 93)).alloc (.cells #[.int .i64 sb, .slice B m d] 93)).alloc (.cells #[.int .i64 0, .slice none 0 0] 93) := ⟨_, rfl⟩
  rw [← hW]
  have ba : Box W w.heap.size 93 #[.int .i64 sa, .slice A n c] := by rw [hW]; exact ((Box.made rfl).alloc _).alloc _
  have bb : Box W (w.heap.size + 1) 93 #[.int .i64 sb, .slice B m d] := by rw [hW]; exact (Box.made (by simp)).alloc _
  have bc : Box W (w.heap.size + 1 + 1) 93 #[.int .i64 0, .slice none 0 0] := by rw [hW]; exact Box.made (by simp)
  have hBW : Below w.heap.size w W := by rw [hW]; (repeat (first | (with_reducible exact Below.refl _ _) | (with_reducible refine Go.below_drewN ?_ _) | (with_reducible refine Below.drew ?_) | (with_reducible refine Below.alloc ?_ (by first | exact Nat.le_refl _ | (simp; done) | (simp; omega) | omega) _) | (with_reducible refine Below.setCell ?_ (by first | exact Nat.le_refl _ | (simp; done) | (simp; omega) | omega) _)))
  clear hW
  have hc2 := bc.lt
  have x1 := ba.at_ 1
  have y1 := bb.at_ 1
  simp only [List.getElem?_toArray] at x1 y1
  have hmade := ownInts_zeros W W.heap.size W.heap.size (n + m + 1) (Nat.le_refl _) rfl (by unfold maxLen; omega)
  go_wp2_with fail
  clear hmk q0 x1 y1
  obtain ⟨W1, hW1⟩ : ∃ q : World, q = W.alloc (.cells (madeCells #[.int .i64 0] (n + m + 1)) 3) := ⟨_, rfl⟩
  rw [← hW1] at hmade ⊢
  replace ba : Box W1 w.heap.size 93 #[.int .i64 sa, .slice A n c] := by rw [hW1]; exact ba.alloc _
  replace bb : Box W1 (w.heap.size + 1) 93 #[.int .i64 sb, .slice B m d] := by rw [hW1]; exact bb.alloc _
  replace bc : Box W1 (w.heap.size + 1 + 1) 93 #[.int .i64 0, .slice none 0 0] := by rw [hW1]; exact bc.alloc _
  have hB1 : Below w.heap.size w W1 := by rw [hW1]; exact hBW.alloc hBW.size _
  have hg2 : w.heap.size + 2 < W.heap.size := by omega
  clear hW1 hBW hc2
  go_loopw [6, 7, 8, 9] (fun v6 v7 v8 v9 wr => ∃ (i : Nat) (F : Nat → Int), i ≤ n ∧ v6 = .int .i64 (i : Int) ∧ OwnInts wr W.heap.size (.slice (some ⟨W.heap.size, 0, none⟩) (n + m + 1) (n + m + 1)) (n + m + 1) F ∧ Hid (Dig (n + m + 1) F) ∧ Hid (∀ j, i + m ≤ j → j < n + m + 1 → F j = 0) ∧ Hid (valD F (n + m + 1) = valD D i * valD E m) ∧ Only W.heap.size W1 wr) (fun v6 _ _ _ _ => n - (Go.RowKit.intOf v6).toNat)
  case atStart => exact ⟨0, fun _ => 0, Nat.zero_le _, rfl, hmade, hide fun j _ => ⟨Int.le_refl _, (by decide : (0 : Int) < BB)⟩, hide fun j _ _ => rfl, hide (by rw [valD_zero]; exact (Int.zero_mul _).symm), Only.refl _ _⟩
  case round =>
    clear hmade
    obtain ⟨i, F, hi, rfl, hown, HDF, HZF, HVF, ho⟩ := hrel
    obtain ⟨wA, rfl⟩ : ∃ x : World, x = wr := ⟨_, rfl⟩
    have x1 := (ho.box ba (by omega)).at_ 1
    simp only [List.getElem?_toArray] at x1
    by_cases hlt : i < n
    · have hltz : (i : Int) < (n : Int) := by omega
      go_wp2_with fail
      clear x1
      go_loopw [7, 8, 9] (fun v7 v8 v9 wq => ∃ (k : Nat) (cv : Int) (G : Nat → Int), k ≤ m ∧ v7 = .int .i64 cv ∧ v8 = .int .i64 (k : Int) ∧ 0 ≤ cv ∧ cv < BB ∧ OwnInts wq W.heap.size (.slice (some ⟨W.heap.size, 0, none⟩) (n + m + 1) (n + m + 1)) (n + m + 1) G ∧ Hid (Dig (n + m + 1) G) ∧ Hid (∀ j, i + m ≤ j → j < n + m + 1 → G j = 0) ∧ Hid (valD G (n + m + 1) + cv * BB ^ (i + k) = valD D i * valD E m + D i * valD E k * BB ^ i) ∧ Only W.heap.size W1 wq) (fun _ v8 _ _ => m - (Go.RowKit.intOf v8).toNat)
      case atStart => exact ⟨0, 0, F, Nat.zero_le _, rfl, rfl, Int.le_refl _, by decide, hown, HDF, HZF, hide (by rw [HVF.out, Int.zero_mul, show valD E 0 = 0 from rfl, Int.mul_zero, Int.zero_mul]), ho⟩
      case round =>
        clear hown HDF HZF HVF ho F
        obtain ⟨k, cv, G, hk, rfl, rfl, hc0, hc1, hown, HDG, HZG, HVG, ho⟩ := hrel
        obtain ⟨wB, rfl⟩ : ∃ x : World, x = wr := ⟨_, rfl⟩
        have hBq := hB1.trans (ho.to_below (B := w.heap.size) (by omega) hB1.size)
        have x1 := (ho.box ba (by omega)).at_ 1
        have y1 := (ho.box bb (by omega)).at_ 1
        simp only [List.getElem?_toArray] at x1 y1
        by_cases hlk : k < m
        · have hkz : (k : Int) < (m : Int) := by omega
          have htN : i + k < n + m + 1 := by omega
          have htz : (i : Int) + (k : Int) < (n : Int) + (m : Int) + 1 := by omega
          have hc := hown.cellAt htN
          have hf := hown.frozen (i + k)
          obtain ⟨bA, oA, rfl, -, -, xa⟩ := (HI.out.below hBq) i hlt
          obtain ⟨bB, oB, rfl, -, -, xb⟩ := (HJ.out.below hBq) k hlk
          obtain ⟨a0, a1⟩ := HD.out i hlt
          obtain ⟨b0, b1⟩ := HE.out k hlk
          obtain ⟨f0, f1⟩ := HDG.out (i + k) htN
          obtain ⟨s, hs⟩ : ∃ s, s = G (i + k) + D i * E k + cv := ⟨_, rfl⟩
          have HN := hide (mul_step (F := G) (N := n + m + 1) (k := k) (i := i) (V0 := valD D i * valD E m) (vb := valD E k) rfl htN hs HVG.out)
          obtain ⟨a, ha⟩ : ∃ a, a = D i := ⟨_, rfl⟩
          obtain ⟨b, hb⟩ : ∃ b, b = E k := ⟨_, rfl⟩
          rw [← ha] at xa a0 a1 hs
          rw [← hb] at xb b0 b1 hs
          obtain ⟨f, hff⟩ : ∃ f, f = G (i + k) := ⟨_, rfl⟩
          rw [← hff] at hc hs f0 f1
          obtain ⟨p0, p1, s0, s1, r0, r1, u0, u1⟩ := mul_bound hs f0 f1 a0 a1 b0 b1 hc0 hc1
          obtain ⟨p, hp⟩ : ∃ p, p = a * b := ⟨_, rfl⟩
          rw [← hp] at hs p0 p1
          have e1 : (f + p + cv).tmod 1000000000 = s % BB := by rw [← hs]; exact Int.tmod_eq_emod_of_nonneg s0
          have e2 : (f + p + cv).tdiv 1000000000 = s / BB := by rw [← hs]; exact Int.tdiv_eq_ediv_of_nonneg s0
          unfold BB at f1 hc1
          have q2 : IntKind.i64.wrap (a * b) = p := by rw [← hp]; exact IntWalk.i64_in _ (by omega)
          have q3 : IntKind.i64.wrap (f + p) = f + p := IntWalk.i64_in _ (by omega)
          have q4 : IntKind.i64.wrap (f + p + cv) = f + p + cv := IntWalk.i64_in _ (by omega)
          have q5 : IntKind.i64.wrap (s / BB) = s / BB := IntWalk.i64_in _ (by have := u1; unfold BB at this ⊢; unfold BB at u0; omega)
          generalize s % BB = rr at *
          generalize s / BB = uu at *
          have HR := hide (And.intro r0 (And.intro r1 (And.intro u0 u1)))
          have HO := hide hown
          have HOO := hide ho
          have HHH := hide hBq
          clear hp ha hb f0 f1 a0 a1 b0 b1 hff hs p0 p1 s0 s1 r0 r1 u0 u1 hown ho hBq HVG hc0 hc1
          go_wp2_with fail
          go_quiet (fail)
          go_wp2_with fail
          go_roundw
          case rel =>
            exact ⟨k + 1, uu, setF G (i + k) rr, by omega, rfl, by go_num, HR.out.2.2.1, HR.out.2.2.2, (HO.out.drewN _).set_ (i + k) rr, hide (fun j hj => by
              unfold setF
              split
              · exact ⟨HR.out.1, HR.out.2.1⟩
              · exact HDG.out j hj), hide (fun j h1 h2 => (if_neg (by omega)).trans (HZG.out j h1 h2)), hide HN.out, (HOO.out.drewN _).set_ (i + k) _⟩
          case measure => simp [Go.RowKit.intOf]; omega
        · obtain rfl : k = m := by omega
          have htN : i + k < n + k + 1 := by omega
          have htz : (i : Int) + (k : Int) < (n : Int) + (k : Int) + 1 := by omega
          have hkz : ¬ ((k : Int) < (k : Int)) := by omega
          have hc := hown.cellAt htN
          rw [HZG.out (i + k) (Nat.le_refl _) htN] at hc
          have hf := hown.frozen (i + k)
          have HN := hide (mul_end htN (HZG.out (i + k) (Nat.le_refl _) htN) HVG.out)
          have HC := hide (And.intro hc0 hc1)
          have HO := hide hown
          have HOO := hide ho
          unfold BB at hc1
          have h0z : 0 ≤ (i : Int) + (k : Int) := by omega
          have hnat : ((i : Int) + (k : Int)).toNat = i + k := by omega
          have q0 : IntKind.i64.wrap ((i : Int) + (k : Int)) = (i : Int) + (k : Int) := IntWalk.i64_in _ (by omega)
          have q1 : IntKind.i64.wrap cv = cv := IntWalk.i64_in _ (by omega)
          have q2 : IntKind.i64.wrap (0 + cv) = cv := by rw [Int.zero_add]; exact q1
          clear hown ho hBq HVG hlk hc0 hc1
          go_wp2_with fail
          go_still_tail 17, (by kernel_rfl)
          repeat still_step
          try refine wpStill_nil ?_
          go_wp2_with fail
          go_roundw
          case rel =>
            exact ⟨i + 1, setF G (i + k) cv, by omega, by go_num, (HO.out.drewN _).set_ (i + k) cv, hide (fun j hj => by
              unfold setF
              split
              · exact HC.out
              · exact HDG.out j hj), hide (fun j h1 h2 => (if_neg (by omega)).trans (HZG.out j (by omega) h2)), hide HN.out, (HOO.out.drewN _).set_ (i + k) _⟩
          case measure => simp [Go.RowKit.intOf]; omega
    · obtain rfl : i = n := by omega
      have hltz : ¬ ((i : Int) < (i : Int)) := by omega
      have x0 := (ho.box ba (by omega)).at_ 0
      have y0 := (ho.box bb (by omega)).at_ 0
      simp only [List.getElem?_toArray] at x0 y0
      have bz := ho.box bc (by omega)
      have HT := hide (HWO.out F (some ⟨W.heap.size, 0, none⟩) (i + m + 1) wA ((ownInts_ints hown).weak (Nat.zero_le _)) (Nat.le_refl _))
      have hBA := hB1.trans (ho.to_below (B := w.heap.size) (by omega) hB1.size)
      have HI2 := hide (ownInts_ints hown)
      have hsz : w.heap.size + 1 + 1 < W.heap.size := by omega
      have hsz2 : w.heap.size ≤ W.heap.size := by omega
      have qs := HQS.out
      clear hown ho hlt
      go_wp2_with fail
      clear qs
      refine HT.out.mono ?_
      rintro e w2 ⟨rfl, hb2⟩
      have b2 := bz.below hb2
      have f0 := b2.free 0
      have f1 := b2.free 1
      clear x0 y0 x1
      have y0 := b2.at_ 0
      have y1 := b2.at_ 1
      simp only [List.getElem?_toArray] at y0 y1
      have hlt2 := b2.lt
      have HC := hide ((b2.set_ 0 (.int .i64 (sgnT σ (trimN F (i + m + 1))))).set_ 1 (.slice (some ⟨W.heap.size, 0, none⟩) (trimN F (i + m + 1)) (i + m + 1)))
      have hB2 := hBA.trans (hb2.mono hBA.size)
      have HL := hide ((hB2.setCell (p := ⟨w.heap.size + 1 + 1, 0, none⟩) (show w.heap.size ≤ w.heap.size + 1 + 1 by omega) (.int .i64 (sgnT σ (trimN F (i + m + 1))))).setCell (p := ⟨w.heap.size + 1 + 1, 1, none⟩) (show w.heap.size ≤ w.heap.size + 1 + 1 by omega) (.slice (some ⟨W.heap.size, 0, none⟩) (trimN F (i + m + 1)) (i + m + 1)))
      have hs3 : σ = 1 ∨ σ = -1 ∨ (σ = 0 ∧ valD F (i + m + 1) = 0) := by rw [HVF.out]; exact HS.out
      have hwi := WideAt.of (m := i + m + 1) (s := σ) ((((HI2.out.below hb2).other (p := ⟨w.heap.size + 1 + 1, 0, none⟩) hsz (.int .i64 (sgnT σ (trimN F (i + m + 1))))).other (p := ⟨w.heap.size + 1 + 1, 1, none⟩) hsz (.slice (some ⟨W.heap.size, 0, none⟩) (trimN F (i + m + 1)) (i + m + 1))).weak hsz2) HDF.out (Nat.le_refl _) (Nat.le_refl _) hs3
      rw [HVF.out] at hwi
      have HWI := hide hwi
      clear hwi hB2 hb2 HI2 hBA hs3 HVF
      go_wp2_with fail
      clear y0 y1
      have y0 := HC.out.at_ 0
      have y1 := HC.out.at_ 1
      simp only [Array.getElem?_setIfInBounds, List.setIfInBounds_toArray, List.getElem?_toArray] at y0 y1
      refine bodyPost_ret (v := .agg #[.int .i64 (sgnT σ (trimN F (i + m + 1))), .slice (some ⟨W.heap.size, 0, none⟩) (trimN F (i + m + 1)) (i + m + 1)]) ?_ rfl ⟨_, rfl, HWI.out, HL.out⟩
      simp [results, Try.results61, go_sem, y0, y1]
end Go.Proofs.Ytejhakkfgfahaaa
/- Numbers of any size: WideSub and WideCmp of two above 0. -/
namespace Go.Proofs.Ytejhakkfgfahaaa
open Go.RowKit
set_option maxHeartbeats 4000000 in
set_option maxRecDepth 100000 in
theorem wideSub_pos (A B : Option Addr) (n c m d : Nat) (D E : Nat → Int) (w : World) (hn : n ≤ 1000) (hm : m ≤ 1000) (hI : IntsAt w 0 A n D) (hJ : IntsAt w 0 B m E) (hD : Dig n D) (hE : Dig m E) (hDn : Norm n D) (hEn : Norm m E) :
    Calls Try.prog 80 #[.agg #[.int .i64 1, .slice A n c], .agg #[.int .i64 1, .slice B m d]] w fun e w' => ∃ R r s, e = .returned (.agg #[.int .i64 (cmpI (valD D n) (valD E m)), .slice R r s]) ∧ Below w.heap.size w w' := by
  have HI := hide hI
  have HJ := hide hJ
  have HN := hide (fun W => wideNeg_any 1 B m d W (by decide))
  have HW := hide (fun W (h1 : IntsAt W 0 A n D) (h2 : IntsAt W 0 B m E) => wideAdd_opp A B n c m d D E W hn hm h1 h2 hD hE hDn hEn)
  clear hI hJ hD hE hDn hEn
  generalize valD D n = x at *
  generalize valD E m = y at *
  generalize cmpI x y = z at *
  go_enter Try.func80, Try.ntmps80
  go_upto_region 1 with fail
  obtain ⟨W, hW⟩ : ∃ q : World, q = ((w.alloc (.cells #[.int .i64 1, .slice A n c] 93)).alloc (.cells #[.int .i64 1, .slice B m d] 93)).alloc (.cells #[.int .i64 0, .slice none 0 0] 93) := ⟨_, rfl⟩
  rw [← hW]
  have hS1 : Box W w.heap.size 93 #[.int .i64 1, .slice A n c] ∧ Box W (w.heap.size + 1) 93 #[.int .i64 1, .slice B m d] := ⟨by rw [hW]; exact ((Box.made rfl).alloc _).alloc _, by rw [hW]; exact (Box.made (by simp)).alloc _⟩
  have bc : Box W (w.heap.size + 1 + 1) 93 #[.int .i64 0, .slice none 0 0] := by rw [hW]; exact Box.made (by simp)
  have hBW : Below w.heap.size w W := by rw [hW]; (repeat (first | (with_reducible exact Below.refl _ _) | (with_reducible refine Go.below_drewN ?_ _) | (with_reducible refine Below.drew ?_) | (with_reducible refine Below.alloc ?_ (by first | exact Nat.le_refl _ | (simp; done) | (simp; omega) | omega) _) | (with_reducible refine Below.setCell ?_ (by first | exact Nat.le_refl _ | (simp; done) | (simp; omega) | omega) _)))
  clear hW
  have HBC := hide bc
  have HB1 := hide hBW
  have HI1 := hide (HI.out.below hBW)
  have HJ1 := hide (HJ.out.below hBW)
  clear bc hBW HI HJ
  refine wp_region_held_drew (S := fun w' => Box w' w.heap.size 93 #[.int .i64 1, .slice A n c] ∧ Box w' (w.heap.size + 1) 93 #[.int .i64 1, .slice B m d]) (by kernel_rfl) hS1 (fun hHeld => ?_)
  refine wpAnyH_take (i := 0) (oi := ⟨some 5, _, _, _, _, _⟩) (v := ?_) rfl (by kernel_rfl) (by kernel_rfl) (by kernel_rfl) (fun _ _ _ h => h) (Or.inl ⟨by rfl, ?_⟩) (by assumption) ?_
  rotate_left
  · (intro w' hSw; (try dsimp only at hSw); have u0 := hSw.1.at_ 0; have u1 := hSw.1.at_ 1; have v0 := hSw.2.at_ 0; have v1 := hSw.2.at_ 1; simp only [List.getElem?_toArray] at u0 u1 v0 v1; go_simp <;> (with_reducible rfl))
  try simp only [Act.put, List.setIfInBounds_toArray, List.set_cons_zero, List.set_cons_succ]
  refine wpAnyH_take (i := 1) (oi := ⟨some 6, _, _, _, _, _⟩) (v := ?_) rfl (by kernel_rfl) (by kernel_rfl) (by kernel_rfl) (fun _ _ _ h => h) (Or.inl ⟨by rfl, ?_⟩) (by assumption) ?_
  rotate_left
  · (intro w' hSw; (try dsimp only at hSw); have u0 := hSw.1.at_ 0; have u1 := hSw.1.at_ 1; have v0 := hSw.2.at_ 0; have v1 := hSw.2.at_ 1; simp only [List.getElem?_toArray] at u0 u1 v0 v1; go_simp <;> (with_reducible rfl))
  try simp only [Act.put, List.setIfInBounds_toArray, List.set_cons_zero, List.set_cons_succ]
  refine wpAnyH_ready (rs := [2]) (by kernel_rfl) (by simp) ?_
  refine AllReadyH.cons (o := ⟨some 7, _, _, _, _, _⟩) rfl (fun K' hK => ?_) AllReadyH.nil
  go_simp
  go_at_call 88
  refine (HN.out _).mono ?_
  rintro e w2 ⟨rfl, hb2⟩
  have hc2 : Below W.heap.size W w2 := by first | exact hb2 | exact below_of_drew hb2 | exact below_of_drew (below_of_drew hb2)
  have hS2 : Box w2 w.heap.size 93 #[.int .i64 1, .slice A n c] ∧ Box w2 (w.heap.size + 1) 93 #[.int .i64 1, .slice B m d] := ⟨hS1.1.below hc2, hS1.2.below hc2⟩
  have HBC2 := hide (HBC.out.below hc2)
  have HB2 := hide (HB1.out.trans (hc2.mono HB1.out.size))
  have HI2 := hide (HI1.out.below hc2)
  have HJ2 := hide (HJ1.out.below hc2)
  clear hb2 hc2 hS1 HBC HB1 HI1 HJ1
  go_wp2_with fail
  refine hK.out _ _ hS2 (fun hHeld => ?_)
  clear hK K'
  try simp only [Act.put, List.setIfInBounds_toArray, List.set_cons_zero, List.set_cons_succ]
  refine wpAnyH_ready (rs := [3]) (by kernel_rfl) (by simp) ?_
  refine AllReadyH.cons (o := ⟨some 8, _, _, _, _, _⟩) rfl (fun K' hK => ?_) AllReadyH.nil
  go_simp
  go_at_call 87
  refine (HW.out _ (by exact HI2.out) (by exact HJ2.out)).mono ?_
  rintro e w3 ⟨R, r, s, rfl, hb2⟩
  have hc3 : Below w2.heap.size w2 w3 := by first | exact hb2 | exact below_of_drew hb2 | exact below_of_drew (below_of_drew hb2)
  have hS3 : Box w3 w.heap.size 93 #[.int .i64 1, .slice A n c] ∧ Box w3 (w.heap.size + 1) 93 #[.int .i64 1, .slice B m d] := ⟨hS2.1.below hc3, hS2.2.below hc3⟩
  have bc3 := HBC2.out.below hc3
  have hB3 := HB2.out.trans (hc3.mono HB2.out.size)
  clear hb2 hc3 hS2 HBC2 HB2 HI2 HJ2
  go_wp2_with fail
  refine hK.out _ _ hS3 (fun hHeld => ?_)
  clear hK K'
  try simp only [Act.put, List.setIfInBounds_toArray, List.set_cons_zero, List.set_cons_succ]
  have f0 := bc3.free 0
  have f1 := bc3.free 1
  have z0 := bc3.at_ 0
  have z1 := bc3.at_ 1
  simp only [List.getElem?_toArray] at z0 z1
  have hlt3 := bc3.lt
  have HC3 := hide ((bc3.set_ 0 (.int .i64 z)).set_ 1 (.slice R r s))
  have HL := hide ((hB3.setCell (p := ⟨w.heap.size + 1 + 1, 0, none⟩) (show w.heap.size ≤ w.heap.size + 1 + 1 by omega) (.int .i64 z)).setCell (p := ⟨w.heap.size + 1 + 1, 1, none⟩) (show w.heap.size ≤ w.heap.size + 1 + 1 by omega) (.slice R r s))
  have HSS := hide (show Box ((w3.setCell ⟨w.heap.size + 1 + 1, 0, none⟩ (.int .i64 z)).setCell ⟨w.heap.size + 1 + 1, 1, none⟩ (.slice R r s)) w.heap.size 93 #[.int .i64 1, .slice A n c] ∧ Box ((w3.setCell ⟨w.heap.size + 1 + 1, 0, none⟩ (.int .i64 z)).setCell ⟨w.heap.size + 1 + 1, 1, none⟩ (.slice R r s)) (w.heap.size + 1) 93 #[.int .i64 1, .slice B m d] from ⟨(hS3.1.other (by simp; omega) _).other (by simp; omega) _, (hS3.2.other (by simp) _).other (by simp) _⟩)
  clear hS3 bc3 hB3
  refine wpAnyH_ready (rs := [4]) (by kernel_rfl) (by simp) ?_
  refine AllReadyH.cons (o := ⟨none, _, _, _, _, _⟩) rfl (fun K' hK => ?_) AllReadyH.nil
  go_simp
  refine hK.out _ _ HSS.out (fun hHeld => ?_)
  clear hK K' f0 f1 z0 z1 hlt3
  try simp only [Act.put, List.setIfInBounds_toArray, List.set_cons_zero, List.set_cons_succ]
  refine wpAnyH_done (by kernel_rfl) ?_ _
  go_wp2_with fail
  have z0 := HC3.out.at_ 0
  have z1 := HC3.out.at_ 1
  simp only [Array.getElem?_setIfInBounds, List.setIfInBounds_toArray, List.getElem?_toArray] at z0 z1
  refine bodyPost_ret (v := .agg #[.int .i64 z, .slice R r s]) ?_ rfl ⟨_, _, _, rfl, by have h := HL.out; exact ⟨h.os, h.tape, h.output, h.size, h.block⟩⟩
  simp [results, Try.results80, go_sem, z0, z1]
set_option maxHeartbeats 1000000 in
set_option maxRecDepth 100000 in
theorem wideCmp_any (A B : Option Addr) (n c m d : Nat) (D E : Nat → Int) (w : World) (hn : n ≤ 1000) (hm : m ≤ 1000) (hI : IntsAt w 0 A n D) (hJ : IntsAt w 0 B m E) (hD : Dig n D) (hE : Dig m E) (hDn : Norm n D) (hEn : Norm m E) :
    Calls Try.prog 63 #[.agg #[.int .i64 1, .slice A n c], .agg #[.int .i64 1, .slice B m d]] w fun e w' => e = .returned (.int .i64 (cmpI (valD D n) (valD E m))) ∧ Below w.heap.size w w' := by
  have HI := hide hI
  have HJ := hide hJ
  have HW := hide (fun W (h1 : IntsAt W 0 A n D) (h2 : IntsAt W 0 B m E) => wideSub_pos A B n c m d D E W hn hm h1 h2 hD hE hDn hEn)
  clear hI hJ hD hE hDn hEn
  generalize valD D n = x at *
  generalize valD E m = y at *
  generalize cmpI x y = z at *
  go_enter Try.func63, Try.ntmps63
  go_upto_region 1 with fail
  obtain ⟨W, hW⟩ : ∃ q : World, q = (w.alloc (.cells #[.int .i64 1, .slice A n c] 93)).alloc (.cells #[.int .i64 1, .slice B m d] 93) := ⟨_, rfl⟩
  rw [← hW]
  have ba : Box W w.heap.size 93 #[.int .i64 1, .slice A n c] := by rw [hW]; exact (Box.made rfl).alloc _
  have bb : Box W (w.heap.size + 1) 93 #[.int .i64 1, .slice B m d] := by rw [hW]; exact Box.made (by simp)
  have hBW : Below w.heap.size w W := by rw [hW]; (repeat (first | (with_reducible exact Below.refl _ _) | (with_reducible refine Go.below_drewN ?_ _) | (with_reducible refine Below.drew ?_) | (with_reducible refine Below.alloc ?_ (by first | exact Nat.le_refl _ | (simp; done) | (simp; omega) | omega) _) | (with_reducible refine Below.setCell ?_ (by first | exact Nat.le_refl _ | (simp; done) | (simp; omega) | omega) _)))
  clear hW
  have x0 := ba.at_ 0
  have x1 := ba.at_ 1
  have y0 := bb.at_ 0
  have y1 := bb.at_ 1
  simp only [List.getElem?_toArray] at x0 x1 y0 y1
  have HI1 := hide (HI.out.below hBW)
  have HJ1 := hide (HJ.out.below hBW)
  go_wp2_with fail
  refine (HW.out _ HI1.out HJ1.out).mono ?_
  rintro e w3 ⟨R, r, s, rfl, hb2⟩
  have hB := hBW.trans (hb2.mono hBW.size)
  have HB := hide hB
  have hfd : ∀ w : World, (Instr.field 93 (.agg #[.int .i64 z, .slice R r s]) 0).run Try.prog w = .ok (.int .i64 z) w := fun _ => by kernel_rfl
  clear hb2 x0 x1 y0 y1 hB hBW ba bb HI1 HJ1 HI HJ HW
  go_wp2_with fail
  go_ret
  exact ⟨rfl, HB.out⟩
set_option maxRecDepth 100000 in
/-- WideCmp of two numbers above 0. -/
theorem wideCmp_pos (V U : Value) (k l : Nat) (x y : Int) (w : World) (hV : WideAt w 0 V k x) (hU : WideAt w 0 U l y) (hx : 0 < x) (hy : 0 < y) (hk : k ≤ 1000) (hl : l ≤ 1000) :
    Calls Try.prog 63 #[V, U] w fun e w' => e = .returned (.int .i64 (cmpI x y)) ∧ Below w.heap.size w w' := by
  obtain ⟨A, n, c, D, rfl, h1, -, h2, h3, h4, -, rfl⟩ := hV.sign_pos hx
  obtain ⟨B, m, d, E, rfl, g1, -, g2, g3, g4, -, rfl⟩ := hU.sign_pos hy
  exact wideCmp_any A B n c m d D E w (by omega) (by omega) h2 g2 h3 g3 h4 g4
set_option maxRecDepth 100000 in
/-- WideMul of a number by itself, or of two above 0. -/
theorem wideMul_pos (V U : Value) (k l : Nat) (x y : Int) (w : World) (hV : WideAt w 0 V k x) (hU : WideAt w 0 U l y) (hk : k ≤ 20) (hl : l ≤ 20) (hx : 0 < x) (hy : 0 < y) :
    Calls Try.prog 61 #[V, U] w fun e w' => ∃ V', e = .returned V' ∧ WideAt w' w.heap.size V' (k + l + 1) (x * y) ∧ Below w.heap.size w w' := by
  obtain ⟨A, n, c, D, rfl, h1, -, h2, h3, -, -, rfl⟩ := hV.sign_pos hx
  obtain ⟨B, m, d, E, rfl, g1, -, g2, g3, -, -, rfl⟩ := hU.sign_pos hy
  refine (wideMul_any 1 1 A B n c m d D E w (by omega) (by omega) h2 g2 h3 g3 (.inl rfl)).mono ?_
  rintro e w' ⟨V', rfl, hW, hB⟩
  rw [Int.one_mul, Int.one_mul] at hW
  exact ⟨V', rfl, hW.weak (Nat.le_refl _) (by omega), hB⟩
set_option maxRecDepth 100000 in
theorem wideMul_self (V U : Value) (k l : Nat) (x : Int) (w : World) (hV : WideAt w 0 V k x) (hU : WideAt w 0 U l x) (hk : k ≤ 20) (hl : l ≤ 20) (hx : x ≠ 0) :
    Calls Try.prog 61 #[V, U] w fun e w' => ∃ V', e = .returned V' ∧ WideAt w' w.heap.size V' (k + l + 1) (x * x) ∧ Below w.heap.size w w' := by
  rcases Int.lt_or_gt_of_ne hx with h | h
  · obtain ⟨s, A, n, c, D, rfl, h1, -, h2, h3, h4, h5, h6, h7⟩ := hV
    obtain ⟨t, B, m, d, E, rfl, g1, -, g2, g3, g4, g5, g6, g7⟩ := hU
    have p1 := (valD_range n h3).1
    have p2 := (valD_range m g3).1
    have hs : s = -1 := by
      rcases h5 with e | e | e
      · exact e
      · rw [e, Int.zero_mul] at h7; omega
      · rw [e, Int.one_mul] at h7; omega
    have ht : t = -1 := by
      rcases g5 with e | e | e
      · exact e
      · rw [e, Int.zero_mul] at g7; omega
      · rw [e, Int.one_mul] at g7; omega
    subst hs
    subst ht
    refine (wideMul_any (-1) (-1) A B n c m d D E w (by omega) (by omega) h2 g2 h3 g3 (.inl rfl)).mono ?_
    rintro e w' ⟨V', rfl, hW, hB⟩
    have e1 : (-1 : Int) * (-1) * (valD D n * valD E m) = x * x := by
      rw [show valD D n = -x by omega, show valD E m = -x by omega, Int.neg_mul_neg, Int.neg_mul_neg, Int.one_mul, Int.one_mul]
    rw [e1] at hW
    exact ⟨V', rfl, hW.weak (Nat.le_refl _) (by omega), hB⟩
  · exact wideMul_pos V U k l x x w hV hU hk hl h h
end Go.Proofs.Ytejhakkfgfahaaa
/- Numbers of any size: WideOf. -/
namespace Go.Proofs.Ytejhakkfgfahaaa
open Go.RowKit
def digW (x : Nat) (j : Nat) : Int := ((x / 1000000000 ^ j % 1000000000 : Nat) : Int)
theorem digW_dig (n x : Nat) : Dig n (digW x) := fun j _ => by
  have h := Nat.mod_lt (x / 1000000000 ^ j) (show 0 < 1000000000 by decide)
  unfold digW BB
  omega
theorem digW_next (x k : Nat) : x / 1000000000 ^ (k + 1) = x / 1000000000 ^ k / 1000000000 := by
  rw [Nat.pow_succ, Nat.div_div_eq_div_mul]
theorem digW_val (x : Nat) : ∀ k, valD (digW x) k + ((x / 1000000000 ^ k : Nat) : Int) * BB ^ k = (x : Int)
  | 0 => by rw [Nat.pow_zero, Nat.div_one, Int.pow_zero, Int.mul_one]; exact Int.zero_add _
  | k + 1 => by
    have ih := digW_val x k
    show valD (digW x) k + digW x k * BB ^ k + ((x / 1000000000 ^ (k + 1) : Nat) : Int) * BB ^ (k + 1) = (x : Int)
    rw [digW_next, Int.pow_succ, Int.mul_comm (BB ^ k) BB, show digW x k = ((x / 1000000000 ^ k % 1000000000 : Nat) : Int) from rfl]
    generalize x / 1000000000 ^ k = y at *
    have e1 : ((y % 1000000000 : Nat) : Int) * BB ^ k + ((y / 1000000000 : Nat) : Int) * (BB * BB ^ k) = (y : Int) * BB ^ k := by
      rw [← Int.mul_assoc, ← Int.add_mul]
      congr 1
      unfold BB
      omega
    omega
theorem digW_few {x : Nat} (h : x ≤ 9223372036854775807) : x / 1000000000 ^ 3 = 0 := Nat.div_eq_of_lt (by omega)
set_option maxHeartbeats 2000000 in
theorem wideOf1_any (x : Int) (X : Nat) (w : World) (hX : X ≤ 9223372036854775807) (hx : x = (X : Int) ∨ x = -(X : Int)) :
    Calls Try.prog 62 #[.int .i64 x] w fun e w' => ∃ V, e = .returned V ∧ WideAt w' w.heap.size V 3 x ∧ Below w.heap.size w w' := by
  have HWO := hide (fun (s : Int) (A : Option Addr) (n c : Nat) (W : World) (hn : n ≤ 1000) (hc : n ≤ c) (hI : IntsAt W 0 A n (digW X)) => wideOf_any s A n c (digW X) W hn hc hI)
  have H0 := hide (digW_few hX)
  have HV := hide (fun k (hk : X / 1000000000 ^ k = 0) => (show valD (digW X) k = (X : Int) from by have h := digW_val X k; rw [hk] at h; omega))
  by_cases hneg : x < 0
  · have q1 : IntKind.i64.wrap (-x) = (X : Int) := by rw [IntWalk.i64_in _ (by omega)]; omega
    go_enter Try.func62, Try.ntmps62
    go_upto_region 1 with fail
    obtain ⟨W, hW⟩ : ∃ q : World, q = w.alloc (.cells #[.int .i64 0, .slice none 0 0] 93) := ⟨_, rfl⟩
    rw [← hW]
    have b0 : Box W w.heap.size 93 #[.int .i64 0, .slice none 0 0] := by rw [hW]; exact Box.made rfl
    have hB0 : Below w.heap.size w W := by rw [hW]; (repeat (first | (with_reducible exact Below.refl _ _) | (with_reducible refine Go.below_drewN ?_ _) | (with_reducible refine Below.drew ?_) | (with_reducible refine Below.alloc ?_ (by first | exact Nat.le_refl _ | (simp; done) | (simp; omega) | omega) _) | (with_reducible refine Below.setCell ?_ (by first | exact Nat.le_refl _ | (simp; done) | (simp; omega) | omega) _)))
    have hWs : w.heap.size < W.heap.size := b0.lt
    clear hW
    go_wp2_with fail
    go_loopw [0, 4] (fun x v wr => ∃ k y : Nat, k ≤ 3 ∧ y ≤ X ∧ x = .int .i64 (y : Int) ∧ Hid (y = X / 1000000000 ^ k) ∧ OwnInts wr W.heap.size v k (digW X) ∧ Below W.heap.size W wr) (fun x _ _ => (Go.RowKit.intOf x).toNat)
    case atStart => exact ⟨0, X, by decide, Nat.le_refl _, rfl, hide (by rw [Nat.pow_zero, Nat.div_one]), OwnInts.nil_ _ _ _, Below.refl _ _⟩
    case round =>
      obtain ⟨k, y, hk, hyX, rfl, HY, ho, hB⟩ := hrel
      obtain ⟨wA, rfl⟩ : ∃ x : World, x = wr := ⟨_, rfl⟩
      obtain ⟨O, o9, rfl, ho9, hO⟩ := ho.form
      have hBs := hB.size
      by_cases hy : 0 < y
      · have hyz : (y : Int) > 0 := by omega
        have hk3 : k < 3 := by
          rcases Nat.lt_or_ge k 3 with h | h
          · exact h
          · exfalso
            have e : k = 3 := by omega
            have h1 := HY.out
            rw [e, H0.out] at h1
            omega
        have r1 : (y : Int).tmod 1000000000 = ((y % 1000000000 : Nat) : Int) := rfl
        have r2 : (y : Int).tdiv 1000000000 = ((y / 1000000000 : Nat) : Int) := rfl
        have hm := Nat.mod_lt y (show 0 < 1000000000 by decide)
        have hd : y / 1000000000 < y := Nat.div_lt_self hy (by decide)
        have HN := hide (show y / 1000000000 = X / 1000000000 ^ (k + 1) by rw [digW_next, ← HY.out])
        have HZ := hide (show digW X k = ((y % 1000000000 : Nat) : Int) by rw [HY.out]; rfl)
        generalize y % 1000000000 = z at *
        generalize y / 1000000000 = u at *
        have HO := hide ho
        have HB := hide hB
        clear ho hB hO
        go_wp2_with (at_builtin; refine wpList_append_ints _ rfl (.tmp 11) (.tmp 14) rfl W.heap.size 0 (.slice O k o9) k _ rfl (HO.out.alloc _) (some ⟨_, 0, none⟩) 1 1 (fun _ => (z : Int)) rfl (IntsAt.one _ 0 (z : Int) 3 (Nat.zero_le _)) (by omega) (by simp; omega) ?_; intro v' w' h1 hb4)
        go_roundw
        case rel =>
          refine ⟨k + 1, u, by omega, by omega, by go_num, HN, h1.congr fun j hj => ?_, (HB.out.alloc hBs _).trans hb4⟩
          unfold catF
          by_cases e : j < k
          · rw [if_pos e]
          · obtain rfl : j = k := by omega
            rw [if_neg e, HZ.out]
        case measure => simp [Go.RowKit.intOf]; omega
      · obtain rfl : y = 0 := by omega
        have hyz : ¬ (((0 : Nat) : Int) > 0) := by omega
        have b1 := b0.below hB
        have hlt := b1.lt
        have HT := hide (HWO.out (-1) O k o9 wA (by omega) ho9 (hO.weak (Nat.zero_le _)))
        have HVk := hide (HV.out k HY.out.symm)
        have hBA : Below w.heap.size w wA := hB0.trans (hB.mono (Nat.le_of_lt hWs))
        have HI := hide hO
        clear hy HY ho hO hB b0 hB0
        go_wp2_with fail
        refine HT.out.mono ?_
        rintro e w2 ⟨rfl, hb2⟩
        have b2 := b1.below hb2
        have f0 := b2.free 0
        have f1 := b2.free 1
        have y0 := b2.at_ 0
        have y1 := b2.at_ 1
        simp only [List.getElem?_toArray] at y0 y1
        have hlt2 := b2.lt
        have HC := hide ((b2.set_ 0 (.int .i64 (sgnT (-1) (trimN (digW X) k)))).set_ 1 (.slice O (trimN (digW X) k) o9))
        have hB2 := hBA.trans (hb2.mono hBA.size)
        have HL := hide ((hB2.setCell (p := ⟨w.heap.size, 0, none⟩) (Nat.le_refl _) (.int .i64 (sgnT (-1) (trimN (digW X) k)))).setCell (p := ⟨w.heap.size, 1, none⟩) (Nat.le_refl _) (.slice O (trimN (digW X) k) o9))
        have HWI := hide (show WideAt _ w.heap.size _ 3 x from (show (-1) * valD (digW X) k = x by rw [HVk.out]; omega) ▸ WideAt.of (m := 3) (s := -1) ((((HI.out.below hb2).other (p := ⟨w.heap.size, 0, none⟩) hWs (.int .i64 (sgnT (-1) (trimN (digW X) k)))).other (p := ⟨w.heap.size, 1, none⟩) hWs (.slice O (trimN (digW X) k) o9)).weak (Nat.le_of_lt hWs)) (digW_dig k X) ho9 (by omega) (by omega))
        clear HVk hB2 hb2 HI hBA
        go_wp2_with fail
        clear y0 y1
        have y0 := HC.out.at_ 0
        have y1 := HC.out.at_ 1
        simp only [Array.getElem?_setIfInBounds, List.setIfInBounds_toArray, List.getElem?_toArray] at y0 y1
        refine bodyPost_ret (v := .agg #[.int .i64 (sgnT (-1) (trimN (digW X) k)), .slice O (trimN (digW X) k) o9]) ?_ rfl ⟨_, rfl, HWI.out, HL.out⟩
        simp [results, Try.results62, go_sem, y0, y1]
  · have hxX : x = (X : Int) := by omega
    have hnneg : ¬ ((X : Int) < 0) := by omega
    clear hneg
    subst hxX
    go_enter Try.func62, Try.ntmps62
    go_upto_region 1 with fail
    obtain ⟨W, hW⟩ : ∃ q : World, q = w.alloc (.cells #[.int .i64 0, .slice none 0 0] 93) := ⟨_, rfl⟩
    rw [← hW]
    have b0 : Box W w.heap.size 93 #[.int .i64 0, .slice none 0 0] := by rw [hW]; exact Box.made rfl
    have hB0 : Below w.heap.size w W := by rw [hW]; (repeat (first | (with_reducible exact Below.refl _ _) | (with_reducible refine Go.below_drewN ?_ _) | (with_reducible refine Below.drew ?_) | (with_reducible refine Below.alloc ?_ (by first | exact Nat.le_refl _ | (simp; done) | (simp; omega) | omega) _) | (with_reducible refine Below.setCell ?_ (by first | exact Nat.le_refl _ | (simp; done) | (simp; omega) | omega) _)))
    have hWs : w.heap.size < W.heap.size := b0.lt
    clear hW
    go_wp2_with fail
    go_loopw [0, 4] (fun x v wr => ∃ k y : Nat, k ≤ 3 ∧ y ≤ X ∧ x = .int .i64 (y : Int) ∧ Hid (y = X / 1000000000 ^ k) ∧ OwnInts wr W.heap.size v k (digW X) ∧ Below W.heap.size W wr) (fun x _ _ => (Go.RowKit.intOf x).toNat)
    case atStart => exact ⟨0, X, by decide, Nat.le_refl _, rfl, hide (by rw [Nat.pow_zero, Nat.div_one]), OwnInts.nil_ _ _ _, Below.refl _ _⟩
    case round =>
      obtain ⟨k, y, hk, hyX, rfl, HY, ho, hB⟩ := hrel
      obtain ⟨wA, rfl⟩ : ∃ x : World, x = wr := ⟨_, rfl⟩
      obtain ⟨O, o9, rfl, ho9, hO⟩ := ho.form
      have hBs := hB.size
      by_cases hy : 0 < y
      · have hyz : (y : Int) > 0 := by omega
        have hk3 : k < 3 := by
          rcases Nat.lt_or_ge k 3 with h | h
          · exact h
          · exfalso
            have e : k = 3 := by omega
            have h1 := HY.out
            rw [e, H0.out] at h1
            omega
        have r1 : (y : Int).tmod 1000000000 = ((y % 1000000000 : Nat) : Int) := rfl
        have r2 : (y : Int).tdiv 1000000000 = ((y / 1000000000 : Nat) : Int) := rfl
        have hm := Nat.mod_lt y (show 0 < 1000000000 by decide)
        have hd : y / 1000000000 < y := Nat.div_lt_self hy (by decide)
        have HN := hide (show y / 1000000000 = X / 1000000000 ^ (k + 1) by rw [digW_next, ← HY.out])
        have HZ := hide (show digW X k = ((y % 1000000000 : Nat) : Int) by rw [HY.out]; rfl)
        generalize y % 1000000000 = z at *
        generalize y / 1000000000 = u at *
        have HO := hide ho
        have HB := hide hB
        clear ho hB hO
        go_wp2_with (at_builtin; refine wpList_append_ints _ rfl (.tmp 11) (.tmp 14) rfl W.heap.size 0 (.slice O k o9) k _ rfl (HO.out.alloc _) (some ⟨_, 0, none⟩) 1 1 (fun _ => (z : Int)) rfl (IntsAt.one _ 0 (z : Int) 3 (Nat.zero_le _)) (by omega) (by simp; omega) ?_; intro v' w' h1 hb4)
        go_roundw
        case rel =>
          refine ⟨k + 1, u, by omega, by omega, by go_num, HN, h1.congr fun j hj => ?_, (HB.out.alloc hBs _).trans hb4⟩
          unfold catF
          by_cases e : j < k
          · rw [if_pos e]
          · obtain rfl : j = k := by omega
            rw [if_neg e, HZ.out]
        case measure => simp [Go.RowKit.intOf]; omega
      · obtain rfl : y = 0 := by omega
        have hyz : ¬ (((0 : Nat) : Int) > 0) := by omega
        have b1 := b0.below hB
        have hlt := b1.lt
        have HT := hide (HWO.out (1) O k o9 wA (by omega) ho9 (hO.weak (Nat.zero_le _)))
        have HVk := hide (HV.out k HY.out.symm)
        have hBA : Below w.heap.size w wA := hB0.trans (hB.mono (Nat.le_of_lt hWs))
        have HI := hide hO
        clear hy HY ho hO hB b0 hB0
        go_wp2_with fail
        refine HT.out.mono ?_
        rintro e w2 ⟨rfl, hb2⟩
        have b2 := b1.below hb2
        have f0 := b2.free 0
        have f1 := b2.free 1
        have y0 := b2.at_ 0
        have y1 := b2.at_ 1
        simp only [List.getElem?_toArray] at y0 y1
        have hlt2 := b2.lt
        have HC := hide ((b2.set_ 0 (.int .i64 (sgnT (1) (trimN (digW X) k)))).set_ 1 (.slice O (trimN (digW X) k) o9))
        have hB2 := hBA.trans (hb2.mono hBA.size)
        have HL := hide ((hB2.setCell (p := ⟨w.heap.size, 0, none⟩) (Nat.le_refl _) (.int .i64 (sgnT (1) (trimN (digW X) k)))).setCell (p := ⟨w.heap.size, 1, none⟩) (Nat.le_refl _) (.slice O (trimN (digW X) k) o9))
        have HWI := hide (show WideAt _ w.heap.size _ 3 (X : Int) from (show (1) * valD (digW X) k = (X : Int) by rw [HVk.out]; omega) ▸ WideAt.of (m := 3) (s := 1) ((((HI.out.below hb2).other (p := ⟨w.heap.size, 0, none⟩) hWs (.int .i64 (sgnT (1) (trimN (digW X) k)))).other (p := ⟨w.heap.size, 1, none⟩) hWs (.slice O (trimN (digW X) k) o9)).weak (Nat.le_of_lt hWs)) (digW_dig k X) ho9 (by omega) (by omega))
        clear HVk hB2 hb2 HI hBA
        go_wp2_with fail
        clear y0 y1
        have y0 := HC.out.at_ 0
        have y1 := HC.out.at_ 1
        simp only [Array.getElem?_setIfInBounds, List.setIfInBounds_toArray, List.getElem?_toArray] at y0 y1
        refine bodyPost_ret (v := .agg #[.int .i64 (sgnT (1) (trimN (digW X) k)), .slice O (trimN (digW X) k) o9]) ?_ rfl ⟨_, rfl, HWI.out, HL.out⟩
        simp [results, Try.results62, go_sem, y0, y1]
end Go.Proofs.Ytejhakkfgfahaaa
