/- Lemmas: Ne. -/
import Derived.Deep.DeepCutAuto
import Derived.Test.YtcpcndacodcopaaZs01
import Derived.Test.YtcpcndacodcopaaZs04
import Derived.Test.YtcpcndacodcopaaZs08
import Derived.Test.YtcpcndacodcopaaZs12
import Derived.Test.YtcpcndacodcopaaZs13
set_option linter.unusedVariables false
set_option linter.unusedSimpArgs false
/- TopCodeSegmented: the walk. -/
namespace Go.Proofs.Ytcpcndacodcopaa
open Go.RowKit Go.Shelf
theorem block_cells {W : World} {b : Nat} {C : Option Addr} {m e : Nat} {a p : Int} (bx : Box W b 32 #[.slice C m e, .int .i64 a, .int .i64 p]) :
    W.cell? ⟨b, 0, none⟩ = some (.slice C m e) ∧ W.cell? ⟨b, 1, none⟩ = some (.int .i64 a) ∧ W.cell? ⟨b, 2, none⟩ = some (.int .i64 p) ∧ b < W.heap.size := ⟨bx.at_ 0, bx.at_ 1, bx.at_ 2, bx.lt⟩
theorem rule_odd {d t M : Int} (h : ruleErrI d t M = 0) : t % 2 = 1 := (poly_of (firstE_zero_cons h).1).2.2.2.2
theorem segPre_of {d t M : Int} {n : Nat} {B : Nat → Int} (h : ruleErrI d t M = 0) (h2 : bitsErrR n B = 0) : segPreI d t M n B = 0 := by
  unfold segPreI
  rw [h, show firstE [firstE [unI (decide (0 < n)) 10, unI (decide (n ≤ 200)) 8], unI (bitsB n B) 15] = bitsErrR n B from bitsErrC_eq n B, h2]
  rfl
theorem cnt_le {x m n : Nat} (hx : x < m) : cntN x m n ≤ n := ceilN_le (by omega)
theorem Joined_turned (x y mo m at_ pl c : Nat) (A : Option Addr) (G : Nat → Nat → Int) (w : World) (hr : ruleErrI x y mo = 0) (d0 : 1 ≤ x) (t1 : y < 2 ^ x) (todd : y % 2 = 1) (hx : x < mo) (hmo : mo ≤ 100) (m0 : 0 < m) (m9 : m ≤ 200)
    (hat : at_ < cntN x mo m) (hpl : pl < aheadN x mo m + x) (hG : ∀ i, i < cntN x mo m → segErrI x y (aheadN x mo m) (aheadN x mo m + x) (G i) = 0)
    (hI : ListsAt w 0 A (cntN x mo m) (fun _ => aheadN x mo m + x) (turnF G at_ pl (1 - G at_ pl))) :
    Calls Try.prog 22 #[.agg #[.int .i64 (x : Int), .int .i64 (y : Int), .int .i64 (mo : Int)], .slice A (cntN x mo m) c, .int .i64 (m : Int)] w fun r w' => (∃ v, r = .returned (.tuple #[v, .int .i64 (at_ : Int), .int .i64 21])) ∧ Below w.heap.size w w' := by
  have hp : preErrI (x : Int) (y : Int) (mo : Int) m = 0 := by
    unfold preErrI
    rw [hr, withinB_yes (by omega)]
    rfl
  obtain ⟨e1, e2⟩ := join_turned d0 t1 todd hat hpl hG
  obtain ⟨c1, c2, c3, c4, -, -⟩ := cut_facts hx hmo m0 m9
  have f1 : jErrI (x : Int) (y : Int) (mo : Int) m (cntN x mo m) (fun _ => aheadN x mo m + x) (turnF G at_ pl (1 - G at_ pl)) = 21 := by
    unfold jErrI; rw [if_pos hp]; simp only [Int.toNat_natCast]; exact e1
  have f2 : jNumI (x : Int) (y : Int) (mo : Int) m (cntN x mo m) (fun _ => aheadN x mo m + x) (turnF G at_ pl (1 - G at_ pl)) = at_ := by
    unfold jNumI; rw [if_pos hp]; simp only [Int.toNat_natCast]; exact e2
  refine (Joined_any x y mo m (cntN x mo m) c A _ _ w (by omega) (fun i _ => by show aheadN x mo m + x ≤ 100000; omega) hI).mono ?_
  rw [f1, f2]
  rintro r w' ⟨⟨v, rfl, -⟩, hB⟩
  exact ⟨⟨v, rfl⟩, hB⟩
/-- What a round keeps. -/
structure RInv (w9 : World) (h0 : Nat) (rv cv bv : Array Value) (A : Option Addr) (n : Nat) (F : Nat → Int) (b o j s : Nat) (Aj : Option Addr) (cj : Nat) (v : Value) (G : Nat → Nat → Int) (W : World) : Prop where
  bx : Box W h0 25 rv
  bc : Box W (h0 + 1) 30 cv
  bb : Box W (h0 + 1 + 1) 32 bv
  hA : IntsAt W 0 A n F
  hc : W.cell? ⟨b, o + j, none⟩ = some (.slice Aj s cj)
  hb : b < W.heap.size
  hI : IntsAt W 0 Aj s (G j)
  hown : OwnLists W w9.heap.size v j (fun _ => s) G
  hB : Below w9.heap.size w9 W
theorem RInv.below {w9 : World} {h0 : Nat} {rv cv bv : Array Value} {A : Option Addr} {n : Nat} {F : Nat → Int} {b o j s : Nat} {Aj : Option Addr} {cj : Nat} {v : Value} {G : Nat → Nat → Int} {W W' : World} (h : RInv w9 h0 rv cv bv A n F b o j s Aj cj v G W) (hb : Below W.heap.size W W') : RInv w9 h0 rv cv bv A n F b o j s Aj cj v G W' :=
  ⟨h.bx.below hb, h.bc.below hb, h.bb.below hb, h.hA.below hb, (hb.cell (p := ⟨b, o + j, none⟩) h.hb).trans h.hc, Nat.lt_of_lt_of_le h.hb hb.size, h.hI.below hb, h.hown.below hb, h.hB.trans (hb.mono h.hB.size)⟩
theorem RInv.drewN {w9 : World} {h0 : Nat} {rv cv bv : Array Value} {A : Option Addr} {n : Nat} {F : Nat → Int} {b o j s : Nat} {Aj : Option Addr} {cj : Nat} {v : Value} {G : Nat → Nat → Int} {W : World} (h : RInv w9 h0 rv cv bv A n F b o j s Aj cj v G W) (q : Nat) : RInv w9 h0 rv cv bv A n F b o j s Aj cj v G (W.drewN q) := h.below (below_drewN (Below.refl _ _) q)
set_option maxHeartbeats 40000000 in
set_option maxRecDepth 100000 in
theorem topSegmented_walk (d t M d2 t2 p k at_ pl : Int) (A C : Option Addr) (n c m e : Nat) (F B : Nat → Int) (w : World) (hn : n ≤ 9223372036854775807) (hm : m ≤ 9223372036854775807) (hI : IntsAt w 0 A n F) (hJ : IntsAt w 0 C m B) :
    Calls Try.prog 3 #[.agg #[.int .i64 d, .int .i64 t, .int .i64 M], .agg #[.int .i64 d2, .int .i64 t2, .int .i64 p, .slice A n c, .int .i64 k], .agg #[.slice C m e, .int .i64 at_, .int .i64 pl]] w fun r w' => r = .returned (.bool true) ∧ Below w.heap.size w w' := by
  have HI := hide hI
  have HJ := hide hJ
  clear hI hJ
  go_enter Try.func3, Try.ntmps3
  go_wp2_with fail
  refine (coded_any _).mono ?_
  rintro r w1 ⟨rfl, hb1⟩
  have bx1 : Box w1 w.heap.size 25 #[.int .i64 d, .int .i64 t, .int .i64 M] := (((Box.made rfl).alloc _).alloc _).below hb1
  have bc1 : Box w1 (w.heap.size + 1) 30 #[.int .i64 d2, .int .i64 t2, .int .i64 p, .slice A n c, .int .i64 k] := ((Box.made (by simp)).alloc _).below hb1
  have by1 : Box w1 (w.heap.size + 1 + 1) 32 #[.slice C m e, .int .i64 at_, .int .i64 pl] := (Box.made (by simp)).below hb1
  have hB1 : Below w.heap.size w w1 := ((((Below.refl _ _).alloc (Nat.le_refl _) _).alloc (by simp) _).alloc (by simp; omega) _).trans (hb1.mono (by simp; omega))
  clear hb1
  obtain ⟨x0, x1, x2, hlx⟩ := rule_cells bx1
  go_wp2_with fail
  refine (ruleErrR_any d t M _).mono ?_
  rintro r w2 ⟨rfl, hb2⟩
  have bx2 := bx1.below hb2
  have bc2 := bc1.below hb2
  have by2 := by1.below hb2
  have hB2 := hB1.trans (hb2.mono hB1.size)
  clear x0 x1 x2 hlx bx1 bc1 by1 hB1 hb2
  by_cases hr : ruleErrI d t M = 0
  · rw [hr]
    obtain ⟨y0, y1, y2, hly⟩ := block_cells by2
    by_cases hm6 : m ≤ 60
    · have tm : decide ((60 : Int) < (m : Int)) = false := decide_eq_false (by omega)
      have tm' : decide (60 < m) = false := decide_eq_false (by omega)
      go_wp2_with fail
      refine (bitsErrR_any C m e B _ (by omega) (HJ.out.below hB2)).mono ?_
      rintro r w3 ⟨rfl, q3, rfl⟩
      by_cases hbe : bitsErrR m B = 0
      · rw [hbe]
        have HSP := hide (segPre_of hr hbe)
        obtain ⟨m0, -, hbits⟩ := bitsErrR_zero hbe
        have HBT := hide hbits
        have todd := rule_odd hr
        obtain ⟨x, y, mo, ho⟩ := ruleErr_zero hr
        obtain ⟨rfl, rfl, rfl, d0, d1, t1, m0', m9⟩ := ho
        have todd' : y % 2 = 1 := by omega
        have HCN := hide (cnt_le (n := m) m0')
        have HRR := hide hr
        clear hbe hr hbits todd y0 y1 y2 hly tm tm'
        have bx3 := bx2.drewN q3
        have bc3 := bc2.drewN q3
        have by3 := by2.drewN q3
        have hB3 := below_drewN hB2 q3
        clear bx2 bc2 by2 hB2
        generalize w2.drewN q3 = w3 at *
        obtain ⟨x0, x1, x2, hlx⟩ := rule_cells bx3
        obtain ⟨y0, y1, y2, hly⟩ := block_cells by3
        have HJ3 := hide (HJ.out.below hB3)
        go_wp2_with fail
        have SOF := hide (fun W' (h : Below w3.heap.size w3 W') => (⟨(h.cell (p := ⟨w.heap.size, 0, none⟩) hlx).trans x0, (h.cell (p := ⟨w.heap.size, 1, none⟩) hlx).trans x1, (h.cell (p := ⟨w.heap.size, 2, none⟩) hlx).trans x2, (h.cell (p := ⟨w.heap.size + 1 + 1, 0, none⟩) hly).trans y0, h⟩ : W'.cell? ⟨w.heap.size, 0, none⟩ = some (.int .i64 (x : Int)) ∧ W'.cell? ⟨w.heap.size, 1, none⟩ = some (.int .i64 (y : Int)) ∧ W'.cell? ⟨w.heap.size, 2, none⟩ = some (.int .i64 (mo : Int)) ∧ W'.cell? ⟨w.heap.size + 1 + 1, 0, none⟩ = some (.slice C m e) ∧ Below w3.heap.size w3 W'))
        have KJ := hide (fun W' (h : W'.cell? ⟨w.heap.size, 0, none⟩ = some (.int .i64 (x : Int)) ∧ W'.cell? ⟨w.heap.size, 1, none⟩ = some (.int .i64 (y : Int)) ∧ W'.cell? ⟨w.heap.size, 2, none⟩ = some (.int .i64 (mo : Int)) ∧ W'.cell? ⟨w.heap.size + 1 + 1, 0, none⟩ = some (.slice C m e) ∧ Below w3.heap.size w3 W') => HJ3.out.below h.2.2.2.2)
        have bb0 : Below w3.heap.size w3 w3 := Below.refl _ _
        clear x0 x1 x2 y0 y1 y2
        go_region_held3 (fun w' => w'.cell? ⟨w.heap.size, 0, none⟩ = some (.int .i64 (x : Int)) ∧ w'.cell? ⟨w.heap.size, 1, none⟩ = some (.int .i64 (y : Int)) ∧ w'.cell? ⟨w.heap.size, 2, none⟩ = some (.int .i64 (mo : Int)) ∧ w'.cell? ⟨w.heap.size + 1 + 1, 0, none⟩ = some (.slice C m e) ∧ Below w3.heap.size w3 w')
          (first | assumption | exact SOF.out _ (by assumption) | exact SOF.out _ bb0.drew | exact SOF.out _ (below_drewN (by assumption) _) | exact SOF.out _ (ballocH (by assumption) (Nat.le_refl _) _) | exact SOF.out _ (ballocH bb0 (Nat.le_refl _) _).drew)
          (first
            | (go_at_call 12; refine (copyInts_own C m e B _ (by omega) (KJ.out _ (by assumption))).mono ?_; rintro r w8 ⟨v8, rfl, hown8, hb8⟩; obtain ⟨A8, c8, rfl, hnc8, hI8⟩ := hown8.form; have hs_w8 : Below w3.heap.size w3 w8 := bst4 hb8 (by assumption) (Nat.le_refl _))
            | (go_at_call 11; refine (Segments_any (x : Int) (y : Int) (mo : Int) A8 m c8 B _ (by omega) (hI8.weak (Nat.zero_le _))).mono ?_; rintro r w9 ⟨⟨v9, rfl, hv9⟩, hb9⟩; have hs_w9 : Below w3.heap.size w3 w9 := bst4 hb9 (by assumption) (Nat.le_refl _)))
        rw [HSP.out]
        rcases hv9 with ⟨h0, -⟩ | ⟨-, hown9⟩
        · exact absurd HSP.out h0
        · simp only [Int.toNat_natCast] at hown9
          have bx9 := bx3.below hs_w9
          have bc9 := bc3.below hs_w9
          have by9 := by3.below hs_w9
          have hB9 : Below w.heap.size w w9 := hB3.trans (hs_w9.mono hB3.size)
          obtain ⟨c1, c2, c3, c4, -, -⟩ := cut_facts m0' m9 m0 (show m ≤ 200 by omega)
          have HSEG := hide (fun i (hi : i < cntN x mo m) => segErr_seg (x := x) (y := y) (a := aheadN x mo m) (f := cntN x mo m * aheadN x mo m - m) (B := B) (s := cntN x mo m * aheadN x mo m) (i := i) (fun k hk => fillF_bit HBT.out k (by have := (cut_facts m0' m9 m0 (show m ≤ 200 by omega)).2.2.2.2.1; omega)) (Nat.mul_le_mul_right _ hi))
          have HJB := hide (fun c' A' W hW => Joined_back (x : Int) (y : Int) (mo : Int) m c' A' B W HSP.out hW)
          have HJT := hide (fun a' p' c' A' G W ha hp hG hW => Joined_turned x y mo m a' p' c' A' G W HRR.out d0 t1 todd' m0' m9 m0 (show m ≤ 200 by omega) ha hp hG hW)
          simp only [Int.toNat_natCast] at HJB
          obtain ⟨fF, hfF⟩ : ∃ z, z = segF x y (aheadN x mo m) (cntN x mo m * aheadN x mo m - m) B := ⟨_, rfl⟩
          rw [← hfF] at hown9 HJB HSEG
          clear hfF
          have HCN := HCN.out
          generalize cntN x mo m = N at *
          generalize aheadN x mo m = a at *
          obtain ⟨s, hs⟩ : ∃ s : Nat, s = a + x := ⟨_, rfl⟩
          rw [← hs] at hown9 HJB HSEG HJT
          have hs0 : 0 < s := by omega
          have hs9 : s ≤ 100 := by omega
          obtain ⟨A9, c9, rfl, hNc, hc99, hL9⟩ := hown9.form
          have HL9 := hide (hL9.weak (Nat.zero_le _))
          have HB9 := hide hB9
          have HSB := hide (fun i (hi : i < N) => (bitsErrR_of hs0 (show s ≤ 200 by omega) (segErr_zero (HSEG.out i hi)).2 : bitsErrR s (fF i) = 0))
          have HJ9 := hide (HJ.out.below hB9)
          have HS := hide hs
          clear hs hown9 hL9 hs_w8 hs_w9 hb8 hb9 hown8 hI8 SOF KJ bb0 bx3 bc3 by3 hB3 HJ3 hlx hly hB9 HSP HRR d0 d1 t1 todd' m0' m9 c4
          have tN0 : ((N : Int) == 0) = false := by simp; omega
          have tNm : decide ((m : Int) < (N : Int)) = false := decide_eq_false (by omega)
          have tNm' : decide (m < N) = false := decide_eq_false (by omega)
          obtain ⟨y0, y1, y2, hly⟩ := block_cells by9
          go_wp2_with fail
          clear y0 y1 y2 hly tN0 tNm tNm'
          go_loopw [9, 10, 11, 12, 13, 14, 15, 16] (fun v i _ _ _ _ _ _ wr => ∃ j : Nat, j ≤ N ∧ i = .int .i64 j ∧ OwnLists wr w9.heap.size v j (fun _ => s) fF ∧ Below w9.heap.size w9 wr) (fun _ i _ _ _ _ _ _ _ => N - (intOf i).toNat)
          case atStart => exact ⟨0, Nat.zero_le _, rfl, OwnLists.nil_ _ _ _ _, Below.refl _ _⟩
          case round =>
            obtain ⟨j, hj, rfl, hown, hB⟩ := hrel
            have hBs := hB.size
            obtain ⟨Ap, cp, rfl, hcp, hcp9, hLp⟩ := hown.form
            by_cases hlt : j < N
            · skip
              have hltz : (j : Int) < (N : Int) := by omega
              have hNz : (0 : Int) < (N : Int) := by omega
              obtain ⟨b, o, Aj, cj, rfl, -, hb, hcell, hlc, hc9', hIj⟩ := (HL9.out.below hB) j hlt
              obtain ⟨b', o', A0, c0, e', -, -, hcell0, hl0, -, -⟩ := (HL9.out.below hB) 0 (by omega)
              injection e' with e'
              injection e' with e1 e2
              subst e1
              subst e2
              rw [Nat.add_zero] at hcell0
              have tne : ((s : Int) != (s : Int)) = false := by simp
              have HIj := hide hIj
              have HBE := hide (fun W hW => bitsErrR_any Aj s cj (fF j) W (by omega) hW)
              rw [HSB.out j hlt] at HBE
              clear hIj hLp
              go_wp2_with fail
              go_quiet ((go_at_call 10; first | exact quiet_ex (HBE.out _ HIj.out) | exact quiet_add (HBE.out _ HIj.out) | exact (HBE.out _ HIj.out)))
              go_wp2_with fail
              have R0 : RInv w9 w.heap.size #[.int .i64 (x : Int), .int .i64 (y : Int), .int .i64 (mo : Int)] #[.int .i64 d2, .int .i64 t2, .int .i64 p, .slice A n c, .int .i64 k] #[.slice C m e, .int .i64 at_, .int .i64 pl] A n F b o j s Aj cj (.slice Ap j cp) fF (wr.drewN nq) :=
                (RInv.mk (bx9.below hB) (bc9.below hB) (by9.below hB) (HI.out.below (HB9.out.trans (hB.mono HB9.out.size))) hcell hb HIj.out hown hB).drewN nq
              clear hcell hcell0 hown HIj hB hBs hb HBE
              generalize wr.drewN nq = wa at *
              obtain ⟨z0, z1, z2, z3, z4, hlz⟩ := chain_cells R0.bc
              have hcell := R0.hc
              have hbA := R0.hb
              have HIj := hide R0.hI
              have HIA := hide R0.hA
              have hBw := HB9.out.trans (R0.hB.mono HB9.out.size)
              cases hcr : codeRightB d2 t2 p n F k s (fF j)
              · skip
                have HCR := hide (fun W hW hW2 => codeRight_any d2 t2 p k A Aj n c s cj F (fF j) W hn (by omega) hW hW2)
                rw [hcr] at HCR
                clear hcr
                have SOF := hide (fun W' (h : Below wa.heap.size wa W') => (⟨(h.cell (p := ⟨w.heap.size + 1, 0, none⟩) hlz).trans z0, (h.cell (p := ⟨w.heap.size + 1, 1, none⟩) hlz).trans z1, (h.cell (p := ⟨w.heap.size + 1, 2, none⟩) hlz).trans z2, (h.cell (p := ⟨w.heap.size + 1, 3, none⟩) hlz).trans z3, (h.cell (p := ⟨w.heap.size + 1, 4, none⟩) hlz).trans z4, (h.cell (p := ⟨b, o + j, none⟩) hbA).trans hcell, h⟩ : (W'.cell? ⟨w.heap.size + 1, 0, none⟩ = some (.int .i64 d2) ∧ W'.cell? ⟨w.heap.size + 1, 1, none⟩ = some (.int .i64 t2) ∧ W'.cell? ⟨w.heap.size + 1, 2, none⟩ = some (.int .i64 p) ∧ W'.cell? ⟨w.heap.size + 1, 3, none⟩ = some (.slice A n c) ∧ W'.cell? ⟨w.heap.size + 1, 4, none⟩ = some (.int .i64 k) ∧ W'.cell? ⟨b, o + j, none⟩ = some (.slice Aj s cj) ∧ Below wa.heap.size wa W')))
                have bb0 : Below wa.heap.size wa wa := Below.refl _ _
                clear z0 z1 z2 z3 z4 hcell
                refine wp_region_held_drew (S := fun w' => (w'.cell? ⟨w.heap.size + 1, 0, none⟩ = some (.int .i64 d2) ∧ w'.cell? ⟨w.heap.size + 1, 1, none⟩ = some (.int .i64 t2) ∧ w'.cell? ⟨w.heap.size + 1, 2, none⟩ = some (.int .i64 p) ∧ w'.cell? ⟨w.heap.size + 1, 3, none⟩ = some (.slice A n c) ∧ w'.cell? ⟨w.heap.size + 1, 4, none⟩ = some (.int .i64 k) ∧ w'.cell? ⟨b, o + j, none⟩ = some (.slice Aj s cj) ∧ Below wa.heap.size wa w')) (by kernel_rfl) (SOF.out _ bb0.drew) (fun hHeld => ?_)
                refine wpAnyH_take (i := 0) (oi := ⟨some 89, _, _, _, _, _⟩) (v := ?_) rfl (by kernel_rfl) (by kernel_rfl) (by kernel_rfl) (fun _ _ _ h => h) (Or.inl ⟨by rfl, ?_⟩) (by assumption) ?_
                rotate_left
                · (intro w' hSw; (try dsimp only at hSw); go_simp <;> (with_reducible rfl))
                try simp only [Act.put, List.setIfInBounds_toArray, List.set_cons_zero, List.set_cons_succ]
                refine wpAnyH_take (i := 1) (oi := ⟨some 90, _, _, _, _, _⟩) (v := ?_) rfl (by kernel_rfl) (by kernel_rfl) (by kernel_rfl) (fun _ _ _ h => h) (Or.inl ⟨by rfl, ?_⟩) (by assumption) ?_
                rotate_left
                · (intro w' hSw; (try dsimp only at hSw); go_simp <;> (with_reducible rfl))
                try simp only [Act.put, List.setIfInBounds_toArray, List.set_cons_zero, List.set_cons_succ]
                refine wpAnyH_take (i := 2) (oi := ⟨some 91, _, _, _, _, _⟩) (v := ?_) rfl (by kernel_rfl) (by kernel_rfl) (by kernel_rfl) (fun _ _ _ h => h) (Or.inl ⟨by rfl, ?_⟩) (by assumption) ?_
                rotate_left
                · (intro w' hSw; (try dsimp only at hSw); go_simp <;> (with_reducible rfl))
                try simp only [Act.put, List.setIfInBounds_toArray, List.set_cons_zero, List.set_cons_succ]
                refine wpAnyH_take (i := 3) (oi := ⟨some 92, _, _, _, _, _⟩) (v := ?_) rfl (by kernel_rfl) (by kernel_rfl) (by kernel_rfl) (fun _ _ _ h => h) (Or.inl ⟨by rfl, ?_⟩) (by assumption) ?_
                rotate_left
                · (intro w' hSw; (try dsimp only at hSw); go_simp <;> (with_reducible rfl))
                try simp only [Act.put, List.setIfInBounds_toArray, List.set_cons_zero, List.set_cons_succ]
                refine wpAnyH_take (i := 4) (oi := ⟨some 93, _, _, _, _, _⟩) (v := ?_) rfl (by kernel_rfl) (by kernel_rfl) (by kernel_rfl) (fun _ _ _ h => h) (Or.inl ⟨by rfl, ?_⟩) (by assumption) ?_
                rotate_left
                · (intro w' hSw; (try dsimp only at hSw); go_simp <;> (with_reducible rfl))
                try simp only [Act.put, List.setIfInBounds_toArray, List.set_cons_zero, List.set_cons_succ]
                refine wpAnyH_ready (rs := [5]) (by kernel_rfl) (by simp) ?_
                refine AllReadyH.cons (o := ⟨some 94, _, _, _, _, _⟩) rfl (fun K hK => ?_) AllReadyH.nil
                go_simp
                go_at_call 13
                refine (HCR.out _ HIA.out.drew HIj.out.drew).mono ?_
                rintro r wb ⟨rfl, hbb⟩
                have hs_wb : Below wa.heap.size wa wb := below_of_drew hbb
                go_wp2_with fail
                refine hK.out _ _ (SOF.out _ hs_wb) (fun hHeld2 => ?_)
                clear hK K hHeld
                try simp only [Act.put, List.setIfInBounds_toArray, List.set_cons_zero, List.set_cons_succ]
                refine wpAnyH_take (i := 6) (oi := ⟨some 95, _, _, _, _, _⟩) (v := ?_) rfl (by kernel_rfl) (by kernel_rfl) (by kernel_rfl) (fun _ _ _ h => h) (Or.inl ⟨by rfl, ?_⟩) (by assumption) ?_
                rotate_left
                · (intro w' hSw; (try dsimp only at hSw); go_simp <;> (with_reducible rfl))
                try simp only [Act.put, List.setIfInBounds_toArray, List.set_cons_zero, List.set_cons_succ]
                refine wpAnyH_take (i := 7) (oi := ⟨some 96, _, _, _, _, _⟩) (v := ?_) rfl (by kernel_rfl) (by kernel_rfl) (by kernel_rfl) (fun _ _ _ h => h) (Or.inl ⟨by rfl, ?_⟩) (by assumption) ?_
                rotate_left
                · (intro w' hSw; (try dsimp only at hSw); go_simp <;> (with_reducible rfl))
                try simp only [Act.put, List.setIfInBounds_toArray, List.set_cons_zero, List.set_cons_succ]
                refine wpAnyH_take (i := 8) (oi := ⟨some 97, _, _, _, _, _⟩) (v := undef) rfl (by kernel_rfl) (by kernel_rfl) (by kernel_rfl) (fun _ _ _ h => h) (Or.inr ⟨by rfl, rfl⟩) (by assumption) ?_
                try simp only [Act.put, List.setIfInBounds_toArray, List.set_cons_zero, List.set_cons_succ]
                refine wpAnyH_take (i := 9) (oi := ⟨some 98, _, _, _, _, _⟩) (v := undef) rfl (by kernel_rfl) (by kernel_rfl) (by kernel_rfl) (fun _ _ _ h => h) (Or.inr ⟨by rfl, rfl⟩) (by assumption) ?_
                try simp only [Act.put, List.setIfInBounds_toArray, List.set_cons_zero, List.set_cons_succ]
                refine wpAnyH_take (i := 10) (oi := ⟨some 99, _, _, _, _, _⟩) (v := undef) rfl (by kernel_rfl) (by kernel_rfl) (by kernel_rfl) (fun _ _ _ h => h) (Or.inr ⟨by rfl, rfl⟩) (by assumption) ?_
                try simp only [Act.put, List.setIfInBounds_toArray, List.set_cons_zero, List.set_cons_succ]
                refine wpAnyH_take (i := 11) (oi := ⟨some 100, _, _, _, _, _⟩) (v := undef) rfl (by kernel_rfl) (by kernel_rfl) (by kernel_rfl) (fun _ _ _ h => h) (Or.inr ⟨by rfl, rfl⟩) (by assumption) ?_
                try simp only [Act.put, List.setIfInBounds_toArray, List.set_cons_zero, List.set_cons_succ]
                refine wpAnyH_take (i := 12) (oi := ⟨some 101, _, _, _, _, _⟩) (v := undef) rfl (by kernel_rfl) (by kernel_rfl) (by kernel_rfl) (fun _ _ _ h => h) (Or.inr ⟨by rfl, rfl⟩) (by assumption) ?_
                try simp only [Act.put, List.setIfInBounds_toArray, List.set_cons_zero, List.set_cons_succ]
                refine wpAnyH_take (i := 13) (oi := ⟨some 102, _, _, _, _, _⟩) (v := undef) rfl (by kernel_rfl) (by kernel_rfl) (by kernel_rfl) (fun _ _ _ h => h) (Or.inr ⟨by rfl, rfl⟩) (by assumption) ?_
                try simp only [Act.put, List.setIfInBounds_toArray, List.set_cons_zero, List.set_cons_succ]
                refine wpAnyH_take (i := 14) (oi := ⟨some 103, _, _, _, _, _⟩) (v := ?_) rfl (by kernel_rfl) (by kernel_rfl) (by kernel_rfl) (fun _ _ _ h => h) (Or.inl ⟨by rfl, ?_⟩) (by assumption) ?_
                rotate_left
                · (intro w' hSw; (try dsimp only at hSw); go_simp <;> (with_reducible rfl))
                try simp only [Act.put, List.setIfInBounds_toArray, List.set_cons_zero, List.set_cons_succ]
                refine wpAnyH_done (by kernel_rfl) ?_ _
                go_wp2_with fail
                go_ret
                exact ⟨rfl, hBw.trans (hs_wb.mono hBw.size)⟩
              · obtain ⟨x2, y2, q2, k2, rfl, rfl, rfl, rfl, ok⟩ := sendOk_of hcr
                have HCR := hide (fun W hW hW2 => codeRight_any (x2 : Int) (y2 : Int) (q2 : Int) (k2 : Int) A Aj n c s cj F (fF j) W hn (by omega) hW hW2)
                rw [hcr] at HCR
                have OK := hide ok
                have hl2 := ok.len
                have hn9 := ok.n9
                have hk80 := ok.k80
                have hk1 := ok.k1
                have hq6 := ok.q6
                have HSE := hide (fun W v A' C' c' e' hv hW hW2 => Sent_ok x2 y2 q2 k2 n s v A' C' c' e' F (fF j) W ok hv hW hW2)
                have HRC := hide (fun W A' C' c' e' S h1 h2 h3 h4 hW hW2 => Recovered_ok x2 y2 q2 k2 n s A' C' c' e' F (fF j) S W ok h1 h2 h3 h4 hW hW2)
                have HLN := hide (fun A' c' W => length_any q2 A' n c' W (by omega))
                obtain ⟨N2, hN2⟩ : ∃ N2, N2 = 2 ^ q2 := ⟨_, rfl⟩
                have eN : (2 : Int) ^ q2 = (N2 : Int) := by rw [hN2]; simp
                rw [eN] at HLN
                rw [← hN2] at hl2 HRC
                have HN2 := hide hN2
                clear hcr ok eN hN2
                by_cases hkn : k2 < N2
                · skip
                  have tk : decide ((k2 : Int) < (N2 : Int)) = true := decide_eq_true (by omega)
                  have tk' : decide (k2 < N2) = true := decide_eq_true hkn
                  have SOF := hide (fun W' (h : Below wa.heap.size wa W') => (⟨(h.cell (p := ⟨w.heap.size + 1, 0, none⟩) hlz).trans z0, (h.cell (p := ⟨w.heap.size + 1, 1, none⟩) hlz).trans z1, (h.cell (p := ⟨w.heap.size + 1, 2, none⟩) hlz).trans z2, (h.cell (p := ⟨w.heap.size + 1, 3, none⟩) hlz).trans z3, (h.cell (p := ⟨w.heap.size + 1, 4, none⟩) hlz).trans z4, (h.cell (p := ⟨b, o + j, none⟩) hbA).trans hcell, h⟩ : W'.cell? ⟨w.heap.size + 1, 0, none⟩ = some (.int .i64 (x2 : Int)) ∧ W'.cell? ⟨w.heap.size + 1, 1, none⟩ = some (.int .i64 (y2 : Int)) ∧ W'.cell? ⟨w.heap.size + 1, 2, none⟩ = some (.int .i64 (q2 : Int)) ∧ W'.cell? ⟨w.heap.size + 1, 3, none⟩ = some (.slice A n c) ∧ W'.cell? ⟨w.heap.size + 1, 4, none⟩ = some (.int .i64 (k2 : Int)) ∧ W'.cell? ⟨b, o + j, none⟩ = some (.slice Aj s cj) ∧ Below wa.heap.size wa W'))
                  have KJ := hide (fun W' (h : W'.cell? ⟨w.heap.size + 1, 0, none⟩ = some (.int .i64 (x2 : Int)) ∧ W'.cell? ⟨w.heap.size + 1, 1, none⟩ = some (.int .i64 (y2 : Int)) ∧ W'.cell? ⟨w.heap.size + 1, 2, none⟩ = some (.int .i64 (q2 : Int)) ∧ W'.cell? ⟨w.heap.size + 1, 3, none⟩ = some (.slice A n c) ∧ W'.cell? ⟨w.heap.size + 1, 4, none⟩ = some (.int .i64 (k2 : Int)) ∧ W'.cell? ⟨b, o + j, none⟩ = some (.slice Aj s cj) ∧ Below wa.heap.size wa W') => HIj.out.below h.2.2.2.2.2.2)
                  have KA := hide (fun W' (h : W'.cell? ⟨w.heap.size + 1, 0, none⟩ = some (.int .i64 (x2 : Int)) ∧ W'.cell? ⟨w.heap.size + 1, 1, none⟩ = some (.int .i64 (y2 : Int)) ∧ W'.cell? ⟨w.heap.size + 1, 2, none⟩ = some (.int .i64 (q2 : Int)) ∧ W'.cell? ⟨w.heap.size + 1, 3, none⟩ = some (.slice A n c) ∧ W'.cell? ⟨w.heap.size + 1, 4, none⟩ = some (.int .i64 (k2 : Int)) ∧ W'.cell? ⟨b, o + j, none⟩ = some (.slice Aj s cj) ∧ Below wa.heap.size wa W') => HIA.out.below h.2.2.2.2.2.2)
                  have bb0 : Below wa.heap.size wa wa := Below.refl _ _
                  clear z0 z1 z2 z3 z4 hcell
                  go_region_held3 (fun w' => w'.cell? ⟨w.heap.size + 1, 0, none⟩ = some (.int .i64 (x2 : Int)) ∧ w'.cell? ⟨w.heap.size + 1, 1, none⟩ = some (.int .i64 (y2 : Int)) ∧ w'.cell? ⟨w.heap.size + 1, 2, none⟩ = some (.int .i64 (q2 : Int)) ∧ w'.cell? ⟨w.heap.size + 1, 3, none⟩ = some (.slice A n c) ∧ w'.cell? ⟨w.heap.size + 1, 4, none⟩ = some (.int .i64 (k2 : Int)) ∧ w'.cell? ⟨b, o + j, none⟩ = some (.slice Aj s cj) ∧ Below wa.heap.size wa w')
                    (first | assumption | exact SOF.out _ (by assumption) | exact SOF.out _ bb0.drew | exact SOF.out _ (below_drewN (by assumption) _) | exact SOF.out _ (ballocH (by assumption) (Nat.le_refl _) _) | exact SOF.out _ (ballocH bb0 (Nat.le_refl _) _).drew)
                    (first
                      | (go_at_call 13; refine (HCR.out _ (KA.out _ (by assumption)) (KJ.out _ (by assumption))).mono ?_; rintro r wb ⟨rfl, hbb⟩; have hs_wb : Below wa.heap.size wa wb := bst6 hbb (by assumption) (Nat.le_refl _))
                      | (go_at_call 14; refine (HLN.out _ _ _).mono ?_; rintro r wd ⟨rfl, hbd⟩; have hs_wd : Below wa.heap.size wa wd := bst6 hbd (by assumption) (Nat.le_refl _)))
                  go_wp2_with fail
                  go_ret
                  exact ⟨rfl, hBw.trans (hs_wd.mono hBw.size)⟩
                · have tk : decide ((k2 : Int) < (N2 : Int)) = false := decide_eq_false (by omega)
                  have tk' : decide (k2 < N2) = false := decide_eq_false hkn
                  have SOF := hide (fun W' (h : Below wa.heap.size wa W') => (⟨(h.cell (p := ⟨w.heap.size + 1, 0, none⟩) hlz).trans z0, (h.cell (p := ⟨w.heap.size + 1, 1, none⟩) hlz).trans z1, (h.cell (p := ⟨w.heap.size + 1, 2, none⟩) hlz).trans z2, (h.cell (p := ⟨w.heap.size + 1, 3, none⟩) hlz).trans z3, (h.cell (p := ⟨w.heap.size + 1, 4, none⟩) hlz).trans z4, (h.cell (p := ⟨b, o + j, none⟩) hbA).trans hcell, h⟩ : W'.cell? ⟨w.heap.size + 1, 0, none⟩ = some (.int .i64 (x2 : Int)) ∧ W'.cell? ⟨w.heap.size + 1, 1, none⟩ = some (.int .i64 (y2 : Int)) ∧ W'.cell? ⟨w.heap.size + 1, 2, none⟩ = some (.int .i64 (q2 : Int)) ∧ W'.cell? ⟨w.heap.size + 1, 3, none⟩ = some (.slice A n c) ∧ W'.cell? ⟨w.heap.size + 1, 4, none⟩ = some (.int .i64 (k2 : Int)) ∧ W'.cell? ⟨b, o + j, none⟩ = some (.slice Aj s cj) ∧ Below wa.heap.size wa W'))
                  have KJ := hide (fun W' (h : W'.cell? ⟨w.heap.size + 1, 0, none⟩ = some (.int .i64 (x2 : Int)) ∧ W'.cell? ⟨w.heap.size + 1, 1, none⟩ = some (.int .i64 (y2 : Int)) ∧ W'.cell? ⟨w.heap.size + 1, 2, none⟩ = some (.int .i64 (q2 : Int)) ∧ W'.cell? ⟨w.heap.size + 1, 3, none⟩ = some (.slice A n c) ∧ W'.cell? ⟨w.heap.size + 1, 4, none⟩ = some (.int .i64 (k2 : Int)) ∧ W'.cell? ⟨b, o + j, none⟩ = some (.slice Aj s cj) ∧ Below wa.heap.size wa W') => HIj.out.below h.2.2.2.2.2.2)
                  have KA := hide (fun W' (h : W'.cell? ⟨w.heap.size + 1, 0, none⟩ = some (.int .i64 (x2 : Int)) ∧ W'.cell? ⟨w.heap.size + 1, 1, none⟩ = some (.int .i64 (y2 : Int)) ∧ W'.cell? ⟨w.heap.size + 1, 2, none⟩ = some (.int .i64 (q2 : Int)) ∧ W'.cell? ⟨w.heap.size + 1, 3, none⟩ = some (.slice A n c) ∧ W'.cell? ⟨w.heap.size + 1, 4, none⟩ = some (.int .i64 (k2 : Int)) ∧ W'.cell? ⟨b, o + j, none⟩ = some (.slice Aj s cj) ∧ Below wa.heap.size wa W') => HIA.out.below h.2.2.2.2.2.2)
                  have bb0 : Below wa.heap.size wa wa := Below.refl _ _
                  clear z0 z1 z2 z3 z4 hcell
                  go_region_held3 (fun w' => w'.cell? ⟨w.heap.size + 1, 0, none⟩ = some (.int .i64 (x2 : Int)) ∧ w'.cell? ⟨w.heap.size + 1, 1, none⟩ = some (.int .i64 (y2 : Int)) ∧ w'.cell? ⟨w.heap.size + 1, 2, none⟩ = some (.int .i64 (q2 : Int)) ∧ w'.cell? ⟨w.heap.size + 1, 3, none⟩ = some (.slice A n c) ∧ w'.cell? ⟨w.heap.size + 1, 4, none⟩ = some (.int .i64 (k2 : Int)) ∧ w'.cell? ⟨b, o + j, none⟩ = some (.slice Aj s cj) ∧ Below wa.heap.size wa w')
                    (first | assumption | exact SOF.out _ (by assumption) | exact SOF.out _ bb0.drew | exact SOF.out _ (below_drewN (by assumption) _) | exact SOF.out _ (ballocH (by assumption) (Nat.le_refl _) _) | exact SOF.out _ (ballocH bb0 (Nat.le_refl _) _).drew)
                    (first
                      | (go_at_call 13; refine (HCR.out _ (KA.out _ (by assumption)) (KJ.out _ (by assumption))).mono ?_; rintro r wb ⟨rfl, hbb⟩; have hs_wb : Below wa.heap.size wa wb := bst6 hbb (by assumption) (Nat.le_refl _))
                      | (go_at_call 14; refine (HLN.out _ _ _).mono ?_; rintro r wd ⟨rfl, hbd⟩; have hs_wd : Below wa.heap.size wa wd := bst6 hbd (by assumption) (Nat.le_refl _)))
                  have R1 := R0.below hs_wd
                  clear hs_wb hs_wd hbb hbd SOF KJ KA bb0 HIj HIA hlz hbA R0 hBw tk tk' HCR
                  go_wp2_with fail
                  obtain ⟨z0, z1, z2, z3, z4, hlz⟩ := chain_cells R1.bc
                  have hcell := R1.hc
                  have hbA := R1.hb
                  have HIj := hide R1.hI
                  have HIA := hide R1.hA
                  obtain ⟨vj, hvj⟩ : ∃ vj, vj = j % 4 := ⟨_, rfl⟩
                  have hv3 : vj ≤ 3 := by omega
                  have ec : (j : Int) % 4 = (vj : Int) := by omega
                  have et : (j : Int).tmod 4 = (vj : Int) := by rw [Int.tmod_eq_emod_of_nonneg (by omega)]; exact ec
                  clear hvj
                  have SOF := hide (fun W' (h : Below wd.heap.size wd W') => (⟨(h.cell (p := ⟨w.heap.size + 1, 0, none⟩) hlz).trans z0, (h.cell (p := ⟨w.heap.size + 1, 1, none⟩) hlz).trans z1, (h.cell (p := ⟨w.heap.size + 1, 2, none⟩) hlz).trans z2, (h.cell (p := ⟨w.heap.size + 1, 3, none⟩) hlz).trans z3, (h.cell (p := ⟨w.heap.size + 1, 4, none⟩) hlz).trans z4, (h.cell (p := ⟨b, o + j, none⟩) hbA).trans hcell, h⟩ : W'.cell? ⟨w.heap.size + 1, 0, none⟩ = some (.int .i64 (x2 : Int)) ∧ W'.cell? ⟨w.heap.size + 1, 1, none⟩ = some (.int .i64 (y2 : Int)) ∧ W'.cell? ⟨w.heap.size + 1, 2, none⟩ = some (.int .i64 (q2 : Int)) ∧ W'.cell? ⟨w.heap.size + 1, 3, none⟩ = some (.slice A n c) ∧ W'.cell? ⟨w.heap.size + 1, 4, none⟩ = some (.int .i64 (k2 : Int)) ∧ W'.cell? ⟨b, o + j, none⟩ = some (.slice Aj s cj) ∧ Below wd.heap.size wd W'))
                  have KJ := hide (fun W' (h : W'.cell? ⟨w.heap.size + 1, 0, none⟩ = some (.int .i64 (x2 : Int)) ∧ W'.cell? ⟨w.heap.size + 1, 1, none⟩ = some (.int .i64 (y2 : Int)) ∧ W'.cell? ⟨w.heap.size + 1, 2, none⟩ = some (.int .i64 (q2 : Int)) ∧ W'.cell? ⟨w.heap.size + 1, 3, none⟩ = some (.slice A n c) ∧ W'.cell? ⟨w.heap.size + 1, 4, none⟩ = some (.int .i64 (k2 : Int)) ∧ W'.cell? ⟨b, o + j, none⟩ = some (.slice Aj s cj) ∧ Below wd.heap.size wd W') => HIj.out.below h.2.2.2.2.2.2)
                  have KA := hide (fun W' (h : W'.cell? ⟨w.heap.size + 1, 0, none⟩ = some (.int .i64 (x2 : Int)) ∧ W'.cell? ⟨w.heap.size + 1, 1, none⟩ = some (.int .i64 (y2 : Int)) ∧ W'.cell? ⟨w.heap.size + 1, 2, none⟩ = some (.int .i64 (q2 : Int)) ∧ W'.cell? ⟨w.heap.size + 1, 3, none⟩ = some (.slice A n c) ∧ W'.cell? ⟨w.heap.size + 1, 4, none⟩ = some (.int .i64 (k2 : Int)) ∧ W'.cell? ⟨b, o + j, none⟩ = some (.slice Aj s cj) ∧ Below wd.heap.size wd W') => HIA.out.below h.2.2.2.2.2.2)
                  have bb0 : Below wd.heap.size wd wd := Below.refl _ _
                  clear z0 z1 z2 z3 z4 hcell
                  go_region_held3 (fun w' => w'.cell? ⟨w.heap.size + 1, 0, none⟩ = some (.int .i64 (x2 : Int)) ∧ w'.cell? ⟨w.heap.size + 1, 1, none⟩ = some (.int .i64 (y2 : Int)) ∧ w'.cell? ⟨w.heap.size + 1, 2, none⟩ = some (.int .i64 (q2 : Int)) ∧ w'.cell? ⟨w.heap.size + 1, 3, none⟩ = some (.slice A n c) ∧ w'.cell? ⟨w.heap.size + 1, 4, none⟩ = some (.int .i64 (k2 : Int)) ∧ w'.cell? ⟨b, o + j, none⟩ = some (.slice Aj s cj) ∧ Below wd.heap.size wd w')
                    (first | assumption | exact SOF.out _ (by assumption) | exact SOF.out _ bb0.drew | exact SOF.out _ (below_drewN (by assumption) _) | exact SOF.out _ (ballocH (by assumption) (Nat.le_refl _) _) | exact SOF.out _ (ballocH bb0 (Nat.le_refl _) _).drew)
                    (first
                      | (go_at_call 16; refine (copyChain_any (x2 : Int) (y2 : Int) (q2 : Int) (k2 : Int) A n c F _ (by omega) (KA.out _ (by assumption))).mono ?_; rintro r we ⟨Ae, ce, rfl, hce, hIe, hbe⟩; have hs_we : Below wd.heap.size wd we := bst6 hbe (by assumption) (Nat.le_refl _))
                      | (go_at_call 12; refine (copyInts_own Aj s cj (fF j) _ (by omega) (KJ.out _ (by assumption))).mono ?_; rintro r wf ⟨vf, rfl, hownf, hbf⟩; obtain ⟨Af, cf, rfl, hncf, hIf⟩ := hownf.form; have hs_wf : Below wd.heap.size wd wf := bst6 hbf (by assumption) (Nat.le_refl _))
                      | (go_at_call 15; refine (HSE.out _ vj Ae Af ce cf hv3 ((hIe.weak (Nat.zero_le _)).below hbf) (hIf.weak (Nat.zero_le _))).mono ?_; rintro r wg ⟨Ag, cg, rfl, hIg, hbg⟩; have hs_wg : Below wd.heap.size wd wg := bst6 hbg (by assumption) (Nat.le_refl _)))
                  have R2 := R1.below hs_wg
                  have HLK := hide (link_tells (x := x2) (y := y2) (q := q2) (k := k2) (n := n) (m := s) (v := vj) (N := N2) (z := 2) (F := F) (B := fF j) (Z := getL [at_, (j : Int)]) HN2.out (by omega) (by omega))
                  obtain ⟨SF, hSF⟩ : ∃ z, z = sentF x2 y2 q2 n F s (fF j) vj := ⟨_, rfl⟩
                  rw [← hSF] at hIg HLK
                  have HSN := hide (hIg.weak (Nat.zero_le _))
                  clear hSF hIg hs_we hs_wf hs_wg hbe hbf hbg hIe hIf hownf SOF KJ KA bb0 HIj HIA hlz hbA R1 HSE
                  have tsent : ((k2 : Int) != (k2 : Int)) = false := by simp
                  obtain ⟨z0, z1, z2, z3, z4, hlz⟩ := chain_cells R2.bc
                  go_wp2_with fail
                  obtain ⟨y0, y1, y2', hly⟩ := block_cells R2.bb
                  have hl20 := hl2.1
                  have hl29 := hl2.2
                  have HCS := hide (fun W A' c' A2 c2 hW hW2 => codeSoft_any A' A2 k2 c' 2 c2 SF (getL [at_, (j : Int)]) W (by omega) (by decide) hW hW2)
                  have HGA := hide (fun W A' c' hW => Gathered_ok A' k2 c' vj N2 (softF 2 (getL [at_, (j : Int)]) SF) W hk1 (by omega) hv3 hl20 (by omega) HLK.out.1 hW)
                  obtain ⟨GG, hGG⟩ : ∃ z, z = gatherF vj N2 (softF 2 (getL [at_, (j : Int)]) SF) k2 := ⟨_, rfl⟩
                  have HTL := hide (HLK.out.2.1)
                  have HG9 := hide (HLK.out.2.2)
                  rw [← hGG] at HGA HTL HG9
                  clear hGG HLK z0 z1 z4
                  have SOF := hide (fun W' (h : Below wg.heap.size wg W') => (⟨(h.cell (p := ⟨w.heap.size + 1, 2, none⟩) hlz).trans z2, (h.cell (p := ⟨w.heap.size + 1, 3, none⟩) hlz).trans z3, (h.cell (p := ⟨w.heap.size + 1 + 1, 1, none⟩) hly).trans y1, h⟩ : W'.cell? ⟨w.heap.size + 1, 2, none⟩ = some (.int .i64 (q2 : Int)) ∧ W'.cell? ⟨w.heap.size + 1, 3, none⟩ = some (.slice A n c) ∧ W'.cell? ⟨w.heap.size + 1 + 1, 1, none⟩ = some (.int .i64 at_) ∧ Below wg.heap.size wg W'))
                  have KS := hide (fun W' (h : W'.cell? ⟨w.heap.size + 1, 2, none⟩ = some (.int .i64 (q2 : Int)) ∧ W'.cell? ⟨w.heap.size + 1, 3, none⟩ = some (.slice A n c) ∧ W'.cell? ⟨w.heap.size + 1 + 1, 1, none⟩ = some (.int .i64 at_) ∧ Below wg.heap.size wg W') => HSN.out.below h.2.2.2)
                  have bb0 : Below wg.heap.size wg wg := Below.refl _ _
                  clear z2 z3 y0 y1 y2'
                  go_region_held3 (fun w' => w'.cell? ⟨w.heap.size + 1, 2, none⟩ = some (.int .i64 (q2 : Int)) ∧ w'.cell? ⟨w.heap.size + 1, 3, none⟩ = some (.slice A n c) ∧ w'.cell? ⟨w.heap.size + 1 + 1, 1, none⟩ = some (.int .i64 at_) ∧ Below wg.heap.size wg w')
                    (first | assumption | exact SOF.out _ (by assumption) | exact SOF.out _ bb0.drew | exact SOF.out _ (below_drewN (by assumption) _) | exact SOF.out _ (ballocH (by assumption) (Nat.le_refl _) _) | exact SOF.out _ (ballocH bb0 (Nat.le_refl _) _).drew)
                    (first
                      | (go_at_call 18; refine (HCS.out _ Ag cg (some ⟨_, 0, none⟩) 2 (KS.out _ (by assumption)) (IntsAt.of_box [at_, (j : Int)] 2 rfl (Box.made rfl) (Nat.zero_le _)).drew).mono ?_; rintro r wh ⟨vh, rfl, hownh, hbh⟩; obtain ⟨Ah, ch, rfl, hnch, hIh⟩ := hownh.form; have hs_wh : Below wg.heap.size wg wh := bst3 hbh (by assumption) (Nat.le_refl _))
                      | (go_at_call 14; refine (HLN.out _ _ _).mono ?_; rintro r wi ⟨rfl, hbi⟩; have hs_wi : Below wg.heap.size wg wi := bst3 hbi (by assumption) (Nat.le_refl _))
                      | (go_at_call 17; refine (HGA.out _ Ah ch ((hIh.weak (Nat.zero_le _)).below hbi)).mono ?_; rintro r wj ⟨gj, rfl, hIgj, hbj⟩; have hs_wj : Below wg.heap.size wg wj := bst3 hbj (by assumption) (Nat.le_refl _)))
                  have R3 := R2.below hs_wj
                  have HGJ := hide (hIgj.weak (Nat.zero_le _))
                  clear hs_wh hs_wi hs_wj hbh hbi hbj hIh hownh SOF KS bb0 HSN HCS HGA hIgj hlz hly R2 tsent
                  obtain ⟨z0, z1, z2, z3, z4, hlz⟩ := chain_cells R3.bc
                  have HSM := hide (fun W hW => sumsErrR_any (some ⟨gj, 0, none⟩) N2 N2 GG W (by omega) hW)
                  rw [show sizedErrI N2 200 GG 1000000000 = 0 from sizedErr_ok (by omega) (by omega) HG9.out] at HSM
                  have tN : ((N2 : Int) != (N2 : Int)) = false := by simp
                  go_wp2_with fail
                  refine (HSM.out _ HGJ.out).mono ?_
                  rintro r wk ⟨rfl, qk, rfl⟩
                  go_wp2_with fail
                  refine (HLN.out _ _ _).mono ?_
                  rintro r wl ⟨rfl, hbl⟩
                  have R4 := (R3.drewN qk).below hbl
                  have HGL := hide ((HGJ.out.drewN qk).below hbl)
                  clear z0 z1 z2 z3 z4 hlz hbl HGJ R3 HSM
                  obtain ⟨z0, z1, z2, z3, z4, hlz⟩ := chain_cells R4.bc
                  go_wp2_with fail
                  refine (copyChain_any (x2 : Int) (y2 : Int) (q2 : Int) (k2 : Int) A n c F _ (by omega) R4.hA).mono ?_
                  rintro r wm ⟨Am, cm, rfl, hcm, hIm, hbm⟩
                  have R5 := R4.below hbm
                  have HGM := hide (HGL.out.below hbm)
                  have HIM := hide (hIm.weak (Nat.zero_le _))
                  clear z0 z1 z2 z3 z4 hlz hbm HGL R4 hIm
                  go_wp2_with fail
                  refine (HRC.out _ Am (some ⟨gj, 0, none⟩) cm N2 GG (Nat.le_refl _) (by omega) HTL.out HG9.out HIM.out HGM.out).mono ?_
                  rintro r wn ⟨An, cn, rfl, hcn, hcn9, hIn, hbn⟩
                  have R6 := R5.below hbn
                  have HIN := hide hIn
                  have hlo : ∀ b o, An = some ⟨b, o, none⟩ → wm.heap.size ≤ b ∧ b < wn.heap.size := fun b' o' e => by subst e; exact IntsAt.block hIn hs0
                  have HLO := hide hlo
                  have HR5 := hide R5.hown
                  have hBs5 := R5.hB.size
                  clear R5 HGM HIM hIn hlo HRC HTL HG9
                  have hcell := R6.hc
                  have hbA := R6.hb
                  have HII := hide (fun W hW hW2 => ints_b An Aj s s cn cj (fF j) (fF j) W (by omega) (by omega) hW hW2)
                  rw [show intsB s (fF j) s (fF j) = true from intsB_iff.2 ⟨rfl, fun _ _ => rfl⟩] at HII
                  go_wp2_with fail
                  refine (HII.out _ (HIN.out.weak (Nat.zero_le _)) R6.hI).mono ?_
                  rintro r wo ⟨rfl, hbo⟩
                  have R7 := R6.below hbo
                  have hbos := hbo.size
                  clear hcell hbA HII R6
                  have hBs7 := R7.hB.size
                  have hbns := hbn.size
                  have HAP := hide (fun b' o' (e : An = some ⟨b', o', none⟩) => (⟨fun z => by have h1 := (HLO.out b' o' e).1; have h2 := (HR5.out.lt z).2; omega, by have := (HLO.out b' o' e).2; simp; omega⟩ : (Value.slice Ap j cp).ownBlock ≠ some b' ∧ b' < (wo.alloc (.cells #[.slice An s cn] 26)).heap.size))
                  have HIN9 := hide ((HIN.out.below hbo).weak hBs5)
                  have HOW := hide R7.hown
                  have HB7 := hide R7.hB
                  clear HIN HLO HR5 R7 hbo hbn hbos hbns
                  go_wp2_with (at_builtin; refine wpList_append_list _ rfl (.tmp 174) (.tmp 176) rfl w9.heap.size (.slice Ap j cp) j (fun _ => s) fF rfl (HOW.out.alloc _) wo.heap.size An s cn (fF j) rfl ((Box.made rfl : Box _ wo.heap.size 26 #[.slice An s cn]).at_ 0) hcn hcn9 (HIN9.out.alloc _) HAP.out (by omega) (by simp; omega) ?_; intro v' w' h1 hb3)
                  refine ⟨⟨j + 1, by omega, by simp, h1.congr (fun i hi => ?_), (HB7.out.alloc hBs7 _).trans hb3⟩, by simp [intOf]; omega⟩
                  unfold snocN snocF
                  refine ⟨by split <;> rfl, fun q _ => ?_⟩
                  by_cases e : i < j
                  · rw [if_pos e]
                  · obtain rfl : i = j := by omega
                    rw [if_neg e]
            · obtain rfl : j = N := by omega
              obtain ⟨wA, rfl⟩ : ∃ wA : World, wA = wr := ⟨_, rfl⟩
              have bxA := bx9.below hB
              have byA := by9.below hB
              have hBA := HB9.out.trans (hB.mono HB9.out.size)
              have HLP := hide (hLp.weak (Nat.zero_le _))
              have HJA := hide (HJ.out.below hBA)
              clear hown hLp hB bx9 bc9 by9 HL9 HSB hBs HB9 hlt HJ9
              obtain ⟨x0, x1, x2, hlx⟩ := rule_cells bxA
              obtain ⟨y0, y1, y2, hly⟩ := block_cells byA
              go_wp2_with fail
              clear y1 y2
              have SOF := hide (fun W' (h : Below wA.heap.size wA W') => (⟨(h.cell (p := ⟨w.heap.size, 0, none⟩) hlx).trans x0, (h.cell (p := ⟨w.heap.size, 1, none⟩) hlx).trans x1, (h.cell (p := ⟨w.heap.size, 2, none⟩) hlx).trans x2, (h.cell (p := ⟨w.heap.size + 1 + 1, 0, none⟩) hly).trans y0, h⟩ : W'.cell? ⟨w.heap.size, 0, none⟩ = some (.int .i64 (x : Int)) ∧ W'.cell? ⟨w.heap.size, 1, none⟩ = some (.int .i64 (y : Int)) ∧ W'.cell? ⟨w.heap.size, 2, none⟩ = some (.int .i64 (mo : Int)) ∧ W'.cell? ⟨w.heap.size + 1 + 1, 0, none⟩ = some (.slice C m e) ∧ Below wA.heap.size wA W'))
              have KL := hide (fun W' (h : W'.cell? ⟨w.heap.size, 0, none⟩ = some (.int .i64 (x : Int)) ∧ W'.cell? ⟨w.heap.size, 1, none⟩ = some (.int .i64 (y : Int)) ∧ W'.cell? ⟨w.heap.size, 2, none⟩ = some (.int .i64 (mo : Int)) ∧ W'.cell? ⟨w.heap.size + 1 + 1, 0, none⟩ = some (.slice C m e) ∧ Below wA.heap.size wA W') => HLP.out.below h.2.2.2.2)
              have bb0 : Below wA.heap.size wA wA := Below.refl _ _
              clear x0 x1 x2 y0
              go_region_held3 (fun w' => w'.cell? ⟨w.heap.size, 0, none⟩ = some (.int .i64 (x : Int)) ∧ w'.cell? ⟨w.heap.size, 1, none⟩ = some (.int .i64 (y : Int)) ∧ w'.cell? ⟨w.heap.size, 2, none⟩ = some (.int .i64 (mo : Int)) ∧ w'.cell? ⟨w.heap.size + 1 + 1, 0, none⟩ = some (.slice C m e) ∧ Below wA.heap.size wA w')
                (first | assumption | exact SOF.out _ (by assumption) | exact SOF.out _ bb0.drew | exact SOF.out _ (below_drewN (by assumption) _) | exact SOF.out _ (ballocH (by assumption) (Nat.le_refl _) _) | exact SOF.out _ (ballocH bb0 (Nat.le_refl _) _).drew)
                (first
                  | (go_at_call 23; refine (copyLists_any Ap j cp (fun _ => s) fF _ (by omega) (fun _ _ => by omega) (KL.out _ (by assumption))).mono ?_; rintro r wQ ⟨vQ, rfl, hownQ, hbQ⟩; obtain ⟨AQ, cQ, rfl, hnQ, hcQ9, hLQ⟩ := hownQ.form; have hs_wQ : Below wA.heap.size wA wQ := bst4 hbQ (by assumption) (Nat.le_refl _))
                  | (go_at_call 22; refine (HJB.out cQ AQ _ (hLQ.weak (Nat.zero_le _))).mono ?_; rintro r wR ⟨AZ, cZ, rfl, hIZ, hbR⟩; have hs_wR : Below wA.heap.size wA wR := bst4 hbR (by assumption) (Nat.le_refl _)))
              have bxR := bxA.below hs_wR
              have byR := byA.below hs_wR
              have hBR := hBA.trans (hs_wR.mono hBA.size)
              have HLR := hide (HLP.out.below hs_wR)
              have HIZ := hide hIZ
              have HJR := hide (HJA.out.below hs_wR)
              clear SOF KL bb0 hs_wQ hs_wR hbQ hbR hownQ hLQ hIZ HLP HJA HJB bxA byA hBA hlx hly
              obtain ⟨y0, y1, y2, hly⟩ := block_cells byR
              go_wp2_with fail
              refine (ints_b AZ C m m cZ e B B _ (by omega) (by omega) HIZ.out HJR.out).mono ?_
              rintro r wS ⟨rfl, hbS⟩
              rw [show intsB m B m B = true from intsB_iff.2 ⟨rfl, fun _ _ => rfl⟩]
              have bxS := bxR.below hbS
              have byS := byR.below hbS
              have hBS := hBR.trans (hbS.mono hBR.size)
              have HLS := hide (HLR.out.below hbS)
              clear y0 y1 y2 hly bxR byR hBR HLR hbS HIZ HJR
              obtain ⟨y0, y1, y2, hly⟩ := block_cells byS
              have HMU := hide (fun W => mod_any at_ (j : Int) W (by omega) (by omega))
              have hu0 := Int.emod_nonneg at_ (show (j : Int) ≠ 0 by omega)
              have hu9 := Int.emod_lt_of_pos at_ (show (0 : Int) < (j : Int) by omega)
              obtain ⟨u, hu⟩ := Int.eq_ofNat_of_zero_le hu0
              rw [hu] at HMU hu9
              have hun : u < j := by omega
              clear hu0 hu
              go_wp2_with fail
              refine (HMU.out _).mono ?_
              rintro r w' ⟨rfl, rfl⟩
              go_wp2_with fail
              refine (copyLists_rows Ap j cp (fun _ => s) fF _ (by omega) (fun _ _ => ⟨hs0, by omega⟩) HLS.out).mono ?_
              rintro r wT ⟨vT, rfl, ⟨cc, gg, hownT⟩, hbT⟩
              have bxT := bxS.below hbT
              have byT := byS.below hbT
              have hBT := hBS.trans (hbT.mono hBS.size)
              obtain ⟨gb, dT, rfl, hdT, hdT9, hgb, hgne, hhdr⟩ := hownT.form (by omega)
              have hcu := hhdr u hun
              obtain ⟨hou, -, hgu⟩ := hownT.2.1 u hun
              have HMP := hide (fun W => mod_any pl (s : Int) W (by omega) (by omega))
              have hv0 := Int.emod_nonneg pl (show (s : Int) ≠ 0 by omega)
              have hv9 := Int.emod_lt_of_pos pl (show (0 : Int) < (s : Int) by omega)
              obtain ⟨v, hv⟩ := Int.eq_ofNat_of_zero_le hv0
              rw [hv] at HMP hv9
              have hvs : v < s := by omega
              clear hv0 hv
              have hcv := hou.cellAt hvs
              have hfv := hou.frozen v
              have hgub : w.heap.size + 1 + 1 < gg u ∧ wS.heap.size ≤ gg u := by
                have h1 := (World.ownsRow.lt hou (gg u) rfl).1
                have h2 := byS.lt
                exact ⟨by omega, h1⟩
              have hbit := ((segErr_zero (HSEG.out u hun)).2 v hvs).le
              obtain ⟨q0, q9⟩ := hbit
              have HTN := hide (fun x' => hownT.turn (u := u) (p := v) x' hun rfl)
              have HGB := hide hgub
              clear y0 y1 y2 hly bxS byS hBS hhdr hgne hou hownT HLS hgub
              obtain ⟨y0, y1, y2, hly⟩ := block_cells byT
              obtain ⟨fv, hfv'⟩ : ∃ z, z = fF u v := ⟨_, rfl⟩
              rw [← hfv'] at hcv q0 q9
              have HFV := hide hfv'
              clear hfv'
              obtain ⟨gu, hgu'⟩ : ∃ z, z = gg u := ⟨_, rfl⟩
              rw [← hgu'] at hcu hcv hfv hgu HTN HGB
              clear hgu'
              generalize cc u = cu at *
              go_wp2_with fail
              obtain ⟨x0, x1, x2, hlx⟩ := rule_cells bxT
              have hg0 : ¬ w.heap.size = gu := by have := HGB.out.1; omega
              have hg2 : ¬ w.heap.size + 1 + 1 = gu := by have := HGB.out.1; omega
              have hg0' : ¬ gu = w.heap.size := by have := HGB.out.1; omega
              have hg2' : ¬ gu = w.heap.size + 1 + 1 := by have := HGB.out.1; omega
              go_still_tail 28, (by kernel_rfl)
              repeat (first | still_step | still_call ((HMP.out _).mono fun _ _ h => ⟨h.1, h.2.symm⟩))
              try refine wpStill_nil ?_
              go_wp2_with fail
              have HL := HTN.out (1 - fv)
              rw [HFV.out] at HL
              refine (HJT.out u v dT (some ⟨gb, 0, none⟩) fF _ hun hvs HSEG.out (by rw [HFV.out]; exact HL)).mono ?_
              rintro r wV ⟨⟨vv, rfl⟩, hbV⟩
              have tuu : ((u : Int) == (u : Int)) = true := by simp
              go_wp2_with fail
              go_ret
              exact ⟨rfl, Below.trans ((hBT.setCell (p := ⟨gu, v, none⟩) (by have := HGB.out.1; simp; omega) _).drew) (hbV.mono (by have := hBT.size; simp; omega))⟩
      · have tb : (bitsErrR m B != 0) = true := by simpa using hbe
        clear hbe
        generalize bitsErrR m B = R at *
        go_wp2_with fail
        go_ret
        exact ⟨rfl, below_drewN hB2 _⟩
    · have tm : decide ((60 : Int) < (m : Int)) = true := decide_eq_true (by omega)
      have tm' : decide (60 < m) = true := decide_eq_true (by omega)
      go_wp2_with fail
      go_ret
      exact ⟨rfl, hB2⟩
  · have tr : (ruleErrI d t M != 0) = true := by simpa using hr
    clear hr
    generalize ruleErrI d t M = R at *
    go_wp2_with fail
    go_ret
    exact ⟨rfl, hB2⟩
end Go.Proofs.Ytcpcndacodcopaa
