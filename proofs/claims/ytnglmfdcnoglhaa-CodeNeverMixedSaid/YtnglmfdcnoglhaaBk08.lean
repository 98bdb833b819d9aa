/- Lemmas: Gb, Lh, Nc, Dm, Ge, Ma, Mh. -/
import Derived.Test.YtnglmfdcnoglhaaBk01
import Derived.Test.YtnglmfdcnoglhaaBk03
import Derived.Test.YtnglmfdcnoglhaaBk04
import Derived.Test.YtnglmfdcnoglhaaBk05
import Derived.Test.YtnglmfdcnoglhaaBk06
import Derived.Test.YtnglmfdcnoglhaaBk07
set_option linter.unusedVariables false
set_option linter.unusedSimpArgs false
/- CopyPolar, CheckPolar of the reference -/
namespace Go.Proofs.Ytnglmfdcnoglhaa
open Go.RowKit
theorem ballocG {B : Nat} {w1 W : World} (h : Below B w1 W) (hB : B ≤ w1.heap.size) (o : Obj) : Below B w1 (W.alloc o) := h.alloc (Nat.le_trans hB h.size) o
theorem bstepG {B : Nat} {w1 W w2 : World} {p q : Prop} (hb : Below W.heap.size W w2) (h : p ∧ q ∧ Below B w1 W) (hB : B ≤ w1.heap.size) : Below B w1 w2 := h.2.2.trans (hb.mono (Nat.le_trans hB h.2.2.size))
set_option maxHeartbeats 1000000 in
theorem copyPolar_any (p : Int) (A : Option Addr) (n c : Nat) (F : Nat → Int) (w : World) (hn : n ≤ 100000) (hI : IntsAt w 0 A n F) :
    Calls Try.prog 48 #[.agg #[.int .i64 p, .slice A n c]] w fun e w' => ∃ A' c', e = .returned (.agg #[.int .i64 p, .slice A' n c']) ∧ n ≤ c' ∧ IntsAt w' w.heap.size A' n F ∧ Below w.heap.size w w' := by
  have HI := hide hI
  clear hI
  go_enter Try.func48, Try.ntmps48
  go_wp2_with fail
  generalize hW : World.alloc (World.alloc w _) _ = W
  have bx : Box W w.heap.size 26 #[.int .i64 p, .slice A n c] := by rw [← hW]; exact (Box.made rfl).alloc _
  have by' : Box W (w.heap.size + 1) 26 #[.int .i64 0, .slice none 0 0] := by rw [← hW]; exact Box.made (by simp)
  have hB : Below w.heap.size w W := by rw [← hW]; exact ((Below.refl _ _).alloc (Nat.le_refl _) _).alloc (by simp) _
  clear hW
  have x0 : W.cell? ⟨w.heap.size, 0, none⟩ = some (.int .i64 p) := bx.at_ 0
  have x1 : W.cell? ⟨w.heap.size, 1, none⟩ = some (.slice A n c) := bx.at_ 1
  have hz : w.heap.size + 1 + 1 ≤ W.heap.size := by'.lt
  have BY := hide by'
  have HBB := hide hB
  have SOF := hide (fun W' (h : Below (w.heap.size + 1) W W') => (⟨(h.cell (p := ⟨w.heap.size, 0, none⟩) (by simp)).trans x0, (h.cell (p := ⟨w.heap.size, 1, none⟩) (by simp)).trans x1, h⟩ :
     W'.cell? ⟨w.heap.size, 0, none⟩ = some (.int .i64 p) ∧ W'.cell? ⟨w.heap.size, 1, none⟩ = some (.slice A n c) ∧ Below (w.heap.size + 1) W W'))
  have KI := hide (fun W' (h : W'.cell? ⟨w.heap.size, 0, none⟩ = some (.int .i64 p) ∧ W'.cell? ⟨w.heap.size, 1, none⟩ = some (.slice A n c) ∧ Below (w.heap.size + 1) W W') => HI.out.below (hB.trans (h.2.2.mono (by omega))))
  have b0 : Below (w.heap.size + 1) W W := Below.refl _ _
  clear x0 x1 hB by'
  go_region_held3 (fun w' => w'.cell? ⟨w.heap.size, 0, none⟩ = some (.int .i64 p) ∧ w'.cell? ⟨w.heap.size, 1, none⟩ = some (.slice A n c) ∧ Below (w.heap.size + 1) W w')
      (first | assumption | exact SOF.out _ (by assumption) | exact SOF.out _ b0.drew | exact SOF.out _ (hs2.setCell (by simp) _) | exact SOF.out _ ((hs2.setCell (by simp) _).setCell (by simp) _))
      (first
        | (go_at_call 15; refine (copyInts_any A n c F _ (by omega) (KI.out _ (by assumption))).mono ?_; rintro e w2 ⟨v2, rfl, A2, c2, rfl, hc2, hI2, hb2⟩; have hs2 : Below (w.heap.size + 1) W w2 := bstepG hb2 (by assumption) (by omega); have hy2 := BY.out.below (below_of_drew hb2); have y0 := hy2.at_ 0; have y1 := hy2.at_ 1; have yf0 := hy2.free 0; have yf1 := hy2.free 1; have yl := hy2.lt))
  go_wp2_with fail
  refine bodyPost_ret (v := .agg #[.int .i64 p, .slice A2 n c2]) ?_ rfl ⟨A2, c2, rfl, hc2, ?_, ?_⟩
  · have z0 := ((hy2.set_ 0 (.int .i64 p)).set_ 1 (.slice A2 n c2)).at_ 0
    have z1 := ((hy2.set_ 0 (.int .i64 p)).set_ 1 (.slice A2 n c2)).at_ 1
    simp at z0 z1
    simp [results, Try.results48, go_sem, z0, z1]
  · have h := hI2.weak (show w.heap.size + 1 + 1 ≤ _ from hz)
    exact ((h.other (p := ⟨w.heap.size + 1, 0, none⟩) (by simp) _).other (p := ⟨w.heap.size + 1, 1, none⟩) (by simp) _).weak (by omega)
  · have hB2 : Below w.heap.size w w2 := HBB.out.trans (hs2.mono (by omega))
    exact (hB2.setCell (by simp) _).setCell (by simp) _
end Go.Proofs.Ytnglmfdcnoglhaa
/- CopyChain, Sent and Recovered of the reference; results that may be errors. -/
namespace Go.Proofs.Ytnglmfdcnoglhaa
open Go.RowKit Go.Shelf
/-- What a result holds: nothing, where there is an error; else n numbers. -/
def ResV (E : Int) (n : Nat) (F : Nat → Int) (v : Value) (w' : World) : Prop := (E ≠ 0 ∧ v = .slice none 0 0) ∨ (E = 0 ∧ ∃ A c, v = .slice A n c ∧ IntsAt w' 0 A n F)
theorem ResV.keep {E : Int} {n : Nat} {F : Nat → Int} {v : Value} {w w' : World} (h : ResV E n F v w) (hb : Below w.heap.size w w') : ResV E n F v w' := by
  rcases h with h | ⟨h, A, c, e, hI⟩
  · exact .inl h
  · exact .inr ⟨h, A, c, e, hI.below hb⟩
theorem res_of {E : Int} {n : Nat} {F : Nat → Int} {w : World} {e : Ending} {w' : World} (h : GaveOr E n F w e w') : ∃ v, e = .returned (.tuple #[v, .int .i64 E]) ∧ ResV E n F v w' ∧ Below w.heap.size w w' := by
  rcases h with ⟨h0, e, hb⟩ | ⟨h0, v, e, A, c, ev, -, hI, hb⟩
  · exact ⟨_, e, .inl ⟨h0, rfl⟩, hb⟩
  · exact ⟨v, by rw [h0]; exact e, .inr ⟨h0, A, c, ev, hI.weak (Nat.zero_le _)⟩, hb⟩
theorem intsB_comm {n m : Nat} {F G : Nat → Int} : intsB n F m G = intsB m G n F := by
  rw [Bool.eq_iff_iff, intsB_iff, intsB_iff]
  exact ⟨fun ⟨a, h⟩ => ⟨a.symm, fun k hk => (h k (by omega)).symm⟩, fun ⟨a, h⟩ => ⟨a.symm, fun k hk => (h k (by omega)).symm⟩⟩
theorem chain_cells {W : World} {b : Nat} {d t p k : Int} {A : Option Addr} {n c : Nat} (bx : Box W b 28 #[.int .i64 d, .int .i64 t, .int .i64 p, .slice A n c, .int .i64 k]) :
    W.cell? ⟨b, 0, none⟩ = some (.int .i64 d) ∧ W.cell? ⟨b, 1, none⟩ = some (.int .i64 t) ∧ W.cell? ⟨b, 2, none⟩ = some (.int .i64 p) ∧ W.cell? ⟨b, 3, none⟩ = some (.slice A n c) ∧ W.cell? ⟨b, 4, none⟩ = some (.int .i64 k) ∧ b < W.heap.size :=
  ⟨bx.at_ 0, bx.at_ 1, bx.at_ 2, bx.at_ 3, bx.at_ 4, bx.lt⟩
set_option maxHeartbeats 2000000 in
theorem copyChain_any (d t p k : Int) (A : Option Addr) (n c : Nat) (F : Nat → Int) (w : World) (hn : n ≤ 100000) (hI : IntsAt w 0 A n F) :
    Calls Try.prog 14 #[.agg #[.int .i64 d, .int .i64 t, .int .i64 p, .slice A n c, .int .i64 k]] w fun e w' => ∃ A' c', e = .returned (.agg #[.int .i64 d, .int .i64 t, .int .i64 p, .slice A' n c', .int .i64 k]) ∧ n ≤ c' ∧ IntsAt w' w.heap.size A' n F ∧ Below w.heap.size w w' := by
  have HI := hide hI
  clear hI
  go_enter Try.func14, Try.ntmps14
  go_wp2_with fail
  generalize hW : World.alloc (World.alloc w _) _ = W
  have bx : Box W w.heap.size 28 #[.int .i64 d, .int .i64 t, .int .i64 p, .slice A n c, .int .i64 k] := by rw [← hW]; exact (Box.made rfl).alloc _
  have by' : Box W (w.heap.size + 1) 28 #[.int .i64 0, .int .i64 0, .int .i64 0, .slice none 0 0, .int .i64 0] := by rw [← hW]; exact Box.made (by simp)
  have hB : Below w.heap.size w W := by rw [← hW]; exact ((Below.refl _ _).alloc (Nat.le_refl _) _).alloc (by simp) _
  clear hW
  obtain ⟨x0, x1, x2, x3, x4, -⟩ := chain_cells bx
  have hz : w.heap.size + 1 + 1 ≤ W.heap.size := by'.lt
  have BY := hide by'
  have HBB := hide hB
  have SOF := hide (fun W' (h : Below (w.heap.size + 1) W W') => (⟨(h.cell (p := ⟨w.heap.size, 0, none⟩) (by simp)).trans x0, (h.cell (p := ⟨w.heap.size, 1, none⟩) (by simp)).trans x1, (h.cell (p := ⟨w.heap.size, 2, none⟩) (by simp)).trans x2, (h.cell (p := ⟨w.heap.size, 3, none⟩) (by simp)).trans x3, (h.cell (p := ⟨w.heap.size, 4, none⟩) (by simp)).trans x4, h⟩ :
     W'.cell? ⟨w.heap.size, 0, none⟩ = some (.int .i64 d) ∧ W'.cell? ⟨w.heap.size, 1, none⟩ = some (.int .i64 t) ∧ W'.cell? ⟨w.heap.size, 2, none⟩ = some (.int .i64 p) ∧ W'.cell? ⟨w.heap.size, 3, none⟩ = some (.slice A n c) ∧ W'.cell? ⟨w.heap.size, 4, none⟩ = some (.int .i64 k) ∧ Below (w.heap.size + 1) W W'))
  have KI := hide (fun W' (h : W'.cell? ⟨w.heap.size, 0, none⟩ = some (.int .i64 d) ∧ W'.cell? ⟨w.heap.size, 1, none⟩ = some (.int .i64 t) ∧ W'.cell? ⟨w.heap.size, 2, none⟩ = some (.int .i64 p) ∧ W'.cell? ⟨w.heap.size, 3, none⟩ = some (.slice A n c) ∧ W'.cell? ⟨w.heap.size, 4, none⟩ = some (.int .i64 k) ∧ Below (w.heap.size + 1) W W') => HI.out.below (hB.trans (h.2.2.2.2.2.mono (by omega))))
  have b0 : Below (w.heap.size + 1) W W := Below.refl _ _
  clear x0 x1 x2 x3 x4 hB by' bx
  go_region_held3 (fun w' => w'.cell? ⟨w.heap.size, 0, none⟩ = some (.int .i64 d) ∧ w'.cell? ⟨w.heap.size, 1, none⟩ = some (.int .i64 t) ∧ w'.cell? ⟨w.heap.size, 2, none⟩ = some (.int .i64 p) ∧ w'.cell? ⟨w.heap.size, 3, none⟩ = some (.slice A n c) ∧ w'.cell? ⟨w.heap.size, 4, none⟩ = some (.int .i64 k) ∧ Below (w.heap.size + 1) W w')
      (first | assumption | exact SOF.out _ (by assumption) | exact SOF.out _ b0.drew | exact SOF.out _ (((((hs2.setCell (by simp) _).setCell (by simp) _).setCell (by simp) _).setCell (by simp) _).setCell (by simp) _))
      (first
        | (go_at_call 48; refine (copyPolar_any p A n c F _ (by omega) (KI.out _ (by assumption))).mono ?_; rintro e w2 ⟨A2, c2, rfl, hc2, hI2, hb2⟩; have hs2 : Below (w.heap.size + 1) W w2 := bstep5 hb2 (by assumption) (by omega); have hy2 := BY.out.below (below_of_drew hb2); have y0 := hy2.at_ 0; have y1 := hy2.at_ 1; have y2 := hy2.at_ 2; have y3 := hy2.at_ 3; have y4 := hy2.at_ 4; have yf0 := hy2.free 0; have yf1 := hy2.free 1; have yf2 := hy2.free 2; have yf3 := hy2.free 3; have yf4 := hy2.free 4; have yl := hy2.lt))
  go_wp2_with fail
  refine bodyPost_ret (v := .agg #[.int .i64 d, .int .i64 t, .int .i64 p, .slice A2 n c2, .int .i64 k]) ?_ rfl ⟨A2, c2, rfl, hc2, ?_, ?_⟩
  · have hz := ((((hy2.set_ 0 (.int .i64 d)).set_ 1 (.int .i64 t)).set_ 2 (.int .i64 p)).set_ 3 (.slice A2 n c2)).set_ 4 (.int .i64 k)
    have z0 := hz.at_ 0
    have z1 := hz.at_ 1
    have z2 := hz.at_ 2
    have z3 := hz.at_ 3
    have z4 := hz.at_ 4
    simp at z0 z1 z2 z3 z4
    simp [results, Try.results14, go_sem, z0, z1, z2, z3, z4]
  · have h := hI2.weak (show w.heap.size + 1 + 1 ≤ _ from hz)
    exact (((((h.other (p := ⟨w.heap.size + 1, 0, none⟩) (by simp) _).other (p := ⟨w.heap.size + 1, 1, none⟩) (by simp) _).other (p := ⟨w.heap.size + 1, 2, none⟩) (by simp) _).other (p := ⟨w.heap.size + 1, 3, none⟩) (by simp) _).other (p := ⟨w.heap.size + 1, 4, none⟩) (by simp) _).weak (by omega)
  · have hB2 : Below w.heap.size w w2 := HBB.out.trans (hs2.mono (by omega))
    exact ((((hB2.setCell (by simp) _).setCell (by simp) _).setCell (by simp) _).setCell (by simp) _).setCell (by simp) _
end Go.Proofs.Ytnglmfdcnoglhaa
/- codeRight: whether bits may be sent by a right chain of at most 80 bits at once. -/
namespace Go.Proofs.Ytnglmfdcnoglhaa
open Go.RowKit Go.Shelf
def codeRightB (d t p : Int) (n : Nat) (F : Nat → Int) (k : Int) (m : Nat) (B : Nat → Int) : Bool := decide (n ≤ 66) && (chainErrI d t p n F k == 0) && decide (k ≤ 80) && (bitsErrR m B == 0) && ((m : Int) + d == (n : Int))
theorem codeRight_iff {d t p : Int} {n : Nat} {F : Nat → Int} {k : Int} {m : Nat} {B : Nat → Int} : codeRightB d t p n F k m B = true ↔ n ≤ 66 ∧ chainErrI d t p n F k = 0 ∧ k ≤ 80 ∧ bitsErrR m B = 0 ∧ (m : Int) + d = (n : Int) := by
  simp [codeRightB, and_assoc]
set_option maxHeartbeats 4000000 in
theorem codeRight_any (d t p k : Int) (A C : Option Addr) (n c m e : Nat) (F B : Nat → Int) (w : World) (hn : n ≤ 9223372036854775807) (hm : m ≤ 9223372036854775807) (hI : IntsAt w 0 A n F) (hJ : IntsAt w 0 C m B) :
    Calls Try.prog 8 #[.agg #[.int .i64 d, .int .i64 t, .int .i64 p, .slice A n c, .int .i64 k], .slice C m e] w fun r w' => r = .returned (.bool (codeRightB d t p n F k m B)) ∧ Below w.heap.size w w' := by
  have HI := hide hI
  have HJ := hide hJ
  have HR : ∀ b, (codeRightB d t p n F k m B = true ↔ b = true) → Hid (b = codeRightB d t p n F k m B) := fun b h => hide (Bool.eq_iff_iff.2 h.symm)
  clear hI hJ
  by_cases h1 : n ≤ 66
  · have t1 : decide ((n : Int) ≤ 66) = true := decide_eq_true (by omega)
    have t1' : decide (n ≤ 66) = true := decide_eq_true h1
    by_cases h2 : chainErrI d t p n F k = 0
    · have t2 : (chainErrI d t p n F k == 0) = true := by simpa using h2
      obtain ⟨x, y, q, j, ok⟩ := chainErr_zero h2
      have hd0 := ok.ed
      have hd1 := ok.d1
      by_cases h3 : k ≤ 80
      · have t3 : decide (k ≤ 80) = true := decide_eq_true h3
        by_cases h4 : bitsErrR m B = 0
        · have t4 : (bitsErrR m B == 0) = true := by simpa using h4
          obtain ⟨m0, m9, -⟩ := bitsErrR_zero h4
          have q5 : IntKind.i64.wrap ((m : Int) + d) = (m : Int) + d := IntWalk.i64_in _ (by omega)
          have HZ := HR ((m : Int) + d == (n : Int)) (by rw [codeRight_iff]; simp [h1, h2, h3, h4])
          clear ok hd0 hd1 HR h4
          go_enter Try.func8, Try.ntmps8
          go_wp2_with fail
          refine (chainErrR_any d t p k A n c F _ (by omega) (HI.out.alloc _)).mono ?_
          rintro r w1 ⟨rfl, hb1⟩
          have bx1 : Box w1 w.heap.size 28 #[.int .i64 d, .int .i64 t, .int .i64 p, .slice A n c, .int .i64 k] := (Box.made rfl).below hb1
          have hB1 := below_of_alloc hb1
          clear hb1
          obtain ⟨x0, x1, x2, x3, x4, hl⟩ := chain_cells bx1
          rw [h2]
          go_wp2_with fail
          refine (bitsErrR_any C m e B _ hm (HJ.out.below hB1)).mono ?_
          rintro r w2 ⟨rfl, q, rfl⟩
          go_wp2_with fail
          go_ret
          exact ⟨ret_bool HZ.out, below_drewN hB1 _⟩
        · have t4 : (bitsErrR m B == 0) = false := by simpa using h4
          have HZ := HR false (by rw [codeRight_iff]; simp [h4])
          clear ok hd0 hd1 HR h4
          go_enter Try.func8, Try.ntmps8
          go_wp2_with fail
          refine (chainErrR_any d t p k A n c F _ (by omega) (HI.out.alloc _)).mono ?_
          rintro r w1 ⟨rfl, hb1⟩
          have bx1 : Box w1 w.heap.size 28 #[.int .i64 d, .int .i64 t, .int .i64 p, .slice A n c, .int .i64 k] := (Box.made rfl).below hb1
          have hB1 := below_of_alloc hb1
          clear hb1
          obtain ⟨x0, x1, x2, x3, x4, hl⟩ := chain_cells bx1
          rw [h2]
          go_wp2_with fail
          refine (bitsErrR_any C m e B _ hm (HJ.out.below hB1)).mono ?_
          rintro r w2 ⟨rfl, q, rfl⟩
          generalize bitsErrR m B = R at *
          go_wp2_with fail
          go_ret
          exact ⟨ret_bool HZ.out, below_drewN hB1 _⟩
      · have t3 : decide (k ≤ 80) = false := decide_eq_false h3
        have HZ := HR false (by rw [codeRight_iff]; simp [h3])
        clear ok hd0 hd1 HR h3
        go_enter Try.func8, Try.ntmps8
        go_wp2_with fail
        refine (chainErrR_any d t p k A n c F _ (by omega) (HI.out.alloc _)).mono ?_
        rintro r w1 ⟨rfl, hb1⟩
        have bx1 : Box w1 w.heap.size 28 #[.int .i64 d, .int .i64 t, .int .i64 p, .slice A n c, .int .i64 k] := (Box.made rfl).below hb1
        have hB1 := below_of_alloc hb1
        clear hb1
        obtain ⟨x0, x1, x2, x3, x4, hl⟩ := chain_cells bx1
        rw [h2]
        go_wp2_with fail
        go_ret
        exact ⟨ret_bool HZ.out, hB1⟩
    · have t2 : (chainErrI d t p n F k == 0) = false := by simpa using h2
      have HZ := HR false (by rw [codeRight_iff]; simp [h2])
      clear HR h2
      go_enter Try.func8, Try.ntmps8
      go_wp2_with fail
      refine (chainErrR_any d t p k A n c F _ (by omega) (HI.out.alloc _)).mono ?_
      rintro r w1 ⟨rfl, hb1⟩
      have bx1 : Box w1 w.heap.size 28 #[.int .i64 d, .int .i64 t, .int .i64 p, .slice A n c, .int .i64 k] := (Box.made rfl).below hb1
      have hB1 := below_of_alloc hb1
      clear hb1
      obtain ⟨x0, x1, x2, x3, x4, hl⟩ := chain_cells bx1
      generalize chainErrI d t p n F k = R at *
      go_wp2_with fail
      go_ret
      exact ⟨ret_bool HZ.out, hB1⟩
  · have t1 : decide ((n : Int) ≤ 66) = false := decide_eq_false (by omega)
    have t1' : decide (n ≤ 66) = false := decide_eq_false h1
    have HZ := HR false (by rw [codeRight_iff]; simp [h1])
    clear HR h1
    go_enter Try.func8, Try.ntmps8
    go_wp2_with fail
    go_ret
    exact ⟨ret_bool HZ.out, by (repeat (first | (with_reducible exact Below.refl _ _) | (with_reducible refine below_drewN ?_ _) | (with_reducible refine Below.drew ?_) | (with_reducible refine Below.alloc ?_ (by first | exact Nat.le_refl _ | (simp; done) | (simp; omega) | omega) _) | (with_reducible refine Below.setCell ?_ (by first | exact Nat.le_refl _ | (simp; done) | (simp; omega) | omega) _)))⟩
end Go.Proofs.Ytnglmfdcnoglhaa
/- Right signs are decoded. -/
namespace Go.Proofs.Ytnglmfdcnoglhaa

theorem and_low {k i j : Nat} (hj : j < 2 ^ k) : (2 ^ k + i) &&& j = i &&& j := by
  apply Nat.eq_of_testBit_eq
  intro b
  rw [Nat.testBit_and, Nat.testBit_and]
  rcases Nat.lt_or_ge b k with h | h
  · rw [Nat.testBit_two_pow_add_gt h]
  · have : j.testBit b = false := Nat.testBit_lt_two_pow (Nat.lt_of_lt_of_le hj (Nat.pow_le_pow_right (by decide) h))
    rw [this, Bool.and_false, Bool.and_false]
theorem or_add {k i : Nat} (hi : i < 2 ^ k) : 2 ^ k + i = 2 ^ k ||| i := by
  have := Nat.two_pow_add_eq_or_of_lt hi 1
  simpa using this
theorem and_high {k i j : Nat} (hi : i < 2 ^ k) (hj : j < 2 ^ k) : (2 ^ k + i) &&& (2 ^ k + j) = 2 ^ k + (i &&& j) := by
  have hx : i &&& j < 2 ^ k := Nat.and_lt_two_pow _ hj
  rw [or_add hi, or_add hj, or_add hx, ← Nat.or_and_distrib_left]
theorem and_cross {k i j : Nat} (hi : i < 2 ^ k) : i &&& (2 ^ k + j) ≠ 2 ^ k + j := by
  intro h
  have := Nat.and_le_left (n := i) (m := 2 ^ k + j)
  omega

/-- The word's first half is the sum of both halves' words, the second half the second one's. -/
theorem wsum_low {k : Nat} {U : Nat → Int} {j : Nat} (hj : j < 2 ^ k) : ∀ i, i ≤ 2 ^ k → wsum U j (2 ^ k + i) = xor1 (wsum U j (2 ^ k)) (wsum (fun x => U (2 ^ k + x)) j i)
  | 0, _ => by
    rw [Nat.add_zero]
    show _ = xor1 _ 0
    rcases wsum_bit U j (2 ^ k) with h | h <;> rw [h] <;> rfl
  | i + 1, hi => by
    have ih := wsum_low (U := U) hj i (by omega)
    show (if (2 ^ k + i) &&& j = j then xor1 (wsum U j (2 ^ k + i)) (U (2 ^ k + i)) else wsum U j (2 ^ k + i)) = xor1 _ (if i &&& j = j then xor1 _ _ else _)
    rw [and_low hj, ih]
    by_cases h : i &&& j = j
    · rw [if_pos h, if_pos h]
      unfold xor1
      have e : (fun x => U (2 ^ k + x)) i = U (2 ^ k + i) := rfl
      rw [e]
      omega
    · rw [if_neg h, if_neg h]
theorem wsum_none {k : Nat} {U : Nat → Int} {j : Nat} : ∀ i, i ≤ 2 ^ k → wsum U (2 ^ k + j) i = 0
  | 0, _ => rfl
  | i + 1, hi => by
    unfold wsum
    rw [if_neg (and_cross (by omega))]
    exact wsum_none i (by omega)
theorem wsum_high {k : Nat} {U : Nat → Int} {j : Nat} (hj : j < 2 ^ k) : ∀ i, i ≤ 2 ^ k → wsum U (2 ^ k + j) (2 ^ k + i) = wsum (fun x => U (2 ^ k + x)) j i
  | 0, _ => wsum_none (2 ^ k) (Nat.le_refl _)
  | i + 1, hi => by
    have ih := wsum_high (U := U) hj i (by omega)
    show (if (2 ^ k + i) &&& (2 ^ k + j) = 2 ^ k + j then xor1 (wsum U (2 ^ k + j) (2 ^ k + i)) (U (2 ^ k + i)) else wsum U (2 ^ k + j) (2 ^ k + i)) = (if i &&& j = j then xor1 _ _ else _)
    rw [and_high (by omega) hj, ih]
    by_cases h : i &&& j = j
    · rw [if_pos h, if_pos (by rw [h])]
    · rw [if_neg h, if_neg (by omega)]
theorem word_low {k : Nat} (U : Nat → Int) {j : Nat} (hj : j < 2 ^ k) : wordF (2 ^ (k + 1)) U j = xor1 (wordF (2 ^ k) U j) (wordF (2 ^ k) (fun x => U (2 ^ k + x)) j) := by
  have e : 2 ^ (k + 1) = 2 ^ k + 2 ^ k := by rw [Nat.pow_succ]; omega
  rw [e]
  exact wsum_low hj (2 ^ k) (Nat.le_refl _)
theorem word_high {k : Nat} (U : Nat → Int) {j : Nat} (hj : j < 2 ^ k) : wordF (2 ^ (k + 1)) U (2 ^ k + j) = wordF (2 ^ k) (fun x => U (2 ^ k + x)) j := by
  have e : 2 ^ (k + 1) = 2 ^ k + 2 ^ k := by rw [Nat.pow_succ]; omega
  rw [e]
  exact wsum_high hj (2 ^ k) (Nat.le_refl _)

/-- A soft bit tells a bit. -/
def Tells (s b : Int) : Prop := (b = 0 ∧ 0 < s) ∨ (b = 1 ∧ s < 0)
theorem Tells.lesser {a b x y : Int} (ha : Tells a x) (hb : Tells b y) : Tells (lesserI a b) (xor1 x y) := by
  unfold Tells at *
  unfold lesserI sizeI xor1
  rcases ha with ⟨rfl, ha⟩ | ⟨rfl, ha⟩ <;> rcases hb with ⟨rfl, hb⟩ | ⟨rfl, hb⟩
  · rw [if_pos (by simp; omega)]; left; omega
  · rw [if_neg (by simp; omega)]; right; omega
  · rw [if_neg (by simp; omega)]; right; omega
  · rw [if_pos (by simp; omega)]; left; omega
theorem Tells.far {a b x y : Int} (hx : IsBit x) (ha : Tells a (xor1 x y)) (hb : Tells b y) : Tells (farF x a b) y := by
  unfold Tells at *
  unfold farF xor1 at *
  rcases hx with rfl | rfl
  · rw [if_neg (by decide)]
    rcases hb with ⟨rfl, hb⟩ | ⟨rfl, hb⟩
    · left; omega
    · right; omega
  · rw [if_pos rfl]
    rcases hb with ⟨rfl, hb⟩ | ⟨rfl, hb⟩
    · left; omega
    · right; omega

theorem cancel_right : ∀ (k : Nat) (I : Nat → Bool) (U S : Nat → Int), (∀ j, j < 2 ^ k → IsBit (U j)) → (∀ j, j < 2 ^ k → I j = false → U j = 0) → (∀ j, j < 2 ^ k → Tells (S j) (wordF (2 ^ k) U j)) →
    ∀ j, j < 2 ^ k → cancelF k I S j = U j
  | 0, I, U, S, hU, hI, hS, j, hj => by
    obtain rfl : j = 0 := by simpa using hj
    have h := hS 0 (by decide)
    have hb := hU 0 (by decide)
    have e : wordF (2 ^ 0) U 0 = xor1 0 (U 0) := rfl
    rw [e] at h
    unfold cancelF
    unfold Tells xor1 at h
    cases hi : I 0
    · rw [if_neg (by simp), hI 0 (by decide) hi]
    · rcases hb with hb | hb
      · rw [hb] at h ⊢
        rw [if_neg (by omega)]
      · rw [hb] at h ⊢
        rw [if_pos ⟨rfl, by omega⟩]
  | k + 1, I, U, S, hU, hI, hS, j, hj => by
    have e2 : 2 ^ (k + 1) = 2 ^ k + 2 ^ k := by rw [Nat.pow_succ]; omega
    have h1 : ∀ x, x < 2 ^ k → cancelF k I (fun i => lesserI (S i) (S (2 ^ k + i))) x = U x :=
      cancel_right k I U _ (fun x hx => hU x (by omega)) (fun x hx => hI x (by omega)) (fun x hx => by
        have ha := hS x (by omega)
        have hb := hS (2 ^ k + x) (by omega)
        rw [word_low U hx] at ha
        rw [word_high U hx] at hb
        have h := ha.lesser hb
        have e : xor1 (xor1 (wordF (2 ^ k) U x) (wordF (2 ^ k) (fun x => U (2 ^ k + x)) x)) (wordF (2 ^ k) (fun x => U (2 ^ k + x)) x) = wordF (2 ^ k) U x := by
          have hb1 := (wordF_bit (2 ^ k) U x).le
          unfold xor1; omega
        rw [e] at h
        exact h)
    show (if j < 2 ^ k then cancelF k I (fun i => lesserI (S i) (S (2 ^ k + i))) j else cancelF k (fun i => I (2 ^ k + i)) (fun i => farF (wordF (2 ^ k) (cancelF k I fun i => lesserI (S i) (S (2 ^ k + i))) i) (S i) (S (2 ^ k + i))) (j - 2 ^ k)) = U j
    by_cases hlt : j < 2 ^ k
    · rw [if_pos hlt]; exact h1 j hlt
    · rw [if_neg hlt]
      have hw : ∀ x, wordF (2 ^ k) (cancelF k I fun i => lesserI (S i) (S (2 ^ k + i))) x = wordF (2 ^ k) U x := fun x => wsum_congr h1
      have h := cancel_right k (fun i => I (2 ^ k + i)) (fun i => U (2 ^ k + i)) (fun i => farF (wordF (2 ^ k) (cancelF k I fun i => lesserI (S i) (S (2 ^ k + i))) i) (S i) (S (2 ^ k + i)))
        (fun x hx => hU _ (by omega)) (fun x hx => hI _ (by omega)) (fun x hx => by
          have ha := hS x (by omega)
          have hb := hS (2 ^ k + x) (by omega)
          rw [word_low U hx] at ha
          rw [word_high U hx] at hb
          show Tells (farF (wordF (2 ^ k) (cancelF k I fun i => lesserI (S i) (S (2 ^ k + i))) x) (S x) (S (2 ^ k + x))) _
          rw [hw x]
          exact Tells.far (wordF_bit _ _ _) ha hb) (j - 2 ^ k) (by omega)
      rw [h]
      show U (2 ^ k + (j - 2 ^ k)) = U j
      rw [show 2 ^ k + (j - 2 ^ k) = j by omega]

end Go.Proofs.Ytnglmfdcnoglhaa
/- What stands at the positions of a right code. -/
namespace Go.Proofs.Ytnglmfdcnoglhaa
open Go.RowKit Go.Shelf
theorem OwnInts.cap_le {w : World} {base n c : Nat} {A : Option Addr} {F : Nat → Int} (h : OwnInts w base (.slice A n c) n F) : c ≤ maxLen := by
  rcases h.2 with ⟨h1, -⟩ | ⟨g, cap, cur, h1, -, -, -, hm, -⟩
  · injection h1 with _ _ h3
    omega
  · injection h1 with _ _ h3
    omega
theorem PolarOk.less {p n : Nat} {F : Nat → Int} (h : PolarOk p n F) : ∀ {j}, j < n → ∀ {i}, i < j → F i < F j
  | j + 1, hj, i, hi => by
    have h1 := h.order j hj
    by_cases e : i = j
    · subst e; exact h1
    · exact Int.lt_trans (h.less (by omega) (show i < j by omega)) h1
theorem posF_none {F B : Nat → Int} {x : Nat} : ∀ {n : Nat}, isPos F x n = false → posF F B x n = 0
  | 0, _ => rfl
  | n + 1, h => by
    unfold isPos at h
    unfold posF
    by_cases e : F n = x
    · rw [if_pos e] at h; cases h
    · rw [if_neg e] at h ⊢; exact posF_none h
theorem posF_eq {F B : Nat → Int} {x k : Nat} (hx : F k = x) : ∀ {n : Nat}, k < n → (∀ j, k < j → j < n → F j ≠ x) → posF F B x n = B k
  | n + 1, hk, h => by
    unfold posF
    by_cases e : k = n
    · subst e; rw [if_pos hx]
    · rw [if_neg (h n (by omega) (by omega))]
      exact posF_eq hx (by omega) (fun j h1 h2 => h j h1 (by omega))
theorem posF_at {p n : Nat} {F B : Nat → Int} (h : PolarOk p n F) {k : Nat} (hk : k < n) : posF F B (F k).toNat n = B k := by
  have hr := (h.range k hk).1
  have e : F k = ((F k).toNat : Int) := by omega
  exact posF_eq e hk fun j h1 h2 => by have := h.less h2 h1; omega
end Go.Proofs.Ytnglmfdcnoglhaa
/- Lists of lists of numbers: read, made by appending, copied, compared. -/
namespace Go.Proofs.Ytnglmfdcnoglhaa
open Go.RowKit Go.Shelf
/-- A slice of n slices; the slice i has L i numbers F i. -/
def ListsAt (w : World) (lo : Nat) (A : Option Addr) (n : Nat) (L : Nat → Nat) (F : Nat → Nat → Int) : Prop :=
  ∀ i, i < n → ∃ b o Ai ci, A = some ⟨b, o, none⟩ ∧ lo ≤ b ∧ b < w.heap.size ∧ w.cell? ⟨b, o + i, none⟩ = some (.slice Ai (L i) ci) ∧ L i ≤ ci ∧ ci ≤ 9223372036854775807 ∧ IntsAt w lo Ai (L i) (F i)
section
variable {w w' : World} {lo n : Nat} {A : Option Addr} {L : Nat → Nat} {F : Nat → Nat → Int}
theorem ListsAt.nil_ : ListsAt w lo A 0 L F := fun i h => absurd h (Nat.not_lt_zero i)
theorem ListsAt.below (h : ListsAt w lo A n L F) (hb : Below w.heap.size w w') : ListsAt w' lo A n L F := fun i hi => by
  obtain ⟨b, o, Ai, ci, e, h1, h2, h3, h4, h5, h6⟩ := h i hi
  exact ⟨b, o, Ai, ci, e, h1, Nat.lt_of_lt_of_le h2 hb.size, (hb.cell (p := ⟨b, o + i, none⟩) h2).trans h3, h4, h5, h6.below hb⟩
theorem ListsAt.alloc (h : ListsAt w lo A n L F) (x : Obj) : ListsAt (w.alloc x) lo A n L F := h.below ((Below.refl _ _).alloc (Nat.le_refl _) _)
theorem ListsAt.drewN (h : ListsAt w lo A n L F) (m : Nat) : ListsAt (w.drewN m) lo A n L F := h
theorem ListsAt.weak {lo' : Nat} (h : ListsAt w lo A n L F) (hl : lo' ≤ lo) : ListsAt w lo' A n L F := fun i hi => by
  obtain ⟨b, o, Ai, ci, e, h1, h2, h3, h4, h5, h6⟩ := h i hi
  exact ⟨b, o, Ai, ci, e, Nat.le_trans hl h1, h2, h3, h4, h5, h6.weak hl⟩
theorem IntsAt.block {b o k : Nat} {G : Nat → Int} (h : IntsAt w lo (some ⟨b, o, none⟩) n G) (hk : k < n) : lo ≤ b ∧ b < w.heap.size := by
  obtain ⟨b', o', e, h1, h2, -⟩ := h k hk
  injection e with e; injection e with e1 e2; subst e1
  exact ⟨h1, h2⟩
end
theorem OwnInts.block {w : World} {base n c b o : Nat} {m : Option Nat} {F : Nat → Int} (h : OwnInts w base (.slice (some ⟨b, o, none⟩) n c) n F) : base ≤ b ∧ b < w.heap.size := by
  rcases h.2 with ⟨h1, -⟩ | ⟨g, cap, cur, h1, hb, hg, -⟩
  · simp at h1
  · injection h1 with e1; injection e1 with e1; injection e1 with e1; subst e1
    exact ⟨hb, (Array.getElem?_eq_some_iff.1 hg).1⟩
/-- A slice of slices of the call's own: its row, and rows of numbers in other blocks. -/
def OwnLists (w : World) (base : Nat) (v : Value) (n : Nat) (L : Nat → Nat) (F : Nat → Nat → Int) : Prop :=
  ∃ xs : List Value, w.ownsRow base 24 1 v n xs ∧ ∀ i, i < n → ∃ Ai ci, xs[i]? = some (.slice Ai (L i) ci) ∧ L i ≤ ci ∧ ci ≤ 9223372036854775807 ∧ IntsAt w base Ai (L i) (F i) ∧ ∀ b o, Ai = some ⟨b, o, none⟩ → v.ownBlock ≠ some b ∧ b < w.heap.size
section
variable {w w' : World} {base n : Nat} {v : Value} {L : Nat → Nat} {F : Nat → Nat → Int}
theorem OwnLists.nil_ (w : World) (base : Nat) (L : Nat → Nat) (F : Nat → Nat → Int) : OwnLists w base (.slice none 0 0) 0 L F := ⟨[], World.ownsRow_nil _ _ _ _, fun i h => absurd h (Nat.not_lt_zero i)⟩
theorem OwnLists.below (h : OwnLists w base v n L F) (hb : Below w.heap.size w w') : OwnLists w' base v n L F := by
  obtain ⟨xs, h1, h2⟩ := h
  refine ⟨xs, World.ownsRow.kept h1 (row := none) ⟨hb.os, hb.tape, hb.output, hb.size, fun k hk _ => hb.block k hk⟩ (by cases v.ownBlock <;> simp), fun i hi => ?_⟩
  obtain ⟨Ai, ci, e, h3, h4, h5, h6⟩ := h2 i hi
  exact ⟨Ai, ci, e, h3, h4, h5.below hb, fun b o e => ⟨(h6 b o e).1, Nat.lt_of_lt_of_le (h6 b o e).2 hb.size⟩⟩
theorem OwnLists.alloc (h : OwnLists w base v n L F) (o : Obj) : OwnLists (w.alloc o) base v n L F := h.below ((Below.refl _ _).alloc (Nat.le_refl _) _)
theorem OwnLists.drew (h : OwnLists w base v n L F) : OwnLists w.drew base v n L F := h
theorem OwnLists.drewN (h : OwnLists w base v n L F) (q : Nat) : OwnLists (w.drewN q) base v n L F := h
theorem OwnLists.congr {L' : Nat → Nat} {F' : Nat → Nat → Int} (h : OwnLists w base v n L F) (e : ∀ i, i < n → L i = L' i ∧ ∀ k, k < L i → F i k = F' i k) : OwnLists w base v n L' F' := by
  obtain ⟨xs, h1, h2⟩ := h
  refine ⟨xs, h1, fun i hi => ?_⟩
  obtain ⟨Ai, ci, g, h3, h4, h5, h6⟩ := h2 i hi
  obtain ⟨e1, e2⟩ := e i hi
  exact ⟨Ai, ci, by rw [← e1]; exact g, by omega, h4, by rw [← e1]; exact h5.congr e2, h6⟩
theorem OwnLists.form (h : OwnLists w base v n L F) : ∃ A c, v = .slice A n c ∧ n ≤ c ∧ c ≤ 9223372036854775807 ∧ ListsAt w base A n L F := by
  obtain ⟨xs, h1, h2⟩ := h
  have hm9 : maxLen ≤ 9223372036854775807 := by decide
  rcases h1.2 with ⟨rfl, rfl⟩ | ⟨g, cap, cur, rfl, hb, hg, hnc, hm, -⟩
  · exact ⟨_, _, rfl, Nat.le_refl _, by decide, ListsAt.nil_⟩
  · refine ⟨_, _, rfl, hnc, by omega, fun i hi => ?_⟩
    obtain ⟨Ai, ci, e, h3, h4, h5, h6⟩ := h2 i hi
    have hc := World.ownsRow.cells h1 (g := g) rfl i _ e
    rw [Addr.add_lit] at hc
    exact ⟨g, 0, Ai, ci, rfl, hb, (Array.getElem?_eq_some_iff.1 hg).1, hc, h3, h4, h5⟩
theorem OwnLists.lt (h : OwnLists w base v n L F) {k : Nat} (hk : v.ownBlock = some k) : base ≤ k ∧ k < w.heap.size := by
  obtain ⟨xs, h1, -⟩ := h
  exact World.ownsRow.lt h1 k hk
end
theorem IntsAt.grown {w w' : World} {lo n : Nat} {A : Option Addr} {G : Nat → Int} {row : Option Nat} (h : IntsAt w lo A n G) (hg : w.grownBy w' row) (ha : ∀ b o, A = some ⟨b, o, none⟩ → row ≠ some b) : IntsAt w' lo A n G := fun k hk => by
  obtain ⟨b, o, e, h1, h2, h3⟩ := h k hk
  exact ⟨b, o, e, h1, Nat.lt_of_lt_of_le h2 hg.size, (World.cell?_of_block (a := ⟨b, o + k, none⟩) (hg.block b h2 (fun x => ha b o e x.symm))).trans h3⟩
def snocN (n : Nat) (L : Nat → Nat) (m : Nat) (i : Nat) : Nat := if i < n then L i else m
def snocF (n : Nat) (F : Nat → Nat → Int) (G : Nat → Int) (i : Nat) : Nat → Int := if i < n then F i else G
theorem listInfo : (Try.prog.info? 24).map (fun i => (i.zero, i.size, i.bytes)) = some (some (.slice none 0 0), 1, 24) := by kernel_rfl
set_option maxRecDepth 100000 in
theorem run_append_list (w : World) (ty : TypeId) (base : Nat) (v : Value) (n : Nat) (L : Nat → Nat) (F : Nat → Nat → Int) (hown : OwnLists w base v n L F)
    (g1 : Nat) (A : Option Addr) (m c : Nat) (G : Nat → Int) (hc : w.cell? ⟨g1, 0, none⟩ = some (.slice A m c)) (hmc : m ≤ c) (hc9 : c ≤ 9223372036854775807) (hr : IntsAt w base A m G) (ha : ∀ b o, A = some ⟨b, o, none⟩ → v.ownBlock ≠ some b ∧ b < w.heap.size) (hn : n ≤ 1000000) (hbase : base ≤ w.heap.size) :
    ∃ v' w', (Builtin.append_ #[58, 58] ty #[v, .slice (some ⟨g1, 0, none⟩) 1 1]).run Try.prog w = .ok v' w' ∧ OwnLists w' base v' (n + 1) (snocN n L m) (snocF n F G) ∧ Below base w w' ∧ w.grownBy w' v.ownBlock := by
  obtain ⟨i0, hi, hz0, hz1, hz2⟩ := info_parts listInfo
  obtain ⟨xs, h1, h2⟩ := hown
  have hlen : xs.length = n := by rw [h1.1, Nat.mul_one]
  obtain ⟨v', w', hrun, hown', hg, -, hblk⟩ := run_append_own_at (P := Try.prog) w base 58 ty 24 i0 (.slice none 0 0) 1 24 Try.underlying58 hi hz0 hz1 hz2 rfl (by decide) v n xs h1 ⟨g1, 0, none⟩ 1 1 [.slice A m c] rfl
    (fun j u hu => by
      match j, hu with
      | 0, hu =>
        simp at hu
        subst hu
        exact hc
      | j + 1, hu => simp at hu)
    (fun u hu => by
      simp at hu
      subst hu
      rfl) (by unfold maxLen; omega) (by omega) hbase
  have hb : Below base w w' := (Below.refl _ _).grown hg hbase (fun k hk => (World.ownsRow.lt h1 k hk).1)
  refine ⟨v', w', hrun, ⟨_, hown', fun i hi => ?_⟩, hb, hg⟩
  have apart : ∀ (B : Option Addr), (∀ b o, B = some ⟨b, o, none⟩ → v.ownBlock ≠ some b ∧ b < w.heap.size) → ∀ b o, B = some ⟨b, o, none⟩ → v'.ownBlock ≠ some b ∧ b < w'.heap.size := fun B hB b o e => by
    obtain ⟨x1, x2⟩ := hB b o e
    refine ⟨?_, Nat.lt_of_lt_of_le x2 hg.size⟩
    rcases hblk with y | y
    · rw [y]; exact x1
    · rw [y]; intro z; injection z with z; omega
  by_cases hin : i < n
  · obtain ⟨Ai, ci, e, h3, h4, h5, h6⟩ := h2 i hin
    unfold snocN snocF
    rw [if_pos hin, if_pos hin]
    exact ⟨Ai, ci, by rw [List.getElem?_append_left (by omega)]; exact e, h3, h4, h5.grown hg (fun b o e => (h6 b o e).1), apart Ai h6⟩
  · have hi' : i = n := by omega
    unfold snocN snocF
    rw [if_neg hin, if_neg hin]
    refine ⟨A, c, ?_, hmc, hc9, hr.grown hg (fun b o e => (ha b o e).1), apart A ha⟩
    rw [List.getElem?_append_right (by omega), hlen, hi', Nat.sub_self]
    rfl
theorem wp_append_list {o : Oper} {a : Act} {K : Act → World → Prop} {Q : Exit → Act → World → Prop} (w : World) (s x : Operand)
    (ho : o.op = .call { callee := .builtin .append, args := #[s, x], argTypes := #[58, 58] })
    (base : Nat) (v : Value) (n : Nat) (L : Nat → Nat) (F : Nat → Nat → Int) (hs : a.eval s = v) (hown : OwnLists w base v n L F)
    (g1 : Nat) (A : Option Addr) (m c : Nat) (G : Nat → Int) (hx : a.eval x = .slice (some ⟨g1, 0, none⟩) 1 1) (hc : w.cell? ⟨g1, 0, none⟩ = some (.slice A m c)) (hmc : m ≤ c) (hc9 : c ≤ 9223372036854775807) (hr : IntsAt w base A m G) (ha : ∀ b o, A = some ⟨b, o, none⟩ → v.ownBlock ≠ some b ∧ b < w.heap.size) (hn : n ≤ 1000000) (hbase : base ≤ w.heap.size)
    (h : ∀ v' w', OwnLists w' base v' (n + 1) (snocN n L m) (snocF n F G) → Below base w w' → K (a.put o.dst v') w') : o.wp Try.prog a w K Q := by
  obtain ⟨v', w', hrun, h1, h2, -⟩ := run_append_list w o.type base v n L F hown g1 A m c G hc hmc hc9 hr ha hn hbase
  unfold Oper.wp execOp
  simp only [ho, resolve, invoke, builtin, Sem.run_bind, Sem.run_pure, Result.andThen_ok, List.map_toArray, List.map_cons, List.map_nil, hs, hx, hrun]
  exact h v' w' h1 h2
theorem wpList_append_list {ops : Array Oper} {rest : List Oper} {o : Oper} {a : Act} {Q : Exit → Act → World → Prop} (w : World) (hgd : o.guard = none) (s x : Operand)
    (ho : o.op = .call { callee := .builtin .append, args := #[s, x], argTypes := #[58, 58] })
    (base : Nat) (v : Value) (n : Nat) (L : Nat → Nat) (F : Nat → Nat → Int) (hs : a.eval s = v) (hown : OwnLists w base v n L F)
    (g1 : Nat) (A : Option Addr) (m c : Nat) (G : Nat → Int) (hx : a.eval x = .slice (some ⟨g1, 0, none⟩) 1 1) (hc : w.cell? ⟨g1, 0, none⟩ = some (.slice A m c)) (hmc : m ≤ c) (hc9 : c ≤ 9223372036854775807) (hr : IntsAt w base A m G) (ha : ∀ b o, A = some ⟨b, o, none⟩ → v.ownBlock ≠ some b ∧ b < w.heap.size) (hn : n ≤ 1000000) (hbase : base ≤ w.heap.size)
    (h : ∀ v' w', OwnLists w' base v' (n + 1) (snocN n L m) (snocF n F G) → Below base w w' → wpList Try.prog ops Q rest (a.put o.dst v') w') : wpList Try.prog ops Q (o :: rest) a w :=
  wpList_plain hgd fun _ hK => wp_append_list w s x ho base v n L F hs hown g1 A m c G hx hc hmc hc9 hr ha hn hbase fun v' w' h1 h2 => hK _ _ (h v' w' h1 h2)
theorem step_append_list {ops : Array Oper} {o : Oper} {a : Act} {K : Act → World → Prop} {Q : Exit → Act → World → Prop} {E : Prop} (w : World) (hgd : o.guard = none) (s x : Operand)
    (ho : o.op = .call { callee := .builtin .append, args := #[s, x], argTypes := #[58, 58] })
    (base : Nat) (v : Value) (n : Nat) (L : Nat → Nat) (F : Nat → Nat → Int) (hs : a.eval s = v) (hown : OwnLists w base v n L F)
    (g1 : Nat) (A : Option Addr) (m c : Nat) (G : Nat → Int) (hx : a.eval x = .slice (some ⟨g1, 0, none⟩) 1 1) (hc : w.cell? ⟨g1, 0, none⟩ = some (.slice A m c)) (hmc : m ≤ c) (hc9 : c ≤ 9223372036854775807) (hr : IntsAt w base A m G) (ha : ∀ b o, A = some ⟨b, o, none⟩ → v.ownBlock ≠ some b ∧ b < w.heap.size) (hn : n ≤ 1000000) (hbase : base ≤ w.heap.size)
    (h : ∀ v' w', OwnLists w' base v' (n + 1) (snocN n L m) (snocF n F G) → Below base w w' → K (a.put o.dst v') w') :
    if Region.wanted o (yielded ops a.tmps) = true then Oper.wp Try.prog o a w K Q else E := by
  have hw : Region.wanted o (yielded ops a.tmps) = true := by simp [Region.wanted, hgd]
  rw [if_pos hw]
  exact wp_append_list w s x ho base v n L F hs hown g1 A m c G hx hc hmc hc9 hr ha hn hbase h
theorem quiet_add {P : Program} {f : FuncId} {args : Array Value} {w : World} {a n : Nat} {v : Value}
    (h : Calls P f args (w.drewN (a + n)) fun e w' => e = .returned v ∧ ∃ q, w' = (w.drewN (a + n)).drewN q) :
    Calls P f args (w.drewN (a + n)) fun e w'' => e = .returned v ∧ ∃ m, w'' = w.drewN (a + m) :=
  h.mono fun _ _ ⟨he, q, hq⟩ => ⟨he, n + q, by rw [hq, World.drewN_drewN, Nat.add_assoc]⟩
/-- Are two lists of lists equal? -/
def listsB (n : Nat) (L : Nat → Nat) (F : Nat → Nat → Int) (m : Nat) (M : Nat → Nat) (G : Nat → Nat → Int) : Bool := n == m && (List.range n).all fun i => intsB (L i) (F i) (M i) (G i)
theorem listsB_iff {n m : Nat} {L M : Nat → Nat} {F G : Nat → Nat → Int} : listsB n L F m M G = true ↔ n = m ∧ ∀ i, i < n → intsB (L i) (F i) (M i) (G i) = true := by simp [listsB]
end Go.Proofs.Ytnglmfdcnoglhaa
/- slices.Chunk of a list that has some times as many numbers. -/
namespace Go.Proofs.Ytnglmfdcnoglhaa
open Go.RowKit Go.Shelf
attribute [local go_sem] Oper.semAt_some
/-- Two blocks stay as they are. -/
def K2 (a : Nat) (A B : World) : Prop := A.heap.size ≤ B.heap.size ∧ B.heap[a]? = A.heap[a]? ∧ B.heap[a + 1]? = A.heap[a + 1]?
theorem K2.refl (a : Nat) (A : World) : K2 a A A := ⟨Nat.le_refl _, rfl, rfl⟩
theorem K2.trans {a : Nat} {A B C : World} (h : K2 a A B) (k : K2 a B C) : K2 a A C := ⟨Nat.le_trans h.1 k.1, k.2.1.trans h.2.1, k.2.2.trans h.2.2⟩
theorem K2.of_below {a B0 : Nat} {A B : World} (h : Below B0 A B) (hk : a + 1 < B0) : K2 a A B := ⟨h.size, h.block _ (by omega), h.block _ hk⟩
theorem K2.put {a l : Nat} {W : World} {o' : Obj} (h1 : l < a ∨ a + 1 < l) : K2 a W (W.putObj l o') :=
  ⟨by simp, World.putObj_heap_other (by omega), World.putObj_heap_other (by omega)⟩
/-- What the iterator hands to a round: the piece of a numbers. -/
def encC (g a C : Nat) (x : Fin C) : Array Value := #[.slice (some ⟨g, x.1 * a, none⟩) a a]
end Go.Proofs.Ytnglmfdcnoglhaa
