/- Lemmas: Vh, Al, Am, F2. -/
import Derived.Deep.DeepCutAuto
import Derived.Test.YtibdbopejnkefaaBk03
import Derived.Test.YtibdbopejnkefaaBk08
import Derived.Test.YtibdbopejnkefaaBk10
import Derived.Test.YtibdbopejnkefaaBk11
import Derived.Test.YtibdbopejnkefaaBk12
set_option linter.unusedVariables false
set_option linter.unusedSimpArgs false
/- awake of chapter 4: the document's examples. -/
namespace Go.Proofs.Ytibdbopejnkefaa
open Go.RowKit Go.Great
theorem Box.path {w : World} {g lo : Nat} {t : TypeId} {a b c d e f : Int} (h : Box w g t #[.int .i64 a, .int .i64 b, .int .i64 c, .int .i64 d, .int .i64 e, .int .i64 f]) (hl : lo ≤ g) :
    PathsAt w lo (some ⟨g, 0, none⟩) 2 (fun i => if i = 0 then a else d) (fun i => if i = 0 then b else e) (fun i => if i = 0 then c else f) := fun i hi => by
  match i, hi with
  | 0, _ => exact ⟨g, 0, rfl, hl, h.lt, h.at_ 0, h.at_ 1, h.at_ 2⟩
  | 1, _ => exact ⟨g, 0, rfl, hl, h.lt, h.at_ 3, h.at_ 4, h.at_ 5⟩
theorem tDoc : turnedR ⟨0, 0, 0, 1⟩ 1 = ⟨-1, 0, 0, 0⟩ := by rfl
theorem tDocE : turnedE ⟨0, 0, 0, 1⟩ 1 = 0 := by decide
theorem chkDoc : chkE 2 (fun i => if i = 0 then 0 else 1) (fun i => if i = 0 then 1 else 2) (fun i => if i = 0 then 0 else 0) = 0 := by decide
theorem okDoc : PathsOk 2 (fun i => if i = 0 then 0 else 1) (fun i => if i = 0 then 1 else 2) (fun i => if i = 0 then 0 else 0) :=
  ⟨by decide, by decide, fun j hj => by match j, hj with | 0, _ => decide | 1, _ => decide, fun j hj => by match j, hj with | 0, _ => decide | 1, _ => decide⟩
theorem respDoc : respTo (fun i => if i = 0 then 0 else 1) (fun i => if i = 0 then 1 else 2) (fun i => if i = 0 then 0 else 0) 2 2 = ⟨1, 0, -2, 0⟩ := by rfl
def oneF (_ : Nat) : Num := ⟨1, 0, 0, 0⟩
def twoF (i : Nat) : Num := if i = 0 then ⟨1, 0, 0, 0⟩ else ⟨0, 0, 1, 0⟩
theorem offDoc : offR 2 2 oneF twoF = 2 := by kernel_rfl
theorem offDocE : offE 2 2 oneF twoF = 0 := by kernel_rfl
theorem seqDoc0 : seqF 0 0 = -1 := by decide
theorem seqDoc1 : seqF 0 1 = 1 := by decide
theorem Box.two {w : World} {g lo : Nat} {t : TypeId} {a b c d e f p q : Int} (h : Box w g t #[.int .i64 a, .int .i64 b, .int .i64 c, .int .i64 d, .int .i64 e, .int .i64 f, .int .i64 p, .int .i64 q]) (hl : lo ≤ g) (F : Nat → Num) (h0 : F 0 = ⟨a, b, c, d⟩) (h1 : F 1 = ⟨e, f, p, q⟩) :
    NumsAt w lo (some ⟨g, 0, none⟩) 2 F := fun i hi => by
  match i, hi with
  | 0, _ => rw [h0]; exact ⟨g, 0, rfl, hl, h.lt, h.at_ 0, h.at_ 1, h.at_ 2, h.at_ 3⟩
  | 1, _ => rw [h1]; exact ⟨g, 0, rfl, hl, h.lt, h.at_ 4, h.at_ 5, h.at_ 6, h.at_ 7⟩
set_option maxHeartbeats 8000000 in
set_option maxRecDepth 100000 in
theorem awake_any (w : World) : Calls Try.prog 4 #[] w fun e w' => e = .returned (.bool true) ∧ Below w.heap.size w w' := by
  have HT := hide (fun W => Turned_any ⟨0, 0, 0, 1⟩ 1 W)
  rw [tDoc, tDocE] at HT
  have HO := hide (fun A B c d W h k => OffsetOf_any A B 2 c 2 d oneF twoF W (by decide) (by decide) h k)
  rw [offDoc, offDocE] at HO
  have HS := hide (fun W => SequenceOf_right 0 W (by decide))
  go_enter Try.func4, Try.ntmps4
  go_wp2_with fail
  refine (HT.out _).mono ?_
  rintro e w1 ⟨rfl, hb1⟩
  simp only []
  go_wp2_with fail
  obtain ⟨W1, hW1⟩ : ∃ q : World, q = w1.alloc (.cells #[.int .i64 (-1), .int .i64 0, .int .i64 0, .int .i64 0] 35) := ⟨_, rfl⟩
  rw [← hW1]
  obtain ⟨g1, hg1⟩ : ∃ g, g = w1.heap.size := ⟨_, rfl⟩
  have b1 : Box W1 g1 35 #[.int .i64 (-1), .int .i64 0, .int .i64 0, .int .i64 0] := by rw [hW1]; exact Box.made hg1
  have hB1 : Below w.heap.size w W1 := by rw [hW1]; exact hb1.alloc hb1.size _
  have hs1 : w1.heap.size + 1 = W1.heap.size := by rw [hW1]; simp
  rw [hs1, ← hg1]
  clear hW1 hb1 hg1 hs1
  refine (ResponseOf_right _ 2 2 _ _ _ _ okDoc chkDoc ((Box.made rfl).path (Nat.zero_le _))).mono ?_
  rintro e w2 ⟨rfl, hb2⟩
  have hB2 : Below w.heap.size w w2 := hB1.trans ((below_behind hb2).mono hB1.size)
  replace b1 := b1.below (below_behind hb2)
  clear hb2 hB1
  obtain ⟨F, hF⟩ : ∃ F, F = fun k => respTo (fun i => if i = 0 then 0 else 1) (fun i => if i = 0 then 1 else 2) (fun i => if i = 0 then 0 else 0) k 2 := ⟨_, rfl⟩
  have HF := hide (show F 2 = ⟨1, 0, -2, 0⟩ from by rw [hF]; exact respDoc)
  rw [← hF]
  clear hF
  go_upto_region 3 with (first | (refine wpList_store8 rfl (.tmp 3) (.tmp 21) rfl w2.heap.size (fun _ => Num.zero) F rfl rfl (arrNums_alloc w2 _ _ rfl) ?_; intro W3 r3 o3) | (refine wpList_allocTo rfl (some 3) rfl (.pointer (some ⟨w2.heap.size, 0, none⟩)) (.cells (arr8 fun _ => Num.zero) 38) (by kernel_rfl) ?_))
  obtain ⟨g3, hg3⟩ : ∃ g, g = w2.heap.size := ⟨_, rfl⟩
  have hB3 : Below w.heap.size w W3 := (hB2.alloc hB2.size _).trans (o3.to_below hB2.size (Nat.le_trans hB2.size (by simp)))
  replace b1 := o3.box (b1.alloc _) (by have := b1.lt; omega)
  rw [← hg3] at r3
  rw [← hg3]
  clear hg3 o3 hB2
  go_wp2_with fail
  refine (HS.out _).mono ?_
  rintro e w4 ⟨A4, c4, rfl, hc4, hI4, hb4⟩
  replace r3 := r3.below hb4
  replace b1 := b1.below hb4
  have hB4 := hB3.trans (hb4.mono hB3.size)
  clear hb4 hB3
  go_wp2_with fail
  refine (HO.out _ _ _ _ _ (((Box.made rfl).two (Nat.zero_le _) oneF rfl rfl).alloc _) ((Box.made (by simp)).two (Nat.zero_le _) twoF rfl rfl)).mono ?_
  rintro e w5 ⟨rfl, hb5⟩
  have hc5 := below_behind (below_behind hb5)
  replace r3 := r3.below hc5
  replace b1 := b1.below hc5
  replace hI4 := hI4.below hc5
  have hB5 := hB4.trans (hc5.mono hB4.size)
  obtain ⟨b0, o0, rfl, -, -, i0⟩ := hI4 0 (by decide)
  obtain ⟨b0', o0', e0', -, -, i1⟩ := hI4 1 (by decide)
  injection e0' with e0'
  injection e0' with e1' e2'
  subst e1' e2'
  rw [seqDoc0, Nat.add_zero] at i0
  rw [seqDoc1] at i1
  have y0 := r3.part (show 2 < 8 by decide) (show 0 < 4 by decide)
  have y1 := r3.part (show 2 < 8 by decide) (show 1 < 4 by decide)
  have y2 := r3.part (show 2 < 8 by decide) (show 2 < 4 by decide)
  have y3 := r3.part (show 2 < 8 by decide) (show 3 < 4 by decide)
  rw [HF.out] at y0 y1 y2 y3
  replace y0 : w5.cell? ⟨g3, 8, none⟩ = some (.int .i64 1) := y0
  replace y1 : w5.cell? ⟨g3, 9, none⟩ = some (.int .i64 0) := y1
  replace y2 : w5.cell? ⟨g3, 10, none⟩ = some (.int .i64 (-2)) := y2
  replace y3 : w5.cell? ⟨g3, 11, none⟩ = some (.int .i64 0) := y3
  obtain ⟨x0, x1, x2, x3, -, -, -, -, -⟩ := b1.cells4
  clear r3 b1 hI4 hb5 hB4 hc5 HF HO HS HT
  go_wp2_with fail
  go_ret
  exact ⟨rfl, hB5⟩
end Go.Proofs.Ytibdbopejnkefaa
/- The walk of WavePaths. -/
namespace Go.Proofs.Ytibdbopejnkefaa
open Go.RowKit Go.Great
theorem wpList_load8G {ops : Array Oper} {rest : List Oper} {op : Oper} {a : Act} {w : World} {Q : Exit → Act → World → Prop} (hw : Region.wanted op (yielded ops a.tmps) = true) (x : Operand) (ho : op.op = .load 38 x)
    (b : Nat) (F : Nat → Num) (hx : a.eval x = .pointer (some ⟨b, 0, none⟩)) (hr : ArrNums w b F)
    (h : wpList Try.prog ops Q rest (a.put op.dst (.agg (arr8 F))) w) : wpList Try.prog ops Q (op :: rest) a w :=
  wpList_step fun K hK => by
    rw [if_pos hw]
    exact wp_load_mid (P := Try.prog) 38 x ho b 0 hx ((List.range 32).map (numC F)) _ (range_of_row hr) Try.underlying38 rfl (by rw [info8]; simp) (hK _ _ h)
theorem exec_load8 {a : Act} {x : Operand} {d : Option Tmp} {ty : TypeId} {pos : String} {aft : Array Edge} {gd : Option (Nat × Bool)} {b : Nat} {F : Nat → Num} {W : World} (hx : a.eval x = .pointer (some ⟨b, 0, none⟩)) (hr : ArrNums W b F) :
    (execOp a.eval (⟨d, .load 38 x, ty, pos, aft, gd⟩ : Oper)).run Try.prog W = .ok (.value (.agg (arr8 F))) W := by
  unfold execOp
  simp only [hx, Instr.loadAt, Instr.sureAddr, Sem.run_bind, Sem.run_pure, Result.andThen_ok, run_load8 hr]
theorem zero8 : arr8 (fun _ => Num.zero) = #[.int .i64 0, .int .i64 0, .int .i64 0, .int .i64 0, .int .i64 0, .int .i64 0, .int .i64 0, .int .i64 0, .int .i64 0, .int .i64 0, .int .i64 0, .int .i64 0, .int .i64 0, .int .i64 0, .int .i64 0, .int .i64 0, .int .i64 0, .int .i64 0, .int .i64 0, .int .i64 0, .int .i64 0, .int .i64 0, .int .i64 0, .int .i64 0, .int .i64 0, .int .i64 0, .int .i64 0, .int .i64 0, .int .i64 0, .int .i64 0, .int .i64 0, .int .i64 0] := rfl
theorem equal8_zero (W : World) : (Op.equalIn 10000 38 (.agg (arr8 fun _ => Num.zero)) (.agg #[.int .i64 0, .int .i64 0, .int .i64 0, .int .i64 0, .int .i64 0, .int .i64 0, .int .i64 0, .int .i64 0, .int .i64 0, .int .i64 0, .int .i64 0, .int .i64 0, .int .i64 0, .int .i64 0, .int .i64 0, .int .i64 0, .int .i64 0, .int .i64 0, .int .i64 0, .int .i64 0, .int .i64 0, .int .i64 0, .int .i64 0, .int .i64 0, .int .i64 0, .int .i64 0, .int .i64 0, .int .i64 0, .int .i64 0, .int .i64 0, .int .i64 0, .int .i64 0])).run Try.prog W = .ok true W := equal8_same (fun _ => Num.zero) W
theorem thrR_paths {n : Nat} {D R I : Nat → Int} {m : Nat} {F : Nat → Num} (h : chkE n D R I ≠ 0) : thrR n D R I m F = chkE n D R I := by
  have e : thrE n D R I m F = chkE n D R I := by unfold thrE twoE; rw [if_neg h]
  unfold thrR
  rw [e, if_neg h]
theorem thrR_samples {n : Nat} {D R I : Nat → Int} {m : Nat} {F : Nat → Num} (h : chkE n D R I = 0) (hs : sampE m F ≠ 0) : thrR n D R I m F = sampE m F := by
  have e : thrE n D R I m F = sampE m F := by unfold thrE twoE; rw [if_pos h]
  unfold thrR
  rw [e, if_neg hs]
theorem thrR_large {n : Nat} {D R I : Nat → Int} {m : Nat} {F : Nat → Num} (h : chkE n D R I = 0) (hs : sampE m F = 0) : thrR n D R I m F = unI (numsE 1000000000 (thrTo D R I F n) m == 0) 8 := by
  have e : thrE n D R I m F = 0 := by unfold thrE twoE; rw [if_pos h, hs]
  unfold thrR
  rw [e, if_pos rfl]
theorem thrE_both {n : Nat} {D R I : Nat → Int} {m : Nat} {F : Nat → Num} (h : chkE n D R I = 0) (hs : sampE m F = 0) : thrE n D R I m F = 0 := by unfold thrE twoE; rw [if_pos h, hs]
end Go.Proofs.Ytibdbopejnkefaa
/- Arrays [8]api.Gauss as values and in blocks. -/
namespace Go.Proofs.Ytibdbopejnkefaa
open Go.RowKit Go.Great
def g8C (F : Nat → Gau) (j : Nat) : Value := .int .i64 ((F (j / 2)).part (j % 2))
def arrG8 (F : Nat → Gau) : Array Value := ((List.range 16).map (g8C F)).toArray
theorem arrG8_size (F : Nat → Gau) : (arrG8 F).size = 16 := by simp [arrG8]
theorem arrG8_at (F : Nat → Gau) (i : Nat) (h : i < 16) : (arrG8 F)[i]? = some (g8C F i) := by
  rw [arrG8, List.getElem?_toArray, List.getElem?_map, List.getElem?_range h]
  rfl
theorem arrG8_one (F : Nat → Gau) : (arrG8 F).all (·.oneCell') = true := by
  rw [Array.all_eq_true_iff_forall_mem]
  intro v hv
  obtain ⟨i, _, rfl⟩ := List.mem_map.1 (List.mem_toArray.1 hv)
  rfl
theorem arrG8_congr {F G : Nat → Gau} (h : ∀ k, k < 8 → F k = G k) : arrG8 F = arrG8 G := by
  unfold arrG8
  congr 1
  exact List.map_congr_left fun j hj => by
    have := List.mem_range.1 hj
    unfold g8C
    rw [h (j / 2) (by omega)]
def setG8 (F : Nat → Gau) (k : Nat) (x : Gau) (j : Nat) : Gau := if j = k then x else F j
theorem arrG8_el (F : Nat → Gau) (k : Nat) (hk : k < 8) : (arrG8 F).extract (k * 2) (k * 2 + 2) = #[.int .i64 (F k).re, .int .i64 (F k).im] := by
  obtain rfl | rfl | rfl | rfl | rfl | rfl | rfl | rfl : k = 0 ∨ k = 1 ∨ k = 2 ∨ k = 3 ∨ k = 4 ∨ k = 5 ∨ k = 6 ∨ k = 7 := by omega
  all_goals rfl
set_option maxRecDepth 100000 in
theorem equal_elG8 (x0 x1 : Int) (w : World) : (Op.equalIn 9999 23 (.agg #[.int .i64 x0, .int .i64 x1]) (.agg #[.int .i64 x0, .int .i64 x1])).run Try.prog w = .ok true w := by
  go_simp
theorem cells_elG8 : Try.prog.cellsOf 23 = 2 := by kernel_rfl
theorem zeroG8 : arrG8 (fun _ => Gau.zero) = #[.int .i64 0, .int .i64 0, .int .i64 0, .int .i64 0, .int .i64 0, .int .i64 0, .int .i64 0, .int .i64 0, .int .i64 0, .int .i64 0, .int .i64 0, .int .i64 0, .int .i64 0, .int .i64 0, .int .i64 0, .int .i64 0] := rfl
theorem cells_el8 : Try.prog.cellsOf 35 = 4 := by kernel_rfl
theorem run_index8 (F : Nat → Num) (k : Nat) (w : World) (hk : k < 8) : (Instr.index 38 (.agg (arr8 F)) (.int .i64 (k : Int))).run Try.prog w = .ok (.agg #[.int .i64 (F k).a, .int .i64 (F k).b, .int .i64 (F k).c, .int .i64 (F k).d]) w := by
  have h1 : (k : Int) < 8 := by omega
  have h2 : (0 : Int) ≤ (k : Int) := by omega
  have h3 := arr8_four F k hk
  have h4 := cells_el8
  simp [Instr.index, run_underlying Try.underlying38, asIntOf, go_sem, h1, h2, h3, h4, arr8_size]
  intro h; omega
theorem wpList_index8 {ops : Array Oper} {rest : List Oper} {o : Oper} {a : Act} {w : World} {Q : Exit → Act → World → Prop} (hgd : o.guard = none) (s i : Operand) (ho : o.op = .index 38 s i)
    (F : Nat → Num) (k : Nat) (hs : a.eval s = .agg (arr8 F)) (hi : a.eval i = .int .i64 (k : Int)) (hk : k < 8)
    (h : wpList Try.prog ops Q rest (a.put o.dst (.agg #[.int .i64 (F k).a, .int .i64 (F k).b, .int .i64 (F k).c, .int .i64 (F k).d])) w) : wpList Try.prog ops Q (o :: rest) a w :=
  wpList_plain hgd fun _ hK => by
    unfold Oper.wp execOp
    simp only [ho, hs, hi, Sem.run_bind, Sem.run_pure, Result.andThen_ok, run_index8 F k w hk]
    exact hK _ _ h
theorem ArrNums.slice {w : World} {b : Nat} {F : Nat → Num} (h : ArrNums w b F) : NumsAt w 0 (some ⟨b, 0, none⟩) 8 F := fun i hi => by
  obtain ⟨k0, k1, k2, k3⟩ := h.cells hi
  exact ⟨b, 0, rfl, Nat.zero_le _, h.lt, by simpa using k0, by simpa using k1, by simpa using k2, by simpa using k3⟩
theorem result1n {fn : Func} {p : Tmp} {b : Nat} {F : Nat → Num} {W : World} (h : fn.results = #[.cell p 38]) (tmps : Array Value) (ht : tmps.getD p undef = .pointer (some ⟨b, 0, none⟩)) (hr : ArrNums W b F) :
    (results fn tmps).run Try.prog W = .ok (.agg (arr8 F)) W := result8s h tmps ht hr
end Go.Proofs.Ytibdbopejnkefaa
/- Arrays [4]api.Gauss as values and in blocks. -/
namespace Go.Proofs.Ytibdbopejnkefaa
open Go.RowKit Go.Great
def g4C (F : Nat → Gau) (j : Nat) : Value := .int .i64 ((F (j / 2)).part (j % 2))
def arrG4 (F : Nat → Gau) : Array Value := ((List.range 8).map (g4C F)).toArray
theorem arrG4_size (F : Nat → Gau) : (arrG4 F).size = 8 := by simp [arrG4]
theorem arrG4_at (F : Nat → Gau) (i : Nat) (h : i < 8) : (arrG4 F)[i]? = some (g4C F i) := by
  rw [arrG4, List.getElem?_toArray, List.getElem?_map, List.getElem?_range h]
  rfl
theorem arrG4_one (F : Nat → Gau) : (arrG4 F).all (·.oneCell') = true := by
  rw [Array.all_eq_true_iff_forall_mem]
  intro v hv
  obtain ⟨i, _, rfl⟩ := List.mem_map.1 (List.mem_toArray.1 hv)
  rfl
theorem arrG4_congr {F G : Nat → Gau} (h : ∀ k, k < 4 → F k = G k) : arrG4 F = arrG4 G := by
  unfold arrG4
  congr 1
  exact List.map_congr_left fun j hj => by
    have := List.mem_range.1 hj
    unfold g4C
    rw [h (j / 2) (by omega)]
theorem infoG4 : (Try.prog.info? 24).map (·.size) = some 8 := by kernel_rfl
def ArrG4 (w : World) (b : Nat) (F : Nat → Gau) : Prop := w.rowIs b 24 8 (g4C F)
theorem ArrG4.below {w w' : World} {b : Nat} {F : Nat → Gau} (h : ArrG4 w b F) (hb : Below w.heap.size w w') : ArrG4 w' b F := rowIs_below h hb
theorem ArrG4.alloc {w : World} {b : Nat} {F : Nat → Gau} (h : ArrG4 w b F) (o : Obj) : ArrG4 (w.alloc o) b F := World.rowIs.alloc h o
theorem ArrG4.drew {w : World} {b : Nat} {F : Nat → Gau} (h : ArrG4 w b F) : ArrG4 w.drew b F := h
theorem ArrG4.lt {w : World} {b : Nat} {F : Nat → Gau} (h : ArrG4 w b F) : b < w.heap.size := World.rowIs.lt h
theorem ArrG4.congr {w : World} {b : Nat} {F G : Nat → Gau} (h : ArrG4 w b F) (e : ∀ k, k < 4 → F k = G k) : ArrG4 w b G := World.rowIs.congr h fun j hj => by
  unfold g4C
  rw [e (j / 2) (by omega)]
theorem ArrG4.part {w : World} {b : Nat} {F : Nat → Gau} (h : ArrG4 w b F) {k i : Nat} (hk : k < 4) (hi : i < 2) : w.cell? ⟨b, k * 2 + i, none⟩ = some (.int .i64 ((F k).part i)) := by
  rw [World.rowIs.cell h (by omega)]
  unfold g4C
  rw [show (k * 2 + i) / 2 = k by omega, show (k * 2 + i) % 2 = i by omega]
theorem ArrG4.cells {w : World} {b : Nat} {F : Nat → Gau} (h : ArrG4 w b F) {k : Nat} (hk : k < 4) :
    w.cell? ⟨b, k * 2, none⟩ = some (.int .i64 (F k).re) ∧ w.cell? ⟨b, k * 2 + 1, none⟩ = some (.int .i64 (F k).im) :=
  ⟨h.part hk (show 0 < 2 by decide), h.part hk (show 1 < 2 by decide)⟩
theorem ArrG4.frozen2 {w : World} {b : Nat} {F : Nat → Gau} (h : ArrG4 w b F) (k : Nat) : w.frozen? ⟨b, k * 2, none⟩ = false ∧ w.frozen? ⟨b, k * 2 + 1, none⟩ = false := ⟨World.rowIs.frozen h _, World.rowIs.frozen h _⟩
theorem ArrG4.other {w : World} {b c o : Nat} {F : Nat → Gau} (h : ArrG4 w b F) (hn : b ≠ c) (u0 u1 : Value) : ArrG4 ((w.setCell ⟨c, o, none⟩ u0).setCell ⟨c, o + 1, none⟩ u1) b F :=
  ((World.rowIs.setOther h (a := ⟨c, o, none⟩) hn u0).setOther (a := ⟨c, o + 1, none⟩) hn u1)
def setG4 (F : Nat → Gau) (k : Nat) (x : Gau) (j : Nat) : Gau := if j = k then x else F j
theorem ArrG4.put {w : World} {b : Nat} {F : Nat → Gau} (h : ArrG4 w b F) (k : Nat) (x : Gau) :
    ArrG4 ((w.setCell ⟨b, k * 2, none⟩ (.int .i64 x.re)).setCell ⟨b, k * 2 + 1, none⟩ (.int .i64 x.im)) b (setG4 F k x) := by
  refine ((World.rowIs.set h (k * 2) (.int .i64 x.re)).set (k * 2 + 1) (.int .i64 x.im)).congr fun j hj => ?_
  show (if j = k * 2 + 1 then Value.int .i64 x.im else if j = k * 2 then .int .i64 x.re else g4C F j) = g4C (setG4 F k x) j
  unfold g4C setG4
  have hd := Nat.div_add_mod j 2
  have hlt := Nat.mod_lt j (show 0 < 2 by decide)
  by_cases hk : j / 2 = k
  · rw [if_pos hk]
    obtain e | e : j % 2 = 0 ∨ j % 2 = 1 := by omega
    · rw [if_neg (by omega), if_pos (by omega), e]; rfl
    · rw [if_pos (by omega), e]; rfl
  · rw [if_neg hk, if_neg (by omega), if_neg (by omega)]
theorem ArrG4.at_alloc (w : World) (F : Nat → Gau) (b : Nat) (hb : b = w.heap.size) : ArrG4 (w.alloc (.cells (arrG4 F) 24)) b F := by
  subst hb
  have := World.rowIs_alloc w (arrG4 F) 24 (g4C F) (fun i hi => arrG4_at F i (by rwa [arrG4_size] at hi))
  rwa [arrG4_size] at this
theorem run_loadG4 {W : World} {b : Nat} {F : Nat → Gau} (hr : ArrG4 W b F) : (loadVar 24 ⟨b, 0, none⟩).run Try.prog W = .ok (.agg (arrG4 F)) W :=
  run_loadVar_mid (P := Try.prog) W b 0 24 ((List.range 8).map (g4C F)) _ (range_of_row hr) Try.underlying24 rfl (by rw [infoG4]; simp)
theorem wpList_loadG4 {ops : Array Oper} {rest : List Oper} {op : Oper} {a : Act} {w : World} {Q : Exit → Act → World → Prop} (hw : Region.wanted op (yielded ops a.tmps) = true) (x : Operand) (ho : op.op = .load 24 x)
    (b : Nat) (F : Nat → Gau) (hx : a.eval x = .pointer (some ⟨b, 0, none⟩)) (hr : ArrG4 w b F)
    (h : wpList Try.prog ops Q rest (a.put op.dst (.agg (arrG4 F))) w) : wpList Try.prog ops Q (op :: rest) a w :=
  wpList_step fun K hK => by
    rw [if_pos hw]
    exact wp_load_mid (P := Try.prog) 24 x ho b 0 hx ((List.range 8).map (g4C F)) _ (range_of_row hr) Try.underlying24 rfl (by rw [infoG4]; simp) (hK _ _ h)
theorem wpList_storeG4 {ops : Array Oper} {rest : List Oper} {op : Oper} {a : Act} {w : World} {Q : Exit → Act → World → Prop} (hgd : op.guard = none) (x y : Operand) (ho : op.op = .store 24 x y)
    (b : Nat) (F0 F : Nat → Gau) (hx : a.eval x = .pointer (some ⟨b, 0, none⟩)) (hy : a.eval y = .agg (arrG4 F)) (hb : ArrG4 w b F0)
    (h : ∀ W, ArrG4 W b F → Only b w W → wpList Try.prog ops Q rest (a.put op.dst undef) W) : wpList Try.prog ops Q (op :: rest) a w :=
  wpList_store_block hgd 24 x y ho b 24 8 (g4C F0) (g4C F) (arrG4 F) hx hy hb (arrG4_size F) infoG4 (arrG4_one F) (arrG4_at F) h
theorem exec_loadG4 {a : Act} {x : Operand} {d : Option Tmp} {ty : TypeId} {pos : String} {aft : Array Edge} {gd : Option (Nat × Bool)} {b : Nat} {F : Nat → Gau} {W : World} (hx : a.eval x = .pointer (some ⟨b, 0, none⟩)) (hr : ArrG4 W b F) :
    (execOp a.eval (⟨d, .load 24 x, ty, pos, aft, gd⟩ : Oper)).run Try.prog W = .ok (.value (.agg (arrG4 F))) W := by
  unfold execOp
  simp only [hx, Instr.loadAt, Instr.sureAddr, Sem.run_bind, Sem.run_pure, Result.andThen_ok, run_loadG4 hr]
theorem result2G4 {fn : Func} {p q : Tmp} {b : Nat} {F : Nat → Gau} {e : Value} {W : World} (h : fn.results = #[.cell p 24, .tmp q]) (tmps : Array Value) (ht : tmps.getD p undef = .pointer (some ⟨b, 0, none⟩)) (he : tmps.getD q undef = e) (hr : ArrG4 W b F) :
    (results fn tmps).run Try.prog W = .ok (.tuple #[.agg (arrG4 F), e]) W := by
  rw [results_cell2 h, ht, he]
  simp only [asAddr, Sem.run_pure, Result.andThen, run_loadG4 hr]
theorem result1G4 {fn : Func} {p : Tmp} {b : Nat} {F : Nat → Gau} {W : World} (h : fn.results = #[.cell p 24]) (tmps : Array Value) (ht : tmps.getD p undef = .pointer (some ⟨b, 0, none⟩)) (hr : ArrG4 W b F) :
    (results fn tmps).run Try.prog W = .ok (.agg (arrG4 F)) W := by
  rw [results_cellA h, ht]
  simp only [asAddr, Sem.run_pure, Result.andThen, run_loadG4 hr]
theorem arrG4_el (F : Nat → Gau) (k : Nat) (hk : k < 4) : (arrG4 F).extract (k * 2) (k * 2 + 2) = #[.int .i64 (F k).re, .int .i64 (F k).im] := by
  obtain rfl | rfl | rfl | rfl : k = 0 ∨ k = 1 ∨ k = 2 ∨ k = 3 := by omega
  all_goals rfl
set_option maxRecDepth 100000 in
theorem equal_elG4 (x0 x1 : Int) (w : World) : (Op.equalIn 9999 23 (.agg #[.int .i64 x0, .int .i64 x1]) (.agg #[.int .i64 x0, .int .i64 x1])).run Try.prog w = .ok true w := by
  go_simp
theorem cells_elG4 : Try.prog.cellsOf 23 = 2 := by kernel_rfl
theorem equalG4_same (F : Nat → Gau) (w : World) : (Op.equalIn 10000 24 (.agg (arrG4 F)) (.agg (arrG4 F))).run Try.prog w = .ok true w := by
  obtain ⟨i0, hi, hz0, hz1, hz2⟩ := info_parts gauInfo
  have h := run_equalIn_array (P := Try.prog) (w := w) 9999 (n := 4) (arrG4 F) (arrG4 F) Try.underlying24 hi
  refine h.trans ?_
  rw [cells_elG4]
  have e : ∀ (is : List Nat), (∀ k ∈ is, k < 4) → (Op.eqItems 9999 23 2 (arrG4 F) (arrG4 F) is).run Try.prog w = .ok true w := by
    intro is
    induction is with
    | nil => intro _; simp [Op.eqItems]
    | cons k is ih =>
      intro hk
      have h4 := arrG4_el F k (hk k (by simp))
      have ih := ih fun q hq => hk q (by simp [hq])
      simp only [Op.eqItems, Sem.run_bind]
      simp [go_sem, h4, ih, equal_elG4]
  exact e _ fun k hk => List.mem_range.1 hk
theorem zeroG4 : arrG4 (fun _ => Gau.zero) = #[.int .i64 0, .int .i64 0, .int .i64 0, .int .i64 0, .int .i64 0, .int .i64 0, .int .i64 0, .int .i64 0] := rfl
theorem equalG4_zero (W : World) : (Op.equalIn 10000 24 (.agg (arrG4 fun _ => Gau.zero)) (.agg #[.int .i64 0, .int .i64 0, .int .i64 0, .int .i64 0, .int .i64 0, .int .i64 0, .int .i64 0, .int .i64 0])).run Try.prog W = .ok true W := equalG4_same (fun _ => Gau.zero) W
theorem run_indexG4 (F : Nat → Gau) (k : Nat) (w : World) (hk : k < 4) : (Instr.index 24 (.agg (arrG4 F)) (.int .i64 (k : Int))).run Try.prog w = .ok (.agg #[.int .i64 (F k).re, .int .i64 (F k).im]) w := by
  have h1 : (k : Int) < 4 := by omega
  have h2 : (0 : Int) ≤ (k : Int) := by omega
  have h3 := arrG4_el F k hk
  have h4 := cells_elG4
  simp [Instr.index, run_underlying Try.underlying24, asIntOf, go_sem, h1, h2, h3, h4, arrG4_size]
  intro h; omega
theorem wpList_indexG4 {ops : Array Oper} {rest : List Oper} {o : Oper} {a : Act} {w : World} {Q : Exit → Act → World → Prop} (hgd : o.guard = none) (s i : Operand) (ho : o.op = .index 24 s i)
    (F : Nat → Gau) (k : Nat) (hs : a.eval s = .agg (arrG4 F)) (hi : a.eval i = .int .i64 (k : Int)) (hk : k < 4)
    (h : wpList Try.prog ops Q rest (a.put o.dst (.agg #[.int .i64 (F k).re, .int .i64 (F k).im])) w) : wpList Try.prog ops Q (o :: rest) a w :=
  wpList_plain hgd fun _ hK => by
    unfold Oper.wp execOp
    simp only [ho, hs, hi, Sem.run_bind, Sem.run_pure, Result.andThen_ok, run_indexG4 F k w hk]
    exact hK _ _ h
theorem ArrG4.slice {w : World} {b : Nat} {F : Nat → Gau} (h : ArrG4 w b F) : GausAt w 0 (some ⟨b, 0, none⟩) 4 F := fun i hi => by
  obtain ⟨k0, k1⟩ := h.cells hi
  exact ⟨b, 0, rfl, Nat.zero_le _, h.lt, by simpa using k0, by simpa using k1⟩
end Go.Proofs.Ytibdbopejnkefaa
