/- Lemmas: Am, An. -/
import Derived.Test.YtfemghbjngemlaaBk07
import Derived.Test.YtfemghbjngemlaaBk08
import Derived.Test.YtfemghbjngemlaaPaW
set_option linter.unusedVariables false
set_option linter.unusedSimpArgs false
/- Arrays [8]api.Gauss as values and in blocks. -/
namespace Go.Proofs.Ytfemghbjngemlaa
open Go.RowKit Go.Great
def g8C (F : Nat → Gau) (j : Nat) : Value := .int .i64 ((F (j / 2)).part (j % 2))
def arrG8 (F : Nat → Gau) : Array Value := ((List.range 16).map (g8C F)).toArray
theorem arrG8_size (F : Nat → Gau) : (arrG8 F).size = 16 := by simp [arrG8]
theorem arrG8_at (F : Nat → Gau) (i : Nat) (h : i < 16) : (arrG8 F)[i]? = some (g8C F i) := by
  rw [arrG8, List.getElem?_toArray, List.getElem?_map, List.getElem?_range h]
  rfl
theorem arrG8_one (F : Nat → Gau) : (arrG8 F).all (·.oneCell') = true := by
  rw [Array.all_eq_true_iff_forall_mem]
  intro v hv
  obtain ⟨i, _, rfl⟩ := List.mem_map.1 (List.mem_toArray.1 hv)
  rfl
theorem arrG8_congr {F G : Nat → Gau} (h : ∀ k, k < 8 → F k = G k) : arrG8 F = arrG8 G := by
  unfold arrG8
  congr 1
  exact List.map_congr_left fun j hj => by
    have := List.mem_range.1 hj
    unfold g8C
    rw [h (j / 2) (by omega)]
theorem infoG8 : (Try.prog.info? 24).map (·.size) = some 16 := by kernel_rfl
def ArrG8 (w : World) (b : Nat) (F : Nat → Gau) : Prop := w.rowIs b 24 16 (g8C F)
theorem ArrG8.below {w w' : World} {b : Nat} {F : Nat → Gau} (h : ArrG8 w b F) (hb : Below w.heap.size w w') : ArrG8 w' b F := rowIs_below h hb
theorem ArrG8.alloc {w : World} {b : Nat} {F : Nat → Gau} (h : ArrG8 w b F) (o : Obj) : ArrG8 (w.alloc o) b F := World.rowIs.alloc h o
theorem ArrG8.drew {w : World} {b : Nat} {F : Nat → Gau} (h : ArrG8 w b F) : ArrG8 w.drew b F := h
theorem ArrG8.lt {w : World} {b : Nat} {F : Nat → Gau} (h : ArrG8 w b F) : b < w.heap.size := World.rowIs.lt h
theorem ArrG8.congr {w : World} {b : Nat} {F G : Nat → Gau} (h : ArrG8 w b F) (e : ∀ k, k < 8 → F k = G k) : ArrG8 w b G := World.rowIs.congr h fun j hj => by
  unfold g8C
  rw [e (j / 2) (by omega)]
theorem ArrG8.part {w : World} {b : Nat} {F : Nat → Gau} (h : ArrG8 w b F) {k i : Nat} (hk : k < 8) (hi : i < 2) : w.cell? ⟨b, k * 2 + i, none⟩ = some (.int .i64 ((F k).part i)) := by
  rw [World.rowIs.cell h (by omega)]
  unfold g8C
  rw [show (k * 2 + i) / 2 = k by omega, show (k * 2 + i) % 2 = i by omega]
theorem ArrG8.cells {w : World} {b : Nat} {F : Nat → Gau} (h : ArrG8 w b F) {k : Nat} (hk : k < 8) :
    w.cell? ⟨b, k * 2, none⟩ = some (.int .i64 (F k).re) ∧ w.cell? ⟨b, k * 2 + 1, none⟩ = some (.int .i64 (F k).im) :=
  ⟨h.part hk (show 0 < 2 by decide), h.part hk (show 1 < 2 by decide)⟩
theorem ArrG8.frozen2 {w : World} {b : Nat} {F : Nat → Gau} (h : ArrG8 w b F) (k : Nat) : w.frozen? ⟨b, k * 2, none⟩ = false ∧ w.frozen? ⟨b, k * 2 + 1, none⟩ = false := ⟨World.rowIs.frozen h _, World.rowIs.frozen h _⟩
theorem ArrG8.other {w : World} {b c o : Nat} {F : Nat → Gau} (h : ArrG8 w b F) (hn : b ≠ c) (u0 u1 : Value) : ArrG8 ((w.setCell ⟨c, o, none⟩ u0).setCell ⟨c, o + 1, none⟩ u1) b F :=
  ((World.rowIs.setOther h (a := ⟨c, o, none⟩) hn u0).setOther (a := ⟨c, o + 1, none⟩) hn u1)
def setG8 (F : Nat → Gau) (k : Nat) (x : Gau) (j : Nat) : Gau := if j = k then x else F j
theorem ArrG8.put {w : World} {b : Nat} {F : Nat → Gau} (h : ArrG8 w b F) (k : Nat) (x : Gau) :
    ArrG8 ((w.setCell ⟨b, k * 2, none⟩ (.int .i64 x.re)).setCell ⟨b, k * 2 + 1, none⟩ (.int .i64 x.im)) b (setG8 F k x) := by
  refine ((World.rowIs.set h (k * 2) (.int .i64 x.re)).set (k * 2 + 1) (.int .i64 x.im)).congr fun j hj => ?_
  show (if j = k * 2 + 1 then Value.int .i64 x.im else if j = k * 2 then .int .i64 x.re else g8C F j) = g8C (setG8 F k x) j
  unfold g8C setG8
  have hd := Nat.div_add_mod j 2
  have hlt := Nat.mod_lt j (show 0 < 2 by decide)
  by_cases hk : j / 2 = k
  · rw [if_pos hk]
    obtain e | e : j % 2 = 0 ∨ j % 2 = 1 := by omega
    · rw [if_neg (by omega), if_pos (by omega), e]; rfl
    · rw [if_pos (by omega), e]; rfl
  · rw [if_neg hk, if_neg (by omega), if_neg (by omega)]
theorem ArrG8.at_alloc (w : World) (F : Nat → Gau) (b : Nat) (hb : b = w.heap.size) : ArrG8 (w.alloc (.cells (arrG8 F) 24)) b F := by
  subst hb
  have := World.rowIs_alloc w (arrG8 F) 24 (g8C F) (fun i hi => arrG8_at F i (by rwa [arrG8_size] at hi))
  rwa [arrG8_size] at this
theorem run_loadG8 {W : World} {b : Nat} {F : Nat → Gau} (hr : ArrG8 W b F) : (loadVar 24 ⟨b, 0, none⟩).run Try.prog W = .ok (.agg (arrG8 F)) W :=
  run_loadVar_mid (P := Try.prog) W b 0 24 ((List.range 16).map (g8C F)) _ (range_of_row hr) Try.underlying24 rfl (by rw [infoG8]; simp)
theorem wpList_loadG8 {ops : Array Oper} {rest : List Oper} {op : Oper} {a : Act} {w : World} {Q : Exit → Act → World → Prop} (hw : Region.wanted op (yielded ops a.tmps) = true) (x : Operand) (ho : op.op = .load 24 x)
    (b : Nat) (F : Nat → Gau) (hx : a.eval x = .pointer (some ⟨b, 0, none⟩)) (hr : ArrG8 w b F)
    (h : wpList Try.prog ops Q rest (a.put op.dst (.agg (arrG8 F))) w) : wpList Try.prog ops Q (op :: rest) a w :=
  wpList_step fun K hK => by
    rw [if_pos hw]
    exact wp_load_mid (P := Try.prog) 24 x ho b 0 hx ((List.range 16).map (g8C F)) _ (range_of_row hr) Try.underlying24 rfl (by rw [infoG8]; simp) (hK _ _ h)
theorem wpList_storeG8 {ops : Array Oper} {rest : List Oper} {op : Oper} {a : Act} {w : World} {Q : Exit → Act → World → Prop} (hgd : op.guard = none) (x y : Operand) (ho : op.op = .store 24 x y)
    (b : Nat) (F0 F : Nat → Gau) (hx : a.eval x = .pointer (some ⟨b, 0, none⟩)) (hy : a.eval y = .agg (arrG8 F)) (hb : ArrG8 w b F0)
    (h : ∀ W, ArrG8 W b F → Only b w W → wpList Try.prog ops Q rest (a.put op.dst undef) W) : wpList Try.prog ops Q (op :: rest) a w :=
  wpList_store_block hgd 24 x y ho b 24 16 (g8C F0) (g8C F) (arrG8 F) hx hy hb (arrG8_size F) infoG8 (arrG8_one F) (arrG8_at F) h
theorem exec_loadG8 {a : Act} {x : Operand} {d : Option Tmp} {ty : TypeId} {pos : String} {aft : Array Edge} {gd : Option (Nat × Bool)} {b : Nat} {F : Nat → Gau} {W : World} (hx : a.eval x = .pointer (some ⟨b, 0, none⟩)) (hr : ArrG8 W b F) :
    (execOp a.eval (⟨d, .load 24 x, ty, pos, aft, gd⟩ : Oper)).run Try.prog W = .ok (.value (.agg (arrG8 F))) W := by
  unfold execOp
  simp only [hx, Instr.loadAt, Instr.sureAddr, Sem.run_bind, Sem.run_pure, Result.andThen_ok, run_loadG8 hr]
theorem result2G8 {fn : Func} {p q : Tmp} {b : Nat} {F : Nat → Gau} {e : Value} {W : World} (h : fn.results = #[.cell p 24, .tmp q]) (tmps : Array Value) (ht : tmps.getD p undef = .pointer (some ⟨b, 0, none⟩)) (he : tmps.getD q undef = e) (hr : ArrG8 W b F) :
    (results fn tmps).run Try.prog W = .ok (.tuple #[.agg (arrG8 F), e]) W := by
  rw [results_cell2 h, ht, he]
  simp only [asAddr, Sem.run_pure, Result.andThen, run_loadG8 hr]
theorem result1G8 {fn : Func} {p : Tmp} {b : Nat} {F : Nat → Gau} {W : World} (h : fn.results = #[.cell p 24]) (tmps : Array Value) (ht : tmps.getD p undef = .pointer (some ⟨b, 0, none⟩)) (hr : ArrG8 W b F) :
    (results fn tmps).run Try.prog W = .ok (.agg (arrG8 F)) W := by
  rw [results_cellA h, ht]
  simp only [asAddr, Sem.run_pure, Result.andThen, run_loadG8 hr]
theorem arrG8_el (F : Nat → Gau) (k : Nat) (hk : k < 8) : (arrG8 F).extract (k * 2) (k * 2 + 2) = #[.int .i64 (F k).re, .int .i64 (F k).im] := by
  obtain rfl | rfl | rfl | rfl | rfl | rfl | rfl | rfl : k = 0 ∨ k = 1 ∨ k = 2 ∨ k = 3 ∨ k = 4 ∨ k = 5 ∨ k = 6 ∨ k = 7 := by omega
  all_goals rfl
set_option maxRecDepth 100000 in
theorem equal_elG8 (x0 x1 : Int) (w : World) : (Op.equalIn 9999 23 (.agg #[.int .i64 x0, .int .i64 x1]) (.agg #[.int .i64 x0, .int .i64 x1])).run Try.prog w = .ok true w := by
  go_simp
theorem cells_elG8 : Try.prog.cellsOf 23 = 2 := by kernel_rfl
theorem equalG8_same (F : Nat → Gau) (w : World) : (Op.equalIn 10000 24 (.agg (arrG8 F)) (.agg (arrG8 F))).run Try.prog w = .ok true w := by
  obtain ⟨i0, hi, hz0, hz1, hz2⟩ := info_parts gauInfo
  have h := run_equalIn_array (P := Try.prog) (w := w) 9999 (n := 8) (arrG8 F) (arrG8 F) Try.underlying24 hi
  refine h.trans ?_
  rw [cells_elG8]
  have e : ∀ (is : List Nat), (∀ k ∈ is, k < 8) → (Op.eqItems 9999 23 2 (arrG8 F) (arrG8 F) is).run Try.prog w = .ok true w := by
    intro is
    induction is with
    | nil => intro _; simp [Op.eqItems]
    | cons k is ih =>
      intro hk
      have h4 := arrG8_el F k (hk k (by simp))
      have ih := ih fun q hq => hk q (by simp [hq])
      simp only [Op.eqItems, Sem.run_bind]
      simp [go_sem, h4, ih, equal_elG8]
  exact e _ fun k hk => List.mem_range.1 hk
theorem zeroG8 : arrG8 (fun _ => Gau.zero) = #[.int .i64 0, .int .i64 0, .int .i64 0, .int .i64 0, .int .i64 0, .int .i64 0, .int .i64 0, .int .i64 0, .int .i64 0, .int .i64 0, .int .i64 0, .int .i64 0, .int .i64 0, .int .i64 0, .int .i64 0, .int .i64 0] := rfl
theorem equalG8_zero (W : World) : (Op.equalIn 10000 24 (.agg (arrG8 fun _ => Gau.zero)) (.agg #[.int .i64 0, .int .i64 0, .int .i64 0, .int .i64 0, .int .i64 0, .int .i64 0, .int .i64 0, .int .i64 0, .int .i64 0, .int .i64 0, .int .i64 0, .int .i64 0, .int .i64 0, .int .i64 0, .int .i64 0, .int .i64 0])).run Try.prog W = .ok true W := equalG8_same (fun _ => Gau.zero) W
theorem run_indexG8 (F : Nat → Gau) (k : Nat) (w : World) (hk : k < 8) : (Instr.index 24 (.agg (arrG8 F)) (.int .i64 (k : Int))).run Try.prog w = .ok (.agg #[.int .i64 (F k).re, .int .i64 (F k).im]) w := by
  have h1 : (k : Int) < 8 := by omega
  have h2 : (0 : Int) ≤ (k : Int) := by omega
  have h3 := arrG8_el F k hk
  have h4 := cells_elG8
  simp [Instr.index, run_underlying Try.underlying24, asIntOf, go_sem, h1, h2, h3, h4, arrG8_size]
  intro h; omega
theorem wpList_indexG8 {ops : Array Oper} {rest : List Oper} {o : Oper} {a : Act} {w : World} {Q : Exit → Act → World → Prop} (hgd : o.guard = none) (s i : Operand) (ho : o.op = .index 24 s i)
    (F : Nat → Gau) (k : Nat) (hs : a.eval s = .agg (arrG8 F)) (hi : a.eval i = .int .i64 (k : Int)) (hk : k < 8)
    (h : wpList Try.prog ops Q rest (a.put o.dst (.agg #[.int .i64 (F k).re, .int .i64 (F k).im])) w) : wpList Try.prog ops Q (o :: rest) a w :=
  wpList_plain hgd fun _ hK => by
    unfold Oper.wp execOp
    simp only [ho, hs, hi, Sem.run_bind, Sem.run_pure, Result.andThen_ok, run_indexG8 F k w hk]
    exact hK _ _ h
theorem ArrG8.slice {w : World} {b : Nat} {F : Nat → Gau} (h : ArrG8 w b F) : GausAt w 0 (some ⟨b, 0, none⟩) 8 F := fun i hi => by
  obtain ⟨k0, k1⟩ := h.cells hi
  exact ⟨b, 0, rfl, Nat.zero_le _, h.lt, by simpa using k0, by simpa using k1⟩
theorem ArrG8.other4 {w : World} {b c o : Nat} {F : Nat → Gau} (h : ArrG8 w b F) (hn : b ≠ c) (u0 u1 u2 u3 : Value) : ArrG8 ((((w.setCell ⟨c, o, none⟩ u0).setCell ⟨c, o + 1, none⟩ u1).setCell ⟨c, o + 2, none⟩ u2).setCell ⟨c, o + 3, none⟩ u3) b F :=
  (((World.rowIs.setOther h (a := ⟨c, o, none⟩) hn u0).setOther (a := ⟨c, o + 1, none⟩) hn u1).setOther (a := ⟨c, o + 2, none⟩) hn u2).setOther (a := ⟨c, o + 3, none⟩) hn u3
theorem cells_el8 : Try.prog.cellsOf 26 = 4 := by kernel_rfl
theorem run_index8 (F : Nat → Num) (k : Nat) (w : World) (hk : k < 8) : (Instr.index 27 (.agg (arr8 F)) (.int .i64 (k : Int))).run Try.prog w = .ok (.agg #[.int .i64 (F k).a, .int .i64 (F k).b, .int .i64 (F k).c, .int .i64 (F k).d]) w := by
  have h1 : (k : Int) < 8 := by omega
  have h2 : (0 : Int) ≤ (k : Int) := by omega
  have h3 := arr8_four F k hk
  have h4 := cells_el8
  simp [Instr.index, run_underlying Try.underlying27, asIntOf, go_sem, h1, h2, h3, h4, arr8_size]
  intro h; omega
theorem wpList_index8 {ops : Array Oper} {rest : List Oper} {o : Oper} {a : Act} {w : World} {Q : Exit → Act → World → Prop} (hgd : o.guard = none) (s i : Operand) (ho : o.op = .index 27 s i)
    (F : Nat → Num) (k : Nat) (hs : a.eval s = .agg (arr8 F)) (hi : a.eval i = .int .i64 (k : Int)) (hk : k < 8)
    (h : wpList Try.prog ops Q rest (a.put o.dst (.agg #[.int .i64 (F k).a, .int .i64 (F k).b, .int .i64 (F k).c, .int .i64 (F k).d])) w) : wpList Try.prog ops Q (o :: rest) a w :=
  wpList_plain hgd fun _ hK => by
    unfold Oper.wp execOp
    simp only [ho, hs, hi, Sem.run_bind, Sem.run_pure, Result.andThen_ok, run_index8 F k w hk]
    exact hK _ _ h
theorem ArrNums.slice {w : World} {b : Nat} {F : Nat → Num} (h : ArrNums w b F) : NumsAt w 0 (some ⟨b, 0, none⟩) 8 F := fun i hi => by
  obtain ⟨k0, k1, k2, k3⟩ := h.cells hi
  exact ⟨b, 0, rfl, Nat.zero_le _, h.lt, by simpa using k0, by simpa using k1, by simpa using k2, by simpa using k3⟩
theorem result1n {fn : Func} {p : Tmp} {b : Nat} {F : Nat → Num} {W : World} (h : fn.results = #[.cell p 27]) (tmps : Array Value) (ht : tmps.getD p undef = .pointer (some ⟨b, 0, none⟩)) (hr : ArrNums W b F) :
    (results fn tmps).run Try.prog W = .ok (.agg (arr8 F)) W := result8s h tmps ht hr
end Go.Proofs.Ytfemghbjngemlaa
/- turnedSums of the code. -/
namespace Go.Proofs.Ytfemghbjngemlaa
open Go.RowKit Go.Great
theorem tz_within {x : Num} {M : Int} (h : x.Within M) (k : Int) : (tz x k).Within M := h.turns _
theorem gN_within {x : Gau} {M : Int} (h : x.Within M) : (gN x.re x.im).Within M := by
  have h0 : 0 ≤ M := by have := h.re; omega
  exact ⟨h.re, ⟨by show -M ≤ 0; omega, h0⟩, h.im, ⟨by show -M ≤ 0; omega, h0⟩⟩
set_option maxHeartbeats 8000000 in
set_option maxRecDepth 100000 in
theorem turnedSums_any (X : Nat → Num) (st : Int) (hst : -1 ≤ st ∧ st ≤ 1) (hX : ∀ n, n < 8 → (X n).Within 1000000000) (w : World) :
    Calls Try.prog 49 #[.agg (arr8 X), .int .i64 st] w fun e w' => e = .returned (.agg (arr8 fun k => sumF ((fun (k n : Nat) => tz (X n) (st * (k : Int) * (n : Int)) : Nat → Nat → Num) k) 8)) ∧ Below w.heap.size w w' := by
  obtain ⟨Z, hZd⟩ : ∃ Z : Nat → Nat → Num, Z = fun (k n : Nat) => tz (X n) (st * (k : Int) * (n : Int)) := ⟨_, rfl⟩
  have HXW := hide hX
  have HZW := hide (fun k i (hi : i < 8) => (show (Z k i).Within 1000000000 from by rw [hZd]; exact tz_within (HXW.out i hi) _))
  have HZE := hide (fun (k j : Nat) => (show Z k j = (X j).turns ((st * (k : Int) * (j : Int)) % 8).toNat from by rw [hZd]; rfl))
  rw [← hZd]
  clear hZd hX
  go_enter Try.func49, Try.ntmps49
  go_upto_region 1 with (first
    | (refine wpList_boxTo rfl 27 (.tmp 0) rfl _ rfl w.heap.size rfl (arr8 X) rfl ?_; obtain ⟨W0, hW0⟩ : ∃ q : World, q = w.alloc (.cells (arr8 X) 27) := ⟨_, rfl⟩; rw [← hW0])
    | (refine wpList_allocTo rfl (some 4) rfl (.pointer (some ⟨W0.heap.size, 0, none⟩)) (.cells (arr8 fun _ => Num.zero) 27) (by kernel_rfl) ?_))
  have x0 : ArrNums W0 w.heap.size X := by rw [hW0]; exact arrNums_alloc w _ _ rfl
  have hB0 : Below w.heap.size w W0 := by rw [hW0]; (repeat (first | (with_reducible exact Below.refl _ _) | (with_reducible refine Go.below_drewN ?_ _) | (with_reducible refine Below.drew ?_) | (with_reducible refine Below.alloc ?_ (by first | exact Nat.le_refl _ | (simp; done) | (simp; omega) | omega) _) | (with_reducible refine Below.setCell ?_ (by first | exact Nat.le_refl _ | (simp; done) | (simp; omega) | omega) _)))
  have hs0 : w.heap.size < W0.heap.size := by rw [hW0]; simp
  clear hW0
  obtain ⟨b0, hb0⟩ : ∃ g, w.heap.size = g := ⟨_, rfl⟩
  obtain ⟨b1, hb1⟩ : ∃ g, W0.heap.size = g := ⟨_, rfl⟩
  obtain ⟨W1, hW1⟩ : ∃ q : World, q = W0.alloc (.cells (arr8 fun _ => Num.zero) 27) := ⟨_, rfl⟩
  rw [← hW1]
  have r1 : ArrNums W1 b1 (fun _ => Num.zero) := by rw [hW1]; exact arrNums_alloc W0 _ _ hb1.symm
  have x1 : ArrNums W1 b0 X := by rw [hW1, ← hb0]; exact x0.alloc _
  have hB1 : Below b0 w W1 := by rw [hW1, ← hb0]; exact hB0.alloc hB0.size _
  have hs1 : b1 < W1.heap.size := by rw [hW1, ← hb1]; simp
  have h01 : b0 ≠ b1 := by omega
  have h01' : b0 ≤ b1 := by omega
  skip
  clear hW1 x0 hB0
  go_upto_region 2 with (refine wpList_allocTo rfl (some 5) rfl (.pointer (some ⟨W1.heap.size, 0, none⟩)) (.cells (arr8 fun _ => Num.zero) 27) (by kernel_rfl) ?_)
  obtain ⟨W3, hW3⟩ : ∃ q : World, q = W1.alloc (.cells (arr8 fun _ => Num.zero) 27) := ⟨_, rfl⟩
  rw [← hW3]
  obtain ⟨b5, hb5⟩ : ∃ g, W1.heap.size = g := ⟨_, rfl⟩
  have a3 : ArrNums W3 b5 (fun _ => Num.zero) := by rw [hW3]; exact arrNums_alloc W1 _ _ hb5.symm
  replace r1 : ArrNums W3 b1 (fun _ => Num.zero) := by rw [hW3]; exact r1.alloc _
  replace x1 : ArrNums W3 b0 X := by rw [hW3]; exact x1.alloc _
  have hB3 : Below b0 w W3 := by rw [hW3]; exact hB1.alloc (by omega) _
  have hw5 : b0 ≤ b5 := by omega
  have hz5 : b1 ≠ b5 := by omega
  have hx5 : b0 ≠ b5 := by omega
  have HW0 := hide hb0
  clear hW3 hB1 hs0 hs1
  go_wp2_with fail
  go_loopw [9] (fun i wr => ∃ k : Nat, k ≤ 8 ∧ i = .int .i64 (k : Int) ∧ ArrNums wr b1 (fun _ => Num.zero) ∧ ArrNums wr b0 X ∧ ArrNums wr b5 (fun q => if q < k then sumF (Z q) 8 else Num.zero) ∧ Below b0 w wr) (fun i _ => 8 - (Go.RowKit.intOf i).toNat)
  case atStart => exact ⟨0, by decide, rfl, r1, x1, a3.congr fun q _ => by rw [if_neg (Nat.not_lt_zero q)], hB3⟩
  case round =>
    clear r1 a3 hB3 x1
    obtain ⟨k, hk, rfl, hZ, hXA, hA, hB⟩ := hrel
    obtain ⟨wA, rfl⟩ : ∃ q : World, q = wr := ⟨_, rfl⟩
    by_cases hk8 : k < 8
    · have hk8z : (k : Int) < 8 := by omega
      have HXA := hide hXA
      go_wp2_with (refine wpList_load8G rfl (.tmp 2) rfl b0 X rfl HXA.out ?_)
      clear HXA
      obtain ⟨E, hE⟩ : ∃ E : Nat → Num, E = fun q => if q < k then sumF (Z q) 8 else Num.zero := ⟨_, rfl⟩
      have HE := hide hE
      rw [← hE] at hA
      clear hE
      go_loopw [13] (fun x wr => ∃ j : Nat, j ≤ 8 ∧ x = .int .i64 (j : Int) ∧ ArrNums wr b1 (fun _ => Num.zero) ∧ ArrNums wr b0 X ∧ ArrNums wr b5 (setNum E k (sumF (Z k) j)) ∧ Below b0 w wr) (fun x _ => 8 - (Go.RowKit.intOf x).toNat)
      case atStart =>
        refine ⟨0, Nat.zero_le _, rfl, hZ, hXA, hA.congr fun q _ => ?_, hB⟩
        show E q = if q = k then Num.zero else E q
        by_cases e : q = k
        · rw [if_pos e, HE.out]
          show (if q < k then _ else Num.zero) = _
          rw [if_neg (by omega)]
        · rw [if_neg e]
      case round =>
        clear hZ hA hB hXA
        obtain ⟨j, hj, rfl, hZ, hXA, hA, hB⟩ := hrel
        obtain ⟨wB, rfl⟩ : ∃ q : World, q = wr := ⟨_, rfl⟩
        by_cases hjn : j < 8
        · have hjz : (j : Int) < 8 := by omega
          obtain ⟨s, hs⟩ : ∃ s, s = sumF (Z k) j := ⟨_, rfl⟩
          have hsw : s.Within 8000000000 := by rw [hs]; exact (sumF_within fun i hi => HZW.out k i (by omega)).more (by omega)
          rw [← hs] at hA
          have HEE := hide (show ∀ q, q < 8 → setNum (setNum E k s) k (sumF (Z k) (j + 1)) q = setNum E k (sumF (Z k) (j + 1)) q from fun q _ => by
            show (if q = k then _ else if q = k then s else E q) = if q = k then _ else E q
            by_cases e : q = k
            · rw [if_pos e, if_pos e]
            · rw [if_neg e, if_neg e, if_neg e])
          have HTT := hide (show sumF (Z k) (j + 1) = s.add (Z k j) from by rw [hs]; rfl)
          have HSF := hide (show setNum E k s k = s from if_pos rfl)
          have hr1 := mul_within (M := 1) (N := 7) (a := st) (b := (k : Int)) hst (by omega)
          have q1 : IntKind.i64.wrap (st * (k : Int)) = st * (k : Int) := IntWalk.i64_in _ (by omega)
          have hr := mul_within (M := 7) (N := 7) (a := st * (k : Int)) (b := (j : Int)) (by omega) (by omega)
          obtain ⟨e, he⟩ : ∃ e, e = st * (k : Int) * (j : Int) := ⟨_, rfl⟩
          have hze := HZE.out k j
          rw [← he] at hr hze
          have q2 : IntKind.i64.wrap (st * (k : Int) * (j : Int)) = e := by rw [IntWalk.i64_in _ (by omega), he]
          have hux := HZW.out k j hjn
          have hxw := HXW.out j hjn
          obtain ⟨x, hx⟩ : ∃ q, q = X j := ⟨_, rfl⟩
          rw [← hx] at hxw hze
          have HTU := hide (fun W => turned_any x e W (hxw.more (by decide)))
          obtain ⟨u, hu⟩ : ∃ u, u = Z k j := ⟨_, rfl⟩
          rw [← hu] at hux HTT hze
          rw [← hze] at HTU
          have HSU := hide (sum_two s u)
          have HSB := hide (fun k (hk : k ≤ 2) => (show (sumF (fun i => if i = 0 then s else u) k).Within 10000000000 from by
            match k, hk with
            | 0, _ =>
              show Num.zero.Within 10000000000
              exact ⟨⟨by decide, by decide⟩, ⟨by decide, by decide⟩, ⟨by decide, by decide⟩, ⟨by decide, by decide⟩⟩
            | 1, _ =>
              have e : sumF (fun i => if i = 0 then s else u) 1 = s := by apply Num.same <;> simp [sumF, Num.add, Num.zero]
              rw [e]; exact hsw.more (by decide)
            | 2, _ => rw [sum_two]; exact (hsw.add hux).more (by decide)))
          obtain ⟨tt, htt⟩ : ∃ tt, tt = s.add u := ⟨_, rfl⟩
          rw [← htt] at HTT HSU
          rw [HTT.out] at HEE
          clear hs hu htt he hr hsw hux hxw hze hr1
          go_upto_region 8 with (refine wpList_index8 rfl (.tmp 12) (.tmp 13) rfl X j rfl rfl hjn ?_)
          simp only [← hx]
          obtain ⟨W1, hW1⟩ : ∃ q : World, q = wB.alloc (.cells #[.int .i64 x.a, .int .i64 x.b, .int .i64 x.c, .int .i64 x.d] 26) := ⟨_, rfl⟩
          rw [← hW1]
          obtain ⟨g8, hg8⟩ : ∃ g, wB.heap.size = g := ⟨_, rfl⟩
          have b8 : Box W1 g8 26 #[.int .i64 x.a, .int .i64 x.b, .int .i64 x.c, .int .i64 x.d] := by rw [hW1]; exact Box.made hg8.symm
          have hg5 : g8 ≠ b5 := by have := hA.lt; omega
          replace hA : ArrNums W1 b5 (setNum E k s) := by rw [hW1]; exact hA.alloc _
          replace hZ : ArrNums W1 b1 (fun _ => Num.zero) := by rw [hW1]; exact hZ.alloc _
          replace hXA : ArrNums W1 b0 X := by rw [hW1]; exact hXA.alloc _
          have hB1 : Below b0 w W1 := by rw [hW1]; exact hB.alloc (by have := hXA.lt; have := hB.size; omega) _
          clear hW1 hB hx
          obtain ⟨z0, z1, z2, z3⟩ := hA.cells hk8
          rw [HSF.out] at z0 z1 z2 z3
          obtain ⟨f0, f1, f2, f3⟩ := hA.frozen4 k
          have e0 := b8.at_ 0
          have e1 := b8.at_ 1
          have e2 := b8.at_ 2
          have e3 := b8.at_ 3
          simp only [List.getElem?_toArray] at e0 e1 e2 e3
          refine wp_region_held_drew (S := fun w' => w'.cell? ⟨g8, 0, none⟩ = some (.int .i64 x.a) ∧ w'.cell? ⟨g8, 1, none⟩ = some (.int .i64 x.b) ∧ w'.cell? ⟨g8, 2, none⟩ = some (.int .i64 x.c) ∧ w'.cell? ⟨g8, 3, none⟩ = some (.int .i64 x.d)) (by kernel_rfl) ⟨e0, e1, e2, e3⟩ (fun hHeld => ?_)
          refine wpAnyH_take (i := 0) (oi := ⟨some 17, _, _, _, _, _⟩) (v := ?_) rfl (by kernel_rfl) (by kernel_rfl) (by kernel_rfl) (fun _ _ _ h => h) (Or.inl ⟨by rfl, ?_⟩) (by assumption) ?_
          rotate_left
          · (intro w' hSw; (try dsimp only at hSw); go_simp <;> (with_reducible rfl))
          try simp only [Act.put, List.setIfInBounds_toArray, List.set_cons_zero, List.set_cons_succ]
          refine wpAnyH_take (i := 1) (oi := ⟨some 18, _, _, _, _, _⟩) (v := ?_) rfl (by kernel_rfl) (by kernel_rfl) (by kernel_rfl) (fun _ _ _ h => h) (Or.inl ⟨by rfl, ?_⟩) (by assumption) ?_
          rotate_left
          · (intro w' hSw; (try dsimp only at hSw); go_simp <;> (with_reducible rfl))
          try simp only [Act.put, List.setIfInBounds_toArray, List.set_cons_zero, List.set_cons_succ]
          refine wpAnyH_take (i := 2) (oi := ⟨some 19, _, _, _, _, _⟩) (v := ?_) rfl (by kernel_rfl) (by kernel_rfl) (by kernel_rfl) (fun _ _ _ h => h) (Or.inl ⟨by rfl, ?_⟩) (by assumption) ?_
          rotate_left
          · (intro w' hSw; (try dsimp only at hSw); go_simp <;> (with_reducible rfl))
          try simp only [Act.put, List.setIfInBounds_toArray, List.set_cons_zero, List.set_cons_succ]
          refine wpAnyH_take (i := 4) (oi := ⟨some 21, _, _, _, _, _⟩) (v := ?_) rfl (by kernel_rfl) (by kernel_rfl) (by kernel_rfl) (fun _ _ _ h => h) (Or.inl ⟨by rfl, ?_⟩) (by assumption) ?_
          rotate_left
          · (intro w' hSw; (try dsimp only at hSw); go_simp <;> (with_reducible rfl))
          try simp only [Act.put, List.setIfInBounds_toArray, List.set_cons_zero, List.set_cons_succ]
          refine wpAnyH_take (i := 5) (oi := ⟨some 22, _, _, _, _, _⟩) (v := ?_) rfl (by kernel_rfl) (by kernel_rfl) (by kernel_rfl) (fun _ _ _ h => h) (Or.inl ⟨by rfl, ?_⟩) (by assumption) ?_
          rotate_left
          · (intro w' hSw; (try dsimp only at hSw); go_simp <;> (with_reducible rfl))
          try simp only [Act.put, List.setIfInBounds_toArray, List.set_cons_zero, List.set_cons_succ]
          refine wpAnyH_take (i := 6) (oi := ⟨some 23, _, _, _, _, _⟩) (v := ?_) rfl (by kernel_rfl) (by kernel_rfl) (by kernel_rfl) (fun _ _ _ h => h) (Or.inl ⟨by rfl, ?_⟩) (by assumption) ?_
          rotate_left
          · (intro w' hSw; (try dsimp only at hSw); go_simp <;> (with_reducible rfl))
          try simp only [Act.put, List.setIfInBounds_toArray, List.set_cons_zero, List.set_cons_succ]
          refine wpAnyH_take (i := 7) (oi := ⟨some 24, _, _, _, _, _⟩) (v := ?_) rfl (by kernel_rfl) (by kernel_rfl) (by kernel_rfl) (fun _ _ _ h => h) (Or.inl ⟨by rfl, ?_⟩) (by assumption) ?_
          rotate_left
          · (intro w' hSw; (try dsimp only at hSw); go_simp <;> (with_reducible rfl))
          try simp only [Act.put, List.setIfInBounds_toArray, List.set_cons_zero, List.set_cons_succ]
          refine wpAnyH_take (i := 8) (oi := ⟨some 25, _, _, _, _, _⟩) (v := ?_) rfl (by kernel_rfl) (by kernel_rfl) (by kernel_rfl) (fun _ _ _ h => h) (Or.inl ⟨by rfl, ?_⟩) (by assumption) ?_
          rotate_left
          · (intro w' hSw; (try dsimp only at hSw); go_simp <;> (with_reducible rfl))
          try simp only [Act.put, List.setIfInBounds_toArray, List.set_cons_zero, List.set_cons_succ]
          refine wpAnyH_take (i := 9) (oi := ⟨some 26, _, _, _, _, _⟩) (v := ?_) rfl (by kernel_rfl) (by kernel_rfl) (by kernel_rfl) (fun _ _ _ h => h) (Or.inl ⟨by rfl, ?_⟩) (by assumption) ?_
          rotate_left
          · (intro w' hSw; (try dsimp only at hSw); go_simp <;> (with_reducible rfl))
          try simp only [Act.put, List.setIfInBounds_toArray, List.set_cons_zero, List.set_cons_succ]
          refine wpAnyH_ready (rs := [3, 10]) (by kernel_rfl) (by simp) ?_
          refine AllReadyH.cons (o := ⟨some 20, _, _, _, _, _⟩) rfl (fun K' hK => ?_) (AllReadyH.cons (o := ⟨some 27, _, _, _, _, _⟩) rfl (fun K' hK => ?_) AllReadyH.nil)
          · skip
            go_simp
            refine hK.out _ _ ⟨e0, e1, e2, e3⟩ (fun hHeld => ?_)
            clear hK K'
            try simp only [Act.put, List.setIfInBounds_toArray, List.set_cons_zero, List.set_cons_succ]
            refine wpAnyH_ready (rs := [10]) (by kernel_rfl) (by simp) ?_
            refine AllReadyH.cons (o := ⟨some 27, _, _, _, _, _⟩) rfl (fun K' hK => ?_) AllReadyH.nil
            go_simp
            go_at_call 74
            refine (HTU.out _).mono ?_
            rintro r' v2 ⟨rfl, hb2⟩
            have hc2 : Below W1.heap.size W1 v2 := by first | exact hb2 | exact below_of_drew hb2 | exact below_of_drew (below_of_drew hb2)
            have A2 := hA.below hc2
            have Z2 := hZ.below hc2
            have B2 := hXA.below hc2
            have X2 := b8.below hc2
            have hB2_ := hB1.trans (hc2.mono (Nat.le_of_lt hXA.lt))
            clear z0 z1 z2 z3 f0 f1 f2 f3 e0 e1 e2 e3
            obtain ⟨z0, z1, z2, z3⟩ := A2.cells hk8
            rw [HSF.out] at z0 z1 z2 z3
            obtain ⟨f0, f1, f2, f3⟩ := A2.frozen4 k
            have e0 := X2.at_ 0
            have e1 := X2.at_ 1
            have e2 := X2.at_ 2
            have e3 := X2.at_ 3
            simp only [List.getElem?_toArray] at e0 e1 e2 e3
            go_wp2_with fail
            refine hK.out _ _ ⟨e0, e1, e2, e3⟩ (fun hHeld => ?_)
            clear hK K'
            try simp only [Act.put, List.setIfInBounds_toArray, List.set_cons_zero, List.set_cons_succ]
            refine wpAnyH_ready (rs := [11]) (by kernel_rfl) (by simp) ?_
            refine AllReadyH.cons (o := ⟨some 28, _, _, _, _, _⟩) rfl (fun K' hK => ?_) AllReadyH.nil
            go_simp
            obtain ⟨v3, hv3⟩ : ∃ q : World, q = v2.alloc (.cells #[.int .i64 s.a, .int .i64 s.b, .int .i64 s.c, .int .i64 s.d, .int .i64 u.a, .int .i64 u.b, .int .i64 u.c, .int .i64 u.d] 26) := ⟨_, rfl⟩
            have A3 := A2.alloc (.cells #[.int .i64 s.a, .int .i64 s.b, .int .i64 s.c, .int .i64 s.d, .int .i64 u.a, .int .i64 u.b, .int .i64 u.c, .int .i64 u.d] 26)
            have Z3 := Z2.alloc (.cells #[.int .i64 s.a, .int .i64 s.b, .int .i64 s.c, .int .i64 s.d, .int .i64 u.a, .int .i64 u.b, .int .i64 u.c, .int .i64 u.d] 26)
            have B3 := B2.alloc (.cells #[.int .i64 s.a, .int .i64 s.b, .int .i64 s.c, .int .i64 s.d, .int .i64 u.a, .int .i64 u.b, .int .i64 u.c, .int .i64 u.d] 26)
            have X3 := X2.alloc (.cells #[.int .i64 s.a, .int .i64 s.b, .int .i64 s.c, .int .i64 s.d, .int .i64 u.a, .int .i64 u.b, .int .i64 u.c, .int .i64 u.d] 26)
            have hB3_ := hB2_.alloc (Nat.le_of_lt B2.lt) (.cells #[.int .i64 s.a, .int .i64 s.b, .int .i64 s.c, .int .i64 s.d, .int .i64 u.a, .int .i64 u.b, .int .i64 u.c, .int .i64 u.d] 26)
            have bN3 : Box v3 v2.heap.size 26 #[.int .i64 s.a, .int .i64 s.b, .int .i64 s.c, .int .i64 s.d, .int .i64 u.a, .int .i64 u.b, .int .i64 u.c, .int .i64 u.d] := by rw [hv3]; exact Box.made rfl
            clear z0 z1 z2 z3 f0 f1 f2 f3 e0 e1 e2 e3
            obtain ⟨z0, z1, z2, z3⟩ := A3.cells hk8
            rw [HSF.out] at z0 z1 z2 z3
            obtain ⟨f0, f1, f2, f3⟩ := A3.frozen4 k
            have e0 := X3.at_ 0
            have e1 := X3.at_ 1
            have e2 := X3.at_ 2
            have e3 := X3.at_ 3
            simp only [List.getElem?_toArray] at e0 e1 e2 e3
            refine hK.out _ _ ⟨e0, e1, e2, e3⟩ (fun hHeld => ?_)
            clear hK K'
            try simp only [Act.put, List.setIfInBounds_toArray, List.set_cons_zero, List.set_cons_succ]
            refine wpAnyH_ready (rs := [12]) (by kernel_rfl) (by simp) ?_
            refine AllReadyH.cons (o := ⟨some 29, _, _, _, _, _⟩) rfl (fun K' hK => ?_) AllReadyH.nil
            go_simp
            go_at_call 71
            refine (sum_any (some ⟨v2.heap.size, 0, none⟩) 2 2 (fun i => if i = 0 then s else u) 10000000000 _ (by decide) (NumsAt.two (by first | exact Box.made rfl | (rw [← hv3]; exact bN3))) HSB.out (by decide)).mono ?_
            rintro r' v4 ⟨rfl, hb4⟩
            rw [HSU.out]
            have hc4 : Below (v2.alloc (.cells #[.int .i64 s.a, .int .i64 s.b, .int .i64 s.c, .int .i64 s.d, .int .i64 u.a, .int .i64 u.b, .int .i64 u.c, .int .i64 u.d] 26)).heap.size (v2.alloc (.cells #[.int .i64 s.a, .int .i64 s.b, .int .i64 s.c, .int .i64 s.d, .int .i64 u.a, .int .i64 u.b, .int .i64 u.c, .int .i64 u.d] 26)) v4 := by first | exact hb4 | exact below_of_drew hb4 | exact ⟨hb4.os, hb4.tape, hb4.output, hb4.size, hb4.block⟩
            have A4 := A3.below hc4
            have Z4 := Z3.below hc4
            have B4 := B3.below hc4
            have X4 := X3.below hc4
            have hB4_ := hB3_.trans (hc4.mono (Nat.le_of_lt B3.lt))
            clear z0 z1 z2 z3 f0 f1 f2 f3 e0 e1 e2 e3
            obtain ⟨z0, z1, z2, z3⟩ := A4.cells hk8
            rw [HSF.out] at z0 z1 z2 z3
            obtain ⟨f0, f1, f2, f3⟩ := A4.frozen4 k
            have e0 := X4.at_ 0
            have e1 := X4.at_ 1
            have e2 := X4.at_ 2
            have e3 := X4.at_ 3
            simp only [List.getElem?_toArray] at e0 e1 e2 e3
            go_wp2_with fail
            refine hK.out _ _ ⟨e0, e1, e2, e3⟩ (fun hHeld => ?_)
            clear hK K'
            try simp only [Act.put, List.setIfInBounds_toArray, List.set_cons_zero, List.set_cons_succ]
            refine wpAnyH_ready (rs := [13]) (by kernel_rfl) (by simp) ?_
            refine AllReadyH.cons (o := ⟨some 30, _, _, _, _, _⟩) rfl (fun K' hK => ?_) AllReadyH.nil
            go_simp
            refine hK.out _ _ ⟨e0, e1, e2, e3⟩ (fun hHeld => ?_)
            clear hK K'
            try simp only [Act.put, List.setIfInBounds_toArray, List.set_cons_zero, List.set_cons_succ]
            refine wpAnyH_ready (rs := [14]) (by kernel_rfl) (by simp) ?_
            refine AllReadyH.cons (o := ⟨none, _, _, _, _, _⟩) rfl (fun K' hK => ?_) AllReadyH.nil
            go_simp
            have HL6 := hide (Below.put4at (c := b5) (o := k * 4) hB4_ hw5 (.int .i64 tt.a) (.int .i64 tt.b) (.int .i64 tt.c) (.int .i64 tt.d))
            have HA6 := hide (A4.put k tt)
            have HZ6 := hide (Z4.other (c := b5) (o := k * 4) hz5 (.int .i64 tt.a) (.int .i64 tt.b) (.int .i64 tt.c) (.int .i64 tt.d))
            have HB6 := hide (B4.other (c := b5) (o := k * 4) hx5 (.int .i64 tt.a) (.int .i64 tt.b) (.int .i64 tt.c) (.int .i64 tt.d))
            have HX6 := X4.other4at (c := b5) (o := k * 4) hg5 (.int .i64 tt.a) (.int .i64 tt.b) (.int .i64 tt.c) (.int .i64 tt.d)
            refine hK.out _ _ (by have e0 := HX6.at_ 0; have e1 := HX6.at_ 1; have e2 := HX6.at_ 2; have e3 := HX6.at_ 3; simp only [List.getElem?_toArray] at e0 e1 e2 e3; exact ⟨e0, e1, e2, e3⟩) (fun hHeld => ?_)
            clear hK K'
            try simp only [Act.put, List.setIfInBounds_toArray, List.set_cons_zero, List.set_cons_succ]
            clear z0 z1 z2 z3 f0 f1 f2 f3 e0 e1 e2 e3 HX6
            refine wpAnyH_done (by kernel_rfl) ?_ _
            go_wp2_with fail
            go_roundw
            case rel => exact ⟨j + 1, by omega, by go_num, HZ6.out, HB6.out, by rw [HTT.out]; exact HA6.out.congr HEE.out, HL6.out⟩
            case measure => simp [Go.RowKit.intOf]; omega
          · skip
            go_simp
            go_at_call 74
            refine (HTU.out _).mono ?_
            rintro r' v7 ⟨rfl, hb7⟩
            have hc7 : Below W1.heap.size W1 v7 := by first | exact hb7 | exact below_of_drew hb7 | exact below_of_drew (below_of_drew hb7)
            have A7 := hA.below hc7
            have Z7 := hZ.below hc7
            have B7 := hXA.below hc7
            have X7 := b8.below hc7
            have hB7_ := hB1.trans (hc7.mono (Nat.le_of_lt hXA.lt))
            clear z0 z1 z2 z3 f0 f1 f2 f3 e0 e1 e2 e3
            obtain ⟨z0, z1, z2, z3⟩ := A7.cells hk8
            rw [HSF.out] at z0 z1 z2 z3
            obtain ⟨f0, f1, f2, f3⟩ := A7.frozen4 k
            have e0 := X7.at_ 0
            have e1 := X7.at_ 1
            have e2 := X7.at_ 2
            have e3 := X7.at_ 3
            simp only [List.getElem?_toArray] at e0 e1 e2 e3
            go_wp2_with fail
            refine hK.out _ _ ⟨e0, e1, e2, e3⟩ (fun hHeld => ?_)
            clear hK K'
            try simp only [Act.put, List.setIfInBounds_toArray, List.set_cons_zero, List.set_cons_succ]
            refine wpAnyH_ready (rs := [3]) (by kernel_rfl) (by simp) ?_
            refine AllReadyH.cons (o := ⟨some 20, _, _, _, _, _⟩) rfl (fun K' hK => ?_) AllReadyH.nil
            go_simp
            refine hK.out _ _ ⟨e0, e1, e2, e3⟩ (fun hHeld => ?_)
            clear hK K'
            try simp only [Act.put, List.setIfInBounds_toArray, List.set_cons_zero, List.set_cons_succ]
            refine wpAnyH_ready (rs := [11]) (by kernel_rfl) (by simp) ?_
            refine AllReadyH.cons (o := ⟨some 28, _, _, _, _, _⟩) rfl (fun K' hK => ?_) AllReadyH.nil
            go_simp
            obtain ⟨v9, hv9⟩ : ∃ q : World, q = v7.alloc (.cells #[.int .i64 s.a, .int .i64 s.b, .int .i64 s.c, .int .i64 s.d, .int .i64 u.a, .int .i64 u.b, .int .i64 u.c, .int .i64 u.d] 26) := ⟨_, rfl⟩
            have A9 := A7.alloc (.cells #[.int .i64 s.a, .int .i64 s.b, .int .i64 s.c, .int .i64 s.d, .int .i64 u.a, .int .i64 u.b, .int .i64 u.c, .int .i64 u.d] 26)
            have Z9 := Z7.alloc (.cells #[.int .i64 s.a, .int .i64 s.b, .int .i64 s.c, .int .i64 s.d, .int .i64 u.a, .int .i64 u.b, .int .i64 u.c, .int .i64 u.d] 26)
            have B9 := B7.alloc (.cells #[.int .i64 s.a, .int .i64 s.b, .int .i64 s.c, .int .i64 s.d, .int .i64 u.a, .int .i64 u.b, .int .i64 u.c, .int .i64 u.d] 26)
            have X9 := X7.alloc (.cells #[.int .i64 s.a, .int .i64 s.b, .int .i64 s.c, .int .i64 s.d, .int .i64 u.a, .int .i64 u.b, .int .i64 u.c, .int .i64 u.d] 26)
            have hB9_ := hB7_.alloc (Nat.le_of_lt B7.lt) (.cells #[.int .i64 s.a, .int .i64 s.b, .int .i64 s.c, .int .i64 s.d, .int .i64 u.a, .int .i64 u.b, .int .i64 u.c, .int .i64 u.d] 26)
            have bN9 : Box v9 v7.heap.size 26 #[.int .i64 s.a, .int .i64 s.b, .int .i64 s.c, .int .i64 s.d, .int .i64 u.a, .int .i64 u.b, .int .i64 u.c, .int .i64 u.d] := by rw [hv9]; exact Box.made rfl
            clear z0 z1 z2 z3 f0 f1 f2 f3 e0 e1 e2 e3
            obtain ⟨z0, z1, z2, z3⟩ := A9.cells hk8
            rw [HSF.out] at z0 z1 z2 z3
            obtain ⟨f0, f1, f2, f3⟩ := A9.frozen4 k
            have e0 := X9.at_ 0
            have e1 := X9.at_ 1
            have e2 := X9.at_ 2
            have e3 := X9.at_ 3
            simp only [List.getElem?_toArray] at e0 e1 e2 e3
            refine hK.out _ _ ⟨e0, e1, e2, e3⟩ (fun hHeld => ?_)
            clear hK K'
            try simp only [Act.put, List.setIfInBounds_toArray, List.set_cons_zero, List.set_cons_succ]
            refine wpAnyH_ready (rs := [12]) (by kernel_rfl) (by simp) ?_
            refine AllReadyH.cons (o := ⟨some 29, _, _, _, _, _⟩) rfl (fun K' hK => ?_) AllReadyH.nil
            go_simp
            go_at_call 71
            refine (sum_any (some ⟨v7.heap.size, 0, none⟩) 2 2 (fun i => if i = 0 then s else u) 10000000000 _ (by decide) (NumsAt.two (by first | exact Box.made rfl | (rw [← hv9]; exact bN9))) HSB.out (by decide)).mono ?_
            rintro r' v10 ⟨rfl, hb10⟩
            rw [HSU.out]
            have hc10 : Below (v7.alloc (.cells #[.int .i64 s.a, .int .i64 s.b, .int .i64 s.c, .int .i64 s.d, .int .i64 u.a, .int .i64 u.b, .int .i64 u.c, .int .i64 u.d] 26)).heap.size (v7.alloc (.cells #[.int .i64 s.a, .int .i64 s.b, .int .i64 s.c, .int .i64 s.d, .int .i64 u.a, .int .i64 u.b, .int .i64 u.c, .int .i64 u.d] 26)) v10 := by first | exact hb10 | exact below_of_drew hb10 | exact ⟨hb10.os, hb10.tape, hb10.output, hb10.size, hb10.block⟩
            have A10 := A9.below hc10
            have Z10 := Z9.below hc10
            have B10 := B9.below hc10
            have X10 := X9.below hc10
            have hB10_ := hB9_.trans (hc10.mono (Nat.le_of_lt B9.lt))
            clear z0 z1 z2 z3 f0 f1 f2 f3 e0 e1 e2 e3
            obtain ⟨z0, z1, z2, z3⟩ := A10.cells hk8
            rw [HSF.out] at z0 z1 z2 z3
            obtain ⟨f0, f1, f2, f3⟩ := A10.frozen4 k
            have e0 := X10.at_ 0
            have e1 := X10.at_ 1
            have e2 := X10.at_ 2
            have e3 := X10.at_ 3
            simp only [List.getElem?_toArray] at e0 e1 e2 e3
            go_wp2_with fail
            refine hK.out _ _ ⟨e0, e1, e2, e3⟩ (fun hHeld => ?_)
            clear hK K'
            try simp only [Act.put, List.setIfInBounds_toArray, List.set_cons_zero, List.set_cons_succ]
            refine wpAnyH_ready (rs := [13]) (by kernel_rfl) (by simp) ?_
            refine AllReadyH.cons (o := ⟨some 30, _, _, _, _, _⟩) rfl (fun K' hK => ?_) AllReadyH.nil
            go_simp
            refine hK.out _ _ ⟨e0, e1, e2, e3⟩ (fun hHeld => ?_)
            clear hK K'
            try simp only [Act.put, List.setIfInBounds_toArray, List.set_cons_zero, List.set_cons_succ]
            refine wpAnyH_ready (rs := [14]) (by kernel_rfl) (by simp) ?_
            refine AllReadyH.cons (o := ⟨none, _, _, _, _, _⟩) rfl (fun K' hK => ?_) AllReadyH.nil
            go_simp
            have HL12 := hide (Below.put4at (c := b5) (o := k * 4) hB10_ hw5 (.int .i64 tt.a) (.int .i64 tt.b) (.int .i64 tt.c) (.int .i64 tt.d))
            have HA12 := hide (A10.put k tt)
            have HZ12 := hide (Z10.other (c := b5) (o := k * 4) hz5 (.int .i64 tt.a) (.int .i64 tt.b) (.int .i64 tt.c) (.int .i64 tt.d))
            have HB12 := hide (B10.other (c := b5) (o := k * 4) hx5 (.int .i64 tt.a) (.int .i64 tt.b) (.int .i64 tt.c) (.int .i64 tt.d))
            have HX12 := X10.other4at (c := b5) (o := k * 4) hg5 (.int .i64 tt.a) (.int .i64 tt.b) (.int .i64 tt.c) (.int .i64 tt.d)
            refine hK.out _ _ (by have e0 := HX12.at_ 0; have e1 := HX12.at_ 1; have e2 := HX12.at_ 2; have e3 := HX12.at_ 3; simp only [List.getElem?_toArray] at e0 e1 e2 e3; exact ⟨e0, e1, e2, e3⟩) (fun hHeld => ?_)
            clear hK K'
            try simp only [Act.put, List.setIfInBounds_toArray, List.set_cons_zero, List.set_cons_succ]
            clear z0 z1 z2 z3 f0 f1 f2 f3 e0 e1 e2 e3 HX12
            refine wpAnyH_done (by kernel_rfl) ?_ _
            go_wp2_with fail
            go_roundw
            case rel => exact ⟨j + 1, by omega, by go_num, HZ12.out, HB12.out, by rw [HTT.out]; exact HA12.out.congr HEE.out, HL12.out⟩
            case measure => simp [Go.RowKit.intOf]; omega
        · obtain rfl : j = 8 := by omega
          go_wp2_with fail
          go_roundw
          case rel =>
            refine ⟨k + 1, by omega, by go_num, hZ, hXA, hA.congr fun q _ => ?_, hB⟩
            show (if q = k then sumF (Z k) 8 else E q) = if q < k + 1 then sumF (Z q) 8 else Num.zero
            by_cases e : q = k
            · subst e; rw [if_pos rfl, if_pos (by omega)]
            · rw [if_neg e, HE.out]
              show (if q < k then _ else Num.zero) = _
              by_cases e2 : q < k
              · rw [if_pos e2, if_pos (by omega)]
              · rw [if_neg e2, if_neg (by omega)]
          case measure => simp [Go.RowKit.intOf]; omega
    · obtain rfl : k = 8 := by omega
      have HZ := hide hZ
      have HA := hide (hA.congr (G := fun k => sumF (Z k) 8) fun q hq => if_pos hq)
      go_wp2_with (first | (refine wpList_load8 rfl (.tmp 5) rfl b5 (fun k => sumF (Z k) 8) rfl HA.out ?_) | (refine wpList_store8 rfl (.tmp 4) (.tmp 33) rfl b1 (fun _ => Num.zero) (fun k => sumF (Z k) 8) rfl rfl HZ.out ?_; intro W2 r2 o2))
      refine bodyPost_ret (v := .agg (arr8 fun k => sumF (Z k) 8)) (result1n rfl _ rfl r2) rfl ⟨rfl, ?_⟩
      rw [HW0.out]
      exact hB.trans (o2.to_below h01' (Nat.le_of_lt hXA.lt))
end Go.Proofs.Ytfemghbjngemlaa
