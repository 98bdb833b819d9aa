/- Lemmas: Ve, Wn, Wm, Wf. -/
import Derived.Deep.RegionHeld3
import Derived.Test.YtcndeegfkgfnkaaBy01
import Derived.Test.YtcndeegfkgfnkaaBy02
import Derived.Test.YtcndeegfkgfnkaaBy03
import Derived.Test.YtcndeegfkgfnkaaBy04
set_option linter.unusedVariables false
set_option linter.unusedSimpArgs false
/- Arrays of eight numbers of four parts. -/
namespace Go.Proofs.Ytcndeegfkgfnkaa
open Go.RowKit Go.Great
def numC (F : Nat → Num) (j : Nat) : Value := .int .i64 ((F (j / 4)).part (j % 4))
def arr8 (F : Nat → Num) : Array Value := ((List.range 32).map (numC F)).toArray
theorem arr8_size (F : Nat → Num) : (arr8 F).size = 32 := by simp [arr8]
theorem arr8_at (F : Nat → Num) (i : Nat) (h : i < 32) : (arr8 F)[i]? = some (numC F i) := by
  rw [arr8, List.getElem?_toArray, List.getElem?_map, List.getElem?_range h]
  rfl
theorem arr8_one (F : Nat → Num) : (arr8 F).all (·.oneCell') = true := by
  rw [Array.all_eq_true_iff_forall_mem]
  intro v hv
  obtain ⟨i, _, rfl⟩ := List.mem_map.1 (List.mem_toArray.1 hv)
  rfl
theorem arr8_congr {F G : Nat → Num} (h : ∀ k, k < 8 → F k = G k) : arr8 F = arr8 G := by
  unfold arr8
  congr 1
  exact List.map_congr_left fun j hj => by
    have := List.mem_range.1 hj
    unfold numC
    rw [h (j / 4) (by omega)]
theorem info8 : (Try.prog.info? 52).map (·.size) = some 32 := by kernel_rfl
/-- Block b is an array of eight numbers F. -/
def ArrNums (w : World) (b : Nat) (F : Nat → Num) : Prop := w.rowIs b 52 32 (numC F)
theorem ArrNums.below {w w' : World} {b : Nat} {F : Nat → Num} (h : ArrNums w b F) (hb : Below w.heap.size w w') : ArrNums w' b F := rowIs_below h hb
theorem ArrNums.alloc {w : World} {b : Nat} {F : Nat → Num} (h : ArrNums w b F) (o : Obj) : ArrNums (w.alloc o) b F := World.rowIs.alloc h o
theorem ArrNums.drew {w : World} {b : Nat} {F : Nat → Num} (h : ArrNums w b F) : ArrNums w.drew b F := h
theorem ArrNums.lt {w : World} {b : Nat} {F : Nat → Num} (h : ArrNums w b F) : b < w.heap.size := World.rowIs.lt h
theorem ArrNums.congr {w : World} {b : Nat} {F G : Nat → Num} (h : ArrNums w b F) (e : ∀ k, k < 8 → F k = G k) : ArrNums w b G := World.rowIs.congr h fun j hj => by
  unfold numC
  rw [e (j / 4) (by omega)]
theorem ArrNums.part {w : World} {b : Nat} {F : Nat → Num} (h : ArrNums w b F) {k i : Nat} (hk : k < 8) (hi : i < 4) : w.cell? ⟨b, k * 4 + i, none⟩ = some (.int .i64 ((F k).part i)) := by
  rw [World.rowIs.cell h (by omega)]
  unfold numC
  rw [show (k * 4 + i) / 4 = k by omega, show (k * 4 + i) % 4 = i by omega]
theorem ArrNums.cells {w : World} {b : Nat} {F : Nat → Num} (h : ArrNums w b F) {k : Nat} (hk : k < 8) :
    w.cell? ⟨b, k * 4, none⟩ = some (.int .i64 (F k).a) ∧ w.cell? ⟨b, k * 4 + 1, none⟩ = some (.int .i64 (F k).b) ∧ w.cell? ⟨b, k * 4 + 2, none⟩ = some (.int .i64 (F k).c) ∧ w.cell? ⟨b, k * 4 + 3, none⟩ = some (.int .i64 (F k).d) :=
  ⟨h.part hk (show 0 < 4 by decide), h.part hk (show 1 < 4 by decide), h.part hk (show 2 < 4 by decide), h.part hk (show 3 < 4 by decide)⟩
theorem ArrNums.frozen4 {w : World} {b : Nat} {F : Nat → Num} (h : ArrNums w b F) (k : Nat) : w.frozen? ⟨b, k * 4, none⟩ = false ∧ w.frozen? ⟨b, k * 4 + 1, none⟩ = false ∧ w.frozen? ⟨b, k * 4 + 2, none⟩ = false ∧ w.frozen? ⟨b, k * 4 + 3, none⟩ = false := ⟨World.rowIs.frozen h _, World.rowIs.frozen h _, World.rowIs.frozen h _, World.rowIs.frozen h _⟩
theorem ArrNums.other {w : World} {b c o : Nat} {F : Nat → Num} (h : ArrNums w b F) (hn : b ≠ c) (u0 u1 u2 u3 : Value) : ArrNums ((((w.setCell ⟨c, o, none⟩ u0).setCell ⟨c, o + 1, none⟩ u1).setCell ⟨c, o + 2, none⟩ u2).setCell ⟨c, o + 3, none⟩ u3) b F :=
  (((World.rowIs.setOther h (a := ⟨c, o, none⟩) hn u0).setOther (a := ⟨c, o + 1, none⟩) hn u1).setOther (a := ⟨c, o + 2, none⟩) hn u2).setOther (a := ⟨c, o + 3, none⟩) hn u3
theorem ArrNums.put {w : World} {b : Nat} {F : Nat → Num} (h : ArrNums w b F) (k : Nat) (x : Num) :
    ArrNums ((((w.setCell ⟨b, k * 4, none⟩ (.int .i64 x.a)).setCell ⟨b, k * 4 + 1, none⟩ (.int .i64 x.b)).setCell ⟨b, k * 4 + 2, none⟩ (.int .i64 x.c)).setCell ⟨b, k * 4 + 3, none⟩ (.int .i64 x.d)) b (setNum F k x) := by
  refine ((((World.rowIs.set h (k * 4) (.int .i64 x.a)).set (k * 4 + 1) (.int .i64 x.b)).set (k * 4 + 2) (.int .i64 x.c)).set (k * 4 + 3) (.int .i64 x.d)).congr fun j hj => ?_
  show (if j = k * 4 + 3 then Value.int .i64 x.d else if j = k * 4 + 2 then .int .i64 x.c else if j = k * 4 + 1 then .int .i64 x.b else if j = k * 4 then .int .i64 x.a else numC F j) = numC (setNum F k x) j
  unfold numC setNum
  have hd := Nat.div_add_mod j 4
  have hlt := Nat.mod_lt j (show 0 < 4 by decide)
  by_cases hk : j / 4 = k
  · rw [if_pos hk]
    obtain e | e | e | e : j % 4 = 0 ∨ j % 4 = 1 ∨ j % 4 = 2 ∨ j % 4 = 3 := by omega
    · rw [if_neg (by omega), if_neg (by omega), if_neg (by omega), if_pos (by omega), e]; rfl
    · rw [if_neg (by omega), if_neg (by omega), if_pos (by omega), e]; rfl
    · rw [if_neg (by omega), if_pos (by omega), e]; rfl
    · rw [if_pos (by omega), e]; rfl
  · rw [if_neg hk, if_neg (by omega), if_neg (by omega), if_neg (by omega), if_neg (by omega)]
theorem arrNums_alloc (w : World) (F : Nat → Num) (b : Nat) (hb : b = w.heap.size) : ArrNums (w.alloc (.cells (arr8 F) 52)) b F := by
  subst hb
  have := World.rowIs_alloc w (arr8 F) 52 (numC F) (fun i hi => arr8_at F i (by rwa [arr8_size] at hi))
  rwa [arr8_size] at this
theorem run_load8 {W : World} {b : Nat} {F : Nat → Num} (hr : ArrNums W b F) : (loadVar 52 ⟨b, 0, none⟩).run Try.prog W = .ok (.agg (arr8 F)) W :=
  run_loadVar_mid (P := Try.prog) W b 0 52 ((List.range 32).map (numC F)) _ (range_of_row hr) Try.underlying52 rfl (by rw [info8]; simp)
theorem wpList_load8 {ops : Array Oper} {rest : List Oper} {op : Oper} {a : Act} {w : World} {Q : Exit → Act → World → Prop} (hgd : op.guard = none) (x : Operand) (ho : op.op = .load 52 x)
    (b : Nat) (F : Nat → Num) (hx : a.eval x = .pointer (some ⟨b, 0, none⟩)) (hr : ArrNums w b F)
    (h : wpList Try.prog ops Q rest (a.put op.dst (.agg (arr8 F))) w) : wpList Try.prog ops Q (op :: rest) a w :=
  wpList_load_mid hgd 52 x ho b 0 hx ((List.range 32).map (numC F)) _ (range_of_row hr) Try.underlying52 rfl (by rw [info8]; simp) h
theorem wpList_store8 {ops : Array Oper} {rest : List Oper} {op : Oper} {a : Act} {w : World} {Q : Exit → Act → World → Prop} (hgd : op.guard = none) (x y : Operand) (ho : op.op = .store 52 x y)
    (b : Nat) (F0 F : Nat → Num) (hx : a.eval x = .pointer (some ⟨b, 0, none⟩)) (hy : a.eval y = .agg (arr8 F)) (hb : ArrNums w b F0)
    (h : ∀ W, ArrNums W b F → Only b w W → wpList Try.prog ops Q rest (a.put op.dst undef) W) : wpList Try.prog ops Q (op :: rest) a w :=
  wpList_store_block hgd 52 x y ho b 52 32 (numC F0) (numC F) (arr8 F) hx hy hb (arr8_size F) info8 (arr8_one F) (arr8_at F) h
/-- Two results, the first one a whole array that lies in memory. -/
theorem results_cell2 {fn : Func} {p q : Tmp} {ty : TypeId} (h : fn.results = #[.cell p ty, .tmp q]) (tmps : Array Value) (P : Program) (w : World) :
    (results fn tmps).run P w = ((asAddr (tmps.getD p undef)).run P w).andThen fun a w₁ => ((loadVar ty a).run P w₁).andThen fun v w₂ => .ok (.tuple #[v, tmps.getD q undef]) w₂ := by
  simp only [results, h]
  simp [Sem.run_bind, Result.andThen]
theorem result8 {fn : Func} {p q : Tmp} {b : Nat} {F : Nat → Num} {e : Value} {W : World} (h : fn.results = #[.cell p 52, .tmp q]) (tmps : Array Value) (ht : tmps.getD p undef = .pointer (some ⟨b, 0, none⟩)) (he : tmps.getD q undef = e) (hr : ArrNums W b F) :
    (results fn tmps).run Try.prog W = .ok (.tuple #[.agg (arr8 F), e]) W := by
  rw [results_cell2 h, ht, he]
  simp only [asAddr, Sem.run_pure, Result.andThen, run_load8 hr]
end Go.Proofs.Ytcndeegfkgfnkaa
/- An array by value, indexed. -/
namespace Go.Proofs.Ytcndeegfkgfnkaa
open Go.RowKit
theorem run_index_four (cs : Array Value) (k : Nat) (v : Value) (w : World) (hk : k < 4) (hn : cs.size = 4) (hv : cs[k]? = some v) (hv1 : v.cells.size = 1) : (Instr.index 98 (.agg cs) (.int .i64 (k : Int))).run Try.prog w = .ok v w := by
  have h1 : (k : Int) < 4 := by omega
  have h2 : (0 : Int) ≤ (k : Int) := by omega
  simp [Instr.index, run_underlying Try.underlying98, asIntOf, go_sem, h1, h2, hv]
  intro h; omega
theorem wpList_index_four {ops : Array Oper} {rest : List Oper} {o : Oper} {a : Act} {w : World} {Q : Exit → Act → World → Prop} (hgd : o.guard = none) (s i : Operand) (ho : o.op = .index 98 s i)
    (cs : Array Value) (k : Nat) (v : Value) (hs : a.eval s = .agg cs) (hi : a.eval i = .int .i64 (k : Int)) (hk : k < 4) (hn : cs.size = 4) (hv : cs[k]? = some v) (hv1 : v.cells.size = 1)
    (h : wpList Try.prog ops Q rest (a.put o.dst v) w) : wpList Try.prog ops Q (o :: rest) a w :=
  wpList_plain hgd fun _ hK => by
    unfold Oper.wp execOp
    simp only [ho, hs, hi, Sem.run_bind, Sem.run_pure, Result.andThen_ok, run_index_four cs k v w hk hn hv hv1]
    exact hK _ _ h
end Go.Proofs.Ytcndeegfkgfnkaa
/- product of the code: a region that draws its order. -/
namespace Go.Proofs.Ytcndeegfkgfnkaa
open Go.RowKit
theorem bstH4 {B : Nat} {w1 W w2 : World} {p0 p1 p2 p3 p4 p5 p6 p7 : Prop} (hb : Below W.heap.size W w2) (h : p0 ∧ p1 ∧ p2 ∧ p3 ∧ p4 ∧ p5 ∧ p6 ∧ p7 ∧ Below B w1 W) (hB : B ≤ w1.heap.size) : Below B w1 w2 := h.2.2.2.2.2.2.2.2.trans (hb.mono (Nat.le_trans hB h.2.2.2.2.2.2.2.2.size))
theorem NumsAt.two {w : World} {b : Nat} {t : TypeId} {x y : Num} (h : Box w b t #[.int .i64 x.a, .int .i64 x.b, .int .i64 x.c, .int .i64 x.d, .int .i64 y.a, .int .i64 y.b, .int .i64 y.c, .int .i64 y.d]) : NumsAt w 0 (some ⟨b, 0, none⟩) 2 (fun i => if i = 0 then x else y) := fun i hi => by
  match i, hi with
  | 0, _ => exact ⟨b, 0, rfl, Nat.zero_le _, h.lt, h.at_ 0, h.at_ 1, h.at_ 2, h.at_ 3⟩
  | 1, _ => exact ⟨b, 0, rfl, Nat.zero_le _, h.lt, h.at_ 4, h.at_ 5, h.at_ 6, h.at_ 7⟩
theorem sum_two (x y : Num) : sumF (fun i => if i = 0 then x else y) 2 = x.add y := by
  show (Num.zero.add (if (0 : Nat) = 0 then x else y)).add (if (1 : Nat) = 0 then x else y) = x.add y
  rw [if_pos rfl, if_neg (by decide)]
  apply Num.same <;> simp [Num.add, Num.zero]
set_option maxHeartbeats 8000000 in
set_option maxRecDepth 100000 in
theorem product_any (x y : Num) (M N : Int) (w : World) (hx : x.Within M) (hy : y.Within N) (h0 : 0 ≤ M * N) (h4 : 4 * (M * N) ≤ 9000000000000000000) (hN : N ≤ 4611686018427387904) :
    Calls Try.prog 30 #[.agg #[.int .i64 x.a, .int .i64 x.b, .int .i64 x.c, .int .i64 x.d], .agg #[.int .i64 y.a, .int .i64 y.b, .int .i64 y.c, .int .i64 y.d]] w fun e w' => e = .returned (.agg #[.int .i64 (x.prod y).a, .int .i64 (x.prod y).b, .int .i64 (x.prod y).c, .int .i64 (x.prod y).d]) ∧ Below w.heap.size w w' := by
  have HPB := hide (fun i (hi : i ≤ 4) => (show (x.prodTo y i).Within 9000000000000000000 from (hx.prodTo hy i).more (by
    obtain ⟨p, hp⟩ : ∃ p, p = M * N := ⟨_, rfl⟩
    rw [← hp] at h0 h4 ⊢
    have h1 : (i : Int) * p ≤ 4 * p := Int.mul_le_mul_of_nonneg_right (by omega) h0
    omega)))
  have HT := hide (fun (i : Nat) (hi : i < 4) W => (by
    have h := turned_any y (i : Int) W (hy.more hN)
    rw [show ((i : Int) % 8).toNat = i by omega] at h
    exact h : Calls Try.prog 35 #[.agg #[.int .i64 y.a, .int .i64 y.b, .int .i64 y.c, .int .i64 y.d], .int .i64 (i : Int)] W fun e w' => e = .returned (.agg #[.int .i64 (y.turns i).a, .int .i64 (y.turns i).b, .int .i64 (y.turns i).c, .int .i64 (y.turns i).d]) ∧ Below W.heap.size W w'))
  have HTI := hide (fun i W => times_any (x.part i) (y.turns i) N M W (hy.turns i) (hx.part i) (by omega))
  have HP := hide (show x.prod y = x.prodTo y 4 from rfl)
  clear hx hy h0 h4 hN
  go_enter Try.func30, Try.ntmps30
  go_wp2_with fail
  obtain ⟨W0, hW0⟩ : ∃ q : World, q = (((w.alloc (.cells #[.int .i64 x.a, .int .i64 x.b, .int .i64 x.c, .int .i64 x.d] 46)).alloc (.cells #[.int .i64 y.a, .int .i64 y.b, .int .i64 y.c, .int .i64 y.d] 46)).alloc (.cells #[.int .i64 0, .int .i64 0, .int .i64 0, .int .i64 0] 46)).alloc (.cells #[.int .i64 0, .int .i64 0, .int .i64 0, .int .i64 0] 46) := ⟨_, rfl⟩
  rw [← hW0]
  have by0 : Box W0 (w.heap.size + 1) 46 #[.int .i64 y.a, .int .i64 y.b, .int .i64 y.c, .int .i64 y.d] := by rw [hW0]; exact ((Box.made (by simp)).alloc _).alloc _
  have bz0 : Box W0 (w.heap.size + 1 + 1) 46 #[.int .i64 0, .int .i64 0, .int .i64 0, .int .i64 0] := by rw [hW0]; exact (Box.made (by simp)).alloc _
  have bx0 : Box W0 (w.heap.size + 1 + 1 + 1) 46 #[.int .i64 (x.prodTo y 0).a, .int .i64 (x.prodTo y 0).b, .int .i64 (x.prodTo y 0).c, .int .i64 (x.prodTo y 0).d] := by rw [hW0]; exact Box.made (by simp)
  have hB0 : Below w.heap.size w W0 := by rw [hW0]; (repeat (first | (with_reducible exact Below.refl _ _) | (with_reducible refine Go.below_drewN ?_ _) | (with_reducible refine Below.drew ?_) | (with_reducible refine Below.alloc ?_ (by first | exact Nat.le_refl _ | (simp; done) | (simp; omega) | omega) _) | (with_reducible refine Below.setCell ?_ (by first | exact Nat.le_refl _ | (simp; done) | (simp; omega) | omega) _)))
  clear hW0
  go_loopw [17] (fun i wr => ∃ j : Nat, j ≤ 4 ∧ i = .int .i64 (j : Int) ∧ Box wr (w.heap.size + 1) 46 #[.int .i64 y.a, .int .i64 y.b, .int .i64 y.c, .int .i64 y.d] ∧ Box wr (w.heap.size + 1 + 1) 46 #[.int .i64 0, .int .i64 0, .int .i64 0, .int .i64 0] ∧ Box wr (w.heap.size + 1 + 1 + 1) 46 #[.int .i64 (x.prodTo y j).a, .int .i64 (x.prodTo y j).b, .int .i64 (x.prodTo y j).c, .int .i64 (x.prodTo y j).d] ∧ Below w.heap.size w wr) (fun i _ => 4 - (Go.RowKit.intOf i).toNat)
  case atStart => exact ⟨0, by decide, rfl, by0, bz0, bx0, hB0⟩
  case round =>
    clear by0 bz0 bx0 hB0
    obtain ⟨j, hj, rfl, bY, bz, bx, hB⟩ := hrel
    obtain ⟨wA, rfl⟩ : ∃ q : World, q = wr := ⟨_, rfl⟩
    obtain ⟨s, hs⟩ : ∃ s, x.prodTo y j = s := ⟨_, rfl⟩
    rw [hs] at bx
    by_cases hlt : j < 4
    · have hltz : (j : Int) < 4 := by omega
      have HSS := hide (show x.prodTo y (j + 1) = s.add (Num.times (x.part j) (y.turns j)) from by rw [← hs]; rfl)
      have HTJ := hide (fun W => HT.out j hlt W)
      have HTT := hide (fun W => HTI.out j W)
      have HS1 := hide (show s.Within 9000000000000000000 from by rw [← hs]; exact HPB.out j hj)
      have HS2 := hide (show (s.add (Num.times (x.part j) (y.turns j))).Within 9000000000000000000 from by rw [← HSS.out]; exact HPB.out (j + 1) hlt)
      have HPT := hide (show x.part j = if j = 0 then x.a else if j = 1 then x.b else if j = 2 then x.c else x.d from rfl)
      obtain ⟨u, hu⟩ : ∃ u, u = Num.times (x.part j) (y.turns j) := ⟨_, rfl⟩
      have HU := hide (show (⟨x.part j * (y.turns j).a, x.part j * (y.turns j).b, x.part j * (y.turns j).c, x.part j * (y.turns j).d⟩ : Num) = u from by rw [hu]; rfl)
      rw [show x.part j * (y.turns j).a = u.a from by rw [hu]; rfl, show x.part j * (y.turns j).b = u.b from by rw [hu]; rfl, show x.part j * (y.turns j).c = u.c from by rw [hu]; rfl, show x.part j * (y.turns j).d = u.d from by rw [hu]; rfl] at HTT
      rw [← hu] at HSS HS2
      have HSU := hide (sum_two s u)
      have HSB := hide (fun k (hk : k ≤ 2) => (show (sumF (fun i => if i = 0 then s else u) k).Within 9000000000000000000 from by
        match k, hk with
        | 0, _ =>
          show Num.zero.Within 9000000000000000000
          exact ⟨⟨by decide, by decide⟩, ⟨by decide, by decide⟩, ⟨by decide, by decide⟩, ⟨by decide, by decide⟩⟩
        | 1, _ =>
          have e : sumF (fun i => if i = 0 then s else u) 1 = s := by apply Num.same <;> simp [sumF, Num.add, Num.zero]
          rw [e]; exact HS1.out
        | 2, _ => rw [HSU.out]; exact HS2.out))
      obtain ⟨tt, htt⟩ : ∃ tt, tt = s.add u := ⟨_, rfl⟩
      rw [← htt] at HSS HSU
      generalize hpp : x.part j = pp at *
      clear hs hu htt HS1 HS2 HU
      go_upto_region 4 with fail
      go_cut [6, 7, 20] (fun s6 s7 _ wx => s6 = .int .i64 (j : Int) ∧ s7 = .int .i64 pp ∧ wx = wA)
      case first =>
        have hpe : (#[Value.int .i64 x.a, .int .i64 x.b, .int .i64 x.c, .int .i64 x.d] : Array Value)[j]? = some (.int .i64 pp) := by
          rw [HPT.out]
          obtain rfl | rfl | rfl | rfl : j = 0 ∨ j = 1 ∨ j = 2 ∨ j = 3 := by omega
          all_goals rfl
        go_wp2_with (refine wpList_index_four rfl (.tmp 16) (.tmp 17) rfl #[.int .i64 x.a, .int .i64 x.b, .int .i64 x.c, .int .i64 x.d] j (.int .i64 pp) rfl rfl hlt rfl hpe rfl ?_)
        go_meet
        case rel => exact ⟨rfl, rfl, rfl⟩
      case rest =>
        obtain ⟨rfl, rfl, rfl⟩ := hcut
        obtain ⟨wB, rfl⟩ : ∃ q : World, q = wc := ⟨_, rfl⟩
        have hlY := bY.lt
        have hlX := bx.lt
        clear HPT hpp
        have bX := bz
        obtain ⟨z0, z1, z2, z3, f0, f1, f2, f3, hz⟩ := bx.cells4
        obtain ⟨e0, e1, e2, e3, -, -, -, -, he⟩ := bY.cells4
        go_upto_region 5 with fail
        refine wp_region_held_drew (S := fun w' => w'.cell? ⟨w.heap.size + 1, 0, none⟩ = some (.int .i64 y.a) ∧ w'.cell? ⟨w.heap.size + 1, 1, none⟩ = some (.int .i64 y.b) ∧ w'.cell? ⟨w.heap.size + 1, 2, none⟩ = some (.int .i64 y.c) ∧ w'.cell? ⟨w.heap.size + 1, 3, none⟩ = some (.int .i64 y.d)) (by kernel_rfl) ⟨e0, e1, e2, e3⟩ (fun hHeld => ?_)
        refine wpAnyH_take (i := 1) (oi := ⟨some 22, _, _, _, _, _⟩) (v := ?_) rfl (by kernel_rfl) (by kernel_rfl) (by kernel_rfl) (fun _ _ _ h => h) (Or.inl ⟨by rfl, ?_⟩) (by assumption) ?_
        rotate_left
        · (intro w' hSw; (try dsimp only at hSw); go_simp <;> (with_reducible rfl))
        try simp only [Act.put, List.setIfInBounds_toArray, List.set_cons_zero, List.set_cons_succ]
        refine wpAnyH_take (i := 2) (oi := ⟨some 23, _, _, _, _, _⟩) (v := ?_) rfl (by kernel_rfl) (by kernel_rfl) (by kernel_rfl) (fun _ _ _ h => h) (Or.inl ⟨by rfl, ?_⟩) (by assumption) ?_
        rotate_left
        · (intro w' hSw; (try dsimp only at hSw); go_simp <;> (with_reducible rfl))
        try simp only [Act.put, List.setIfInBounds_toArray, List.set_cons_zero, List.set_cons_succ]
        refine wpAnyH_take (i := 3) (oi := ⟨some 24, _, _, _, _, _⟩) (v := ?_) rfl (by kernel_rfl) (by kernel_rfl) (by kernel_rfl) (fun _ _ _ h => h) (Or.inl ⟨by rfl, ?_⟩) (by assumption) ?_
        rotate_left
        · (intro w' hSw; (try dsimp only at hSw); go_simp <;> (with_reducible rfl))
        try simp only [Act.put, List.setIfInBounds_toArray, List.set_cons_zero, List.set_cons_succ]
        refine wpAnyH_ready (rs := [0, 4]) (by kernel_rfl) (by simp) ?_
        refine AllReadyH.cons (o := ⟨some 21, _, _, _, _, _⟩) rfl (fun K' hK => ?_) (AllReadyH.cons (o := ⟨some 25, _, _, _, _, _⟩) rfl (fun K' hK => ?_) AllReadyH.nil)
        · skip
          go_simp
          refine hK.out _ _ ⟨e0, e1, e2, e3⟩ (fun hHeld => ?_)
          clear hK K'
          try simp only [Act.put, List.setIfInBounds_toArray, List.set_cons_zero, List.set_cons_succ]
          refine wpAnyH_ready (rs := [4]) (by kernel_rfl) (by simp) ?_
          refine AllReadyH.cons (o := ⟨some 25, _, _, _, _, _⟩) rfl (fun K' hK => ?_) AllReadyH.nil
          go_simp
          go_at_call 35
          refine (HTJ.out _).mono ?_
          rintro r v2 ⟨rfl, hb2⟩
          have hc2 : Below wB.heap.size wB v2 := by first | exact hb2 | exact below_of_drew hb2 | exact below_of_drew (below_of_drew hb2)
          have bx2 := bx.below hc2
          have bY2 := bY.below hc2
          have bz2 := bz.below hc2
          have bX2 := bX.below hc2
          have hB2 := hB.trans (hc2.mono hB.size)
          clear z0 z1 z2 z3 f0 f1 f2 f3 hz e0 e1 e2 e3 he
          obtain ⟨z0, z1, z2, z3, f0, f1, f2, f3, hz⟩ := bx2.cells4
          obtain ⟨e0, e1, e2, e3, -, -, -, -, he⟩ := bY2.cells4
          go_wp2_with fail
          refine hK.out _ _ ⟨e0, e1, e2, e3⟩ (fun hHeld => ?_)
          clear hK K'
          try simp only [Act.put, List.setIfInBounds_toArray, List.set_cons_zero, List.set_cons_succ]
          refine wpAnyH_ready (rs := [5]) (by kernel_rfl) (by simp) ?_
          refine AllReadyH.cons (o := ⟨some 26, _, _, _, _, _⟩) rfl (fun K' hK => ?_) AllReadyH.nil
          go_simp
          go_at_call 52
          refine (HTT.out _).mono ?_
          rintro r v3 ⟨rfl, hb3⟩
          have hc3 : Below v2.heap.size v2 v3 := by first | exact hb3 | exact below_of_drew hb3 | exact below_of_drew (below_of_drew hb3)
          have bx3 := bx2.below hc3
          have bY3 := bY2.below hc3
          have bz3 := bz2.below hc3
          have bX3 := bX2.below hc3
          have hB3 := hB2.trans (hc3.mono hB2.size)
          clear z0 z1 z2 z3 f0 f1 f2 f3 hz e0 e1 e2 e3 he
          obtain ⟨z0, z1, z2, z3, f0, f1, f2, f3, hz⟩ := bx3.cells4
          obtain ⟨e0, e1, e2, e3, -, -, -, -, he⟩ := bY3.cells4
          go_wp2_with fail
          refine hK.out _ _ ⟨e0, e1, e2, e3⟩ (fun hHeld => ?_)
          clear hK K'
          try simp only [Act.put, List.setIfInBounds_toArray, List.set_cons_zero, List.set_cons_succ]
          refine wpAnyH_ready (rs := [6]) (by kernel_rfl) (by simp) ?_
          refine AllReadyH.cons (o := ⟨some 27, _, _, _, _, _⟩) rfl (fun K' hK => ?_) AllReadyH.nil
          go_simp
          obtain ⟨v4, hv4⟩ : ∃ q : World, q = v3.alloc (.cells #[.int .i64 s.a, .int .i64 s.b, .int .i64 s.c, .int .i64 s.d, .int .i64 u.a, .int .i64 u.b, .int .i64 u.c, .int .i64 u.d] 46) := ⟨_, rfl⟩
          have bx4 := bx3.alloc (.cells #[.int .i64 s.a, .int .i64 s.b, .int .i64 s.c, .int .i64 s.d, .int .i64 u.a, .int .i64 u.b, .int .i64 u.c, .int .i64 u.d] 46)
          have bY4 := bY3.alloc (.cells #[.int .i64 s.a, .int .i64 s.b, .int .i64 s.c, .int .i64 s.d, .int .i64 u.a, .int .i64 u.b, .int .i64 u.c, .int .i64 u.d] 46)
          have bz4 := bz3.alloc (.cells #[.int .i64 s.a, .int .i64 s.b, .int .i64 s.c, .int .i64 s.d, .int .i64 u.a, .int .i64 u.b, .int .i64 u.c, .int .i64 u.d] 46)
          have bX4 := bX3.alloc (.cells #[.int .i64 s.a, .int .i64 s.b, .int .i64 s.c, .int .i64 s.d, .int .i64 u.a, .int .i64 u.b, .int .i64 u.c, .int .i64 u.d] 46)
          have hB4 := hB3.alloc hB3.size (.cells #[.int .i64 s.a, .int .i64 s.b, .int .i64 s.c, .int .i64 s.d, .int .i64 u.a, .int .i64 u.b, .int .i64 u.c, .int .i64 u.d] 46)
          have bN4 : Box v4 v3.heap.size 46 #[.int .i64 s.a, .int .i64 s.b, .int .i64 s.c, .int .i64 s.d, .int .i64 u.a, .int .i64 u.b, .int .i64 u.c, .int .i64 u.d] := by rw [hv4]; exact Box.made rfl
          clear z0 z1 z2 z3 f0 f1 f2 f3 hz e0 e1 e2 e3 he
          obtain ⟨z0, z1, z2, z3, f0, f1, f2, f3, hz⟩ := bx4.cells4
          obtain ⟨e0, e1, e2, e3, -, -, -, -, he⟩ := bY4.cells4
          refine hK.out _ _ ⟨e0, e1, e2, e3⟩ (fun hHeld => ?_)
          clear hK K'
          try simp only [Act.put, List.setIfInBounds_toArray, List.set_cons_zero, List.set_cons_succ]
          refine wpAnyH_ready (rs := [7]) (by kernel_rfl) (by simp) ?_
          refine AllReadyH.cons (o := ⟨some 28, _, _, _, _, _⟩) rfl (fun K' hK => ?_) AllReadyH.nil
          go_simp
          go_at_call 29
          refine (sum_any (some ⟨v3.heap.size, 0, none⟩) 2 2 (fun i => if i = 0 then s else u) 9000000000000000000 _ (by decide) (NumsAt.two (by first | exact Box.made rfl | (rw [← hv4]; exact bN4))) HSB.out (by decide)).mono ?_
          rintro r v5 ⟨rfl, hb5⟩
          rw [HSU.out]
          have hc5 : Below (v3.alloc (.cells #[.int .i64 s.a, .int .i64 s.b, .int .i64 s.c, .int .i64 s.d, .int .i64 u.a, .int .i64 u.b, .int .i64 u.c, .int .i64 u.d] 46)).heap.size (v3.alloc (.cells #[.int .i64 s.a, .int .i64 s.b, .int .i64 s.c, .int .i64 s.d, .int .i64 u.a, .int .i64 u.b, .int .i64 u.c, .int .i64 u.d] 46)) v5 := by first | exact hb5 | exact below_of_drew hb5 | exact ⟨hb5.os, hb5.tape, hb5.output, hb5.size, hb5.block⟩
          have bx5 := bx4.below hc5
          have bY5 := bY4.below hc5
          have bz5 := bz4.below hc5
          have bX5 := bX4.below hc5
          have hB5 := hB4.trans (hc5.mono hB4.size)
          clear z0 z1 z2 z3 f0 f1 f2 f3 hz e0 e1 e2 e3 he
          obtain ⟨z0, z1, z2, z3, f0, f1, f2, f3, hz⟩ := bx5.cells4
          obtain ⟨e0, e1, e2, e3, -, -, -, -, he⟩ := bY5.cells4
          go_wp2_with fail
          refine hK.out _ _ ⟨e0, e1, e2, e3⟩ (fun hHeld => ?_)
          clear hK K'
          try simp only [Act.put, List.setIfInBounds_toArray, List.set_cons_zero, List.set_cons_succ]
          refine wpAnyH_ready (rs := [8]) (by kernel_rfl) (by simp) ?_
          refine AllReadyH.cons (o := ⟨none, _, _, _, _, _⟩) rfl (fun K' hK => ?_) AllReadyH.nil
          go_simp
          have bY6 := bY5.other4 (c := w.heap.size + 1 + 1 + 1) (by omega) (.int .i64 tt.a) (.int .i64 tt.b) (.int .i64 tt.c) (.int .i64 tt.d)
          refine hK.out _ _ (by obtain ⟨e0, e1, e2, e3, -⟩ := bY6.cells4; exact ⟨e0, e1, e2, e3⟩) (fun hHeld => ?_)
          clear hK K'
          try simp only [Act.put, List.setIfInBounds_toArray, List.set_cons_zero, List.set_cons_succ]
          have HX6 := hide (bx5.put4 (.int .i64 tt.a) (.int .i64 tt.b) (.int .i64 tt.c) (.int .i64 tt.d))
          have HZ6 := hide (bz5.other4 (c := w.heap.size + 1 + 1 + 1) (by omega) (.int .i64 tt.a) (.int .i64 tt.b) (.int .i64 tt.c) (.int .i64 tt.d))
          have HL6 := hide (Below.put4 (c := w.heap.size + 1 + 1 + 1) hB5 (by omega) (.int .i64 tt.a) (.int .i64 tt.b) (.int .i64 tt.c) (.int .i64 tt.d))
          have HY6 := hide bY6
          clear z0 z1 z2 z3 f0 f1 f2 f3 hz e0 e1 e2 e3 he
          refine wpAnyH_done (by kernel_rfl) ?_ _
          go_wp2_with fail
          go_roundw
          case rel => exact ⟨j + 1, by omega, by go_num, HY6.out, HZ6.out, by rw [HSS.out]; exact HX6.out, HL6.out⟩
          case measure => simp [Go.RowKit.intOf]; omega
        · skip
          go_simp
          go_at_call 35
          refine (HTJ.out _).mono ?_
          rintro r v7 ⟨rfl, hb7⟩
          have hc7 : Below wB.heap.size wB v7 := by first | exact hb7 | exact below_of_drew hb7 | exact below_of_drew (below_of_drew hb7)
          have bx7 := bx.below hc7
          have bY7 := bY.below hc7
          have bz7 := bz.below hc7
          have bX7 := bX.below hc7
          have hB7 := hB.trans (hc7.mono hB.size)
          clear z0 z1 z2 z3 f0 f1 f2 f3 hz e0 e1 e2 e3 he
          obtain ⟨z0, z1, z2, z3, f0, f1, f2, f3, hz⟩ := bx7.cells4
          obtain ⟨e0, e1, e2, e3, -, -, -, -, he⟩ := bY7.cells4
          go_wp2_with fail
          refine hK.out _ _ ⟨e0, e1, e2, e3⟩ (fun hHeld => ?_)
          clear hK K'
          try simp only [Act.put, List.setIfInBounds_toArray, List.set_cons_zero, List.set_cons_succ]
          refine wpAnyH_ready (rs := [0, 5]) (by kernel_rfl) (by simp) ?_
          refine AllReadyH.cons (o := ⟨some 21, _, _, _, _, _⟩) rfl (fun K' hK => ?_) (AllReadyH.cons (o := ⟨some 26, _, _, _, _, _⟩) rfl (fun K' hK => ?_) AllReadyH.nil)
          · skip
            go_simp
            refine hK.out _ _ ⟨e0, e1, e2, e3⟩ (fun hHeld => ?_)
            clear hK K'
            try simp only [Act.put, List.setIfInBounds_toArray, List.set_cons_zero, List.set_cons_succ]
            refine wpAnyH_ready (rs := [5]) (by kernel_rfl) (by simp) ?_
            refine AllReadyH.cons (o := ⟨some 26, _, _, _, _, _⟩) rfl (fun K' hK => ?_) AllReadyH.nil
            go_simp
            go_at_call 52
            refine (HTT.out _).mono ?_
            rintro r v9 ⟨rfl, hb9⟩
            have hc9 : Below v7.heap.size v7 v9 := by first | exact hb9 | exact below_of_drew hb9 | exact below_of_drew (below_of_drew hb9)
            have bx9 := bx7.below hc9
            have bY9 := bY7.below hc9
            have bz9 := bz7.below hc9
            have bX9 := bX7.below hc9
            have hB9 := hB7.trans (hc9.mono hB7.size)
            clear z0 z1 z2 z3 f0 f1 f2 f3 hz e0 e1 e2 e3 he
            obtain ⟨z0, z1, z2, z3, f0, f1, f2, f3, hz⟩ := bx9.cells4
            obtain ⟨e0, e1, e2, e3, -, -, -, -, he⟩ := bY9.cells4
            go_wp2_with fail
            refine hK.out _ _ ⟨e0, e1, e2, e3⟩ (fun hHeld => ?_)
            clear hK K'
            try simp only [Act.put, List.setIfInBounds_toArray, List.set_cons_zero, List.set_cons_succ]
            refine wpAnyH_ready (rs := [6]) (by kernel_rfl) (by simp) ?_
            refine AllReadyH.cons (o := ⟨some 27, _, _, _, _, _⟩) rfl (fun K' hK => ?_) AllReadyH.nil
            go_simp
            obtain ⟨v10, hv10⟩ : ∃ q : World, q = v9.alloc (.cells #[.int .i64 s.a, .int .i64 s.b, .int .i64 s.c, .int .i64 s.d, .int .i64 u.a, .int .i64 u.b, .int .i64 u.c, .int .i64 u.d] 46) := ⟨_, rfl⟩
            have bx10 := bx9.alloc (.cells #[.int .i64 s.a, .int .i64 s.b, .int .i64 s.c, .int .i64 s.d, .int .i64 u.a, .int .i64 u.b, .int .i64 u.c, .int .i64 u.d] 46)
            have bY10 := bY9.alloc (.cells #[.int .i64 s.a, .int .i64 s.b, .int .i64 s.c, .int .i64 s.d, .int .i64 u.a, .int .i64 u.b, .int .i64 u.c, .int .i64 u.d] 46)
            have bz10 := bz9.alloc (.cells #[.int .i64 s.a, .int .i64 s.b, .int .i64 s.c, .int .i64 s.d, .int .i64 u.a, .int .i64 u.b, .int .i64 u.c, .int .i64 u.d] 46)
            have bX10 := bX9.alloc (.cells #[.int .i64 s.a, .int .i64 s.b, .int .i64 s.c, .int .i64 s.d, .int .i64 u.a, .int .i64 u.b, .int .i64 u.c, .int .i64 u.d] 46)
            have hB10 := hB9.alloc hB9.size (.cells #[.int .i64 s.a, .int .i64 s.b, .int .i64 s.c, .int .i64 s.d, .int .i64 u.a, .int .i64 u.b, .int .i64 u.c, .int .i64 u.d] 46)
            have bN10 : Box v10 v9.heap.size 46 #[.int .i64 s.a, .int .i64 s.b, .int .i64 s.c, .int .i64 s.d, .int .i64 u.a, .int .i64 u.b, .int .i64 u.c, .int .i64 u.d] := by rw [hv10]; exact Box.made rfl
            clear z0 z1 z2 z3 f0 f1 f2 f3 hz e0 e1 e2 e3 he
            obtain ⟨z0, z1, z2, z3, f0, f1, f2, f3, hz⟩ := bx10.cells4
            obtain ⟨e0, e1, e2, e3, -, -, -, -, he⟩ := bY10.cells4
            refine hK.out _ _ ⟨e0, e1, e2, e3⟩ (fun hHeld => ?_)
            clear hK K'
            try simp only [Act.put, List.setIfInBounds_toArray, List.set_cons_zero, List.set_cons_succ]
            refine wpAnyH_ready (rs := [7]) (by kernel_rfl) (by simp) ?_
            refine AllReadyH.cons (o := ⟨some 28, _, _, _, _, _⟩) rfl (fun K' hK => ?_) AllReadyH.nil
            go_simp
            go_at_call 29
            refine (sum_any (some ⟨v9.heap.size, 0, none⟩) 2 2 (fun i => if i = 0 then s else u) 9000000000000000000 _ (by decide) (NumsAt.two (by first | exact Box.made rfl | (rw [← hv10]; exact bN10))) HSB.out (by decide)).mono ?_
            rintro r v11 ⟨rfl, hb11⟩
            rw [HSU.out]
            have hc11 : Below (v9.alloc (.cells #[.int .i64 s.a, .int .i64 s.b, .int .i64 s.c, .int .i64 s.d, .int .i64 u.a, .int .i64 u.b, .int .i64 u.c, .int .i64 u.d] 46)).heap.size (v9.alloc (.cells #[.int .i64 s.a, .int .i64 s.b, .int .i64 s.c, .int .i64 s.d, .int .i64 u.a, .int .i64 u.b, .int .i64 u.c, .int .i64 u.d] 46)) v11 := by first | exact hb11 | exact below_of_drew hb11 | exact ⟨hb11.os, hb11.tape, hb11.output, hb11.size, hb11.block⟩
            have bx11 := bx10.below hc11
            have bY11 := bY10.below hc11
            have bz11 := bz10.below hc11
            have bX11 := bX10.below hc11
            have hB11 := hB10.trans (hc11.mono hB10.size)
            clear z0 z1 z2 z3 f0 f1 f2 f3 hz e0 e1 e2 e3 he
            obtain ⟨z0, z1, z2, z3, f0, f1, f2, f3, hz⟩ := bx11.cells4
            obtain ⟨e0, e1, e2, e3, -, -, -, -, he⟩ := bY11.cells4
            go_wp2_with fail
            refine hK.out _ _ ⟨e0, e1, e2, e3⟩ (fun hHeld => ?_)
            clear hK K'
            try simp only [Act.put, List.setIfInBounds_toArray, List.set_cons_zero, List.set_cons_succ]
            refine wpAnyH_ready (rs := [8]) (by kernel_rfl) (by simp) ?_
            refine AllReadyH.cons (o := ⟨none, _, _, _, _, _⟩) rfl (fun K' hK => ?_) AllReadyH.nil
            go_simp
            have bY12 := bY11.other4 (c := w.heap.size + 1 + 1 + 1) (by omega) (.int .i64 tt.a) (.int .i64 tt.b) (.int .i64 tt.c) (.int .i64 tt.d)
            refine hK.out _ _ (by obtain ⟨e0, e1, e2, e3, -⟩ := bY12.cells4; exact ⟨e0, e1, e2, e3⟩) (fun hHeld => ?_)
            clear hK K'
            try simp only [Act.put, List.setIfInBounds_toArray, List.set_cons_zero, List.set_cons_succ]
            have HX12 := hide (bx11.put4 (.int .i64 tt.a) (.int .i64 tt.b) (.int .i64 tt.c) (.int .i64 tt.d))
            have HZ12 := hide (bz11.other4 (c := w.heap.size + 1 + 1 + 1) (by omega) (.int .i64 tt.a) (.int .i64 tt.b) (.int .i64 tt.c) (.int .i64 tt.d))
            have HL12 := hide (Below.put4 (c := w.heap.size + 1 + 1 + 1) hB11 (by omega) (.int .i64 tt.a) (.int .i64 tt.b) (.int .i64 tt.c) (.int .i64 tt.d))
            have HY12 := hide bY12
            clear z0 z1 z2 z3 f0 f1 f2 f3 hz e0 e1 e2 e3 he
            refine wpAnyH_done (by kernel_rfl) ?_ _
            go_wp2_with fail
            go_roundw
            case rel => exact ⟨j + 1, by omega, by go_num, HY12.out, HZ12.out, by rw [HSS.out]; exact HX12.out, HL12.out⟩
            case measure => simp [Go.RowKit.intOf]; omega
          · skip
            go_simp
            go_at_call 52
            refine (HTT.out _).mono ?_
            rintro r v13 ⟨rfl, hb13⟩
            have hc13 : Below v7.heap.size v7 v13 := by first | exact hb13 | exact below_of_drew hb13 | exact below_of_drew (below_of_drew hb13)
            have bx13 := bx7.below hc13
            have bY13 := bY7.below hc13
            have bz13 := bz7.below hc13
            have bX13 := bX7.below hc13
            have hB13 := hB7.trans (hc13.mono hB7.size)
            clear z0 z1 z2 z3 f0 f1 f2 f3 hz e0 e1 e2 e3 he
            obtain ⟨z0, z1, z2, z3, f0, f1, f2, f3, hz⟩ := bx13.cells4
            obtain ⟨e0, e1, e2, e3, -, -, -, -, he⟩ := bY13.cells4
            go_wp2_with fail
            refine hK.out _ _ ⟨e0, e1, e2, e3⟩ (fun hHeld => ?_)
            clear hK K'
            try simp only [Act.put, List.setIfInBounds_toArray, List.set_cons_zero, List.set_cons_succ]
            refine wpAnyH_ready (rs := [0]) (by kernel_rfl) (by simp) ?_
            refine AllReadyH.cons (o := ⟨some 21, _, _, _, _, _⟩) rfl (fun K' hK => ?_) AllReadyH.nil
            go_simp
            refine hK.out _ _ ⟨e0, e1, e2, e3⟩ (fun hHeld => ?_)
            clear hK K'
            try simp only [Act.put, List.setIfInBounds_toArray, List.set_cons_zero, List.set_cons_succ]
            refine wpAnyH_ready (rs := [6]) (by kernel_rfl) (by simp) ?_
            refine AllReadyH.cons (o := ⟨some 27, _, _, _, _, _⟩) rfl (fun K' hK => ?_) AllReadyH.nil
            go_simp
            obtain ⟨v15, hv15⟩ : ∃ q : World, q = v13.alloc (.cells #[.int .i64 s.a, .int .i64 s.b, .int .i64 s.c, .int .i64 s.d, .int .i64 u.a, .int .i64 u.b, .int .i64 u.c, .int .i64 u.d] 46) := ⟨_, rfl⟩
            have bx15 := bx13.alloc (.cells #[.int .i64 s.a, .int .i64 s.b, .int .i64 s.c, .int .i64 s.d, .int .i64 u.a, .int .i64 u.b, .int .i64 u.c, .int .i64 u.d] 46)
            have bY15 := bY13.alloc (.cells #[.int .i64 s.a, .int .i64 s.b, .int .i64 s.c, .int .i64 s.d, .int .i64 u.a, .int .i64 u.b, .int .i64 u.c, .int .i64 u.d] 46)
            have bz15 := bz13.alloc (.cells #[.int .i64 s.a, .int .i64 s.b, .int .i64 s.c, .int .i64 s.d, .int .i64 u.a, .int .i64 u.b, .int .i64 u.c, .int .i64 u.d] 46)
            have bX15 := bX13.alloc (.cells #[.int .i64 s.a, .int .i64 s.b, .int .i64 s.c, .int .i64 s.d, .int .i64 u.a, .int .i64 u.b, .int .i64 u.c, .int .i64 u.d] 46)
            have hB15 := hB13.alloc hB13.size (.cells #[.int .i64 s.a, .int .i64 s.b, .int .i64 s.c, .int .i64 s.d, .int .i64 u.a, .int .i64 u.b, .int .i64 u.c, .int .i64 u.d] 46)
            have bN15 : Box v15 v13.heap.size 46 #[.int .i64 s.a, .int .i64 s.b, .int .i64 s.c, .int .i64 s.d, .int .i64 u.a, .int .i64 u.b, .int .i64 u.c, .int .i64 u.d] := by rw [hv15]; exact Box.made rfl
            clear z0 z1 z2 z3 f0 f1 f2 f3 hz e0 e1 e2 e3 he
            obtain ⟨z0, z1, z2, z3, f0, f1, f2, f3, hz⟩ := bx15.cells4
            obtain ⟨e0, e1, e2, e3, -, -, -, -, he⟩ := bY15.cells4
            refine hK.out _ _ ⟨e0, e1, e2, e3⟩ (fun hHeld => ?_)
            clear hK K'
            try simp only [Act.put, List.setIfInBounds_toArray, List.set_cons_zero, List.set_cons_succ]
            refine wpAnyH_ready (rs := [7]) (by kernel_rfl) (by simp) ?_
            refine AllReadyH.cons (o := ⟨some 28, _, _, _, _, _⟩) rfl (fun K' hK => ?_) AllReadyH.nil
            go_simp
            go_at_call 29
            refine (sum_any (some ⟨v13.heap.size, 0, none⟩) 2 2 (fun i => if i = 0 then s else u) 9000000000000000000 _ (by decide) (NumsAt.two (by first | exact Box.made rfl | (rw [← hv15]; exact bN15))) HSB.out (by decide)).mono ?_
            rintro r v16 ⟨rfl, hb16⟩
            rw [HSU.out]
            have hc16 : Below (v13.alloc (.cells #[.int .i64 s.a, .int .i64 s.b, .int .i64 s.c, .int .i64 s.d, .int .i64 u.a, .int .i64 u.b, .int .i64 u.c, .int .i64 u.d] 46)).heap.size (v13.alloc (.cells #[.int .i64 s.a, .int .i64 s.b, .int .i64 s.c, .int .i64 s.d, .int .i64 u.a, .int .i64 u.b, .int .i64 u.c, .int .i64 u.d] 46)) v16 := by first | exact hb16 | exact below_of_drew hb16 | exact ⟨hb16.os, hb16.tape, hb16.output, hb16.size, hb16.block⟩
            have bx16 := bx15.below hc16
            have bY16 := bY15.below hc16
            have bz16 := bz15.below hc16
            have bX16 := bX15.below hc16
            have hB16 := hB15.trans (hc16.mono hB15.size)
            clear z0 z1 z2 z3 f0 f1 f2 f3 hz e0 e1 e2 e3 he
            obtain ⟨z0, z1, z2, z3, f0, f1, f2, f3, hz⟩ := bx16.cells4
            obtain ⟨e0, e1, e2, e3, -, -, -, -, he⟩ := bY16.cells4
            go_wp2_with fail
            refine hK.out _ _ ⟨e0, e1, e2, e3⟩ (fun hHeld => ?_)
            clear hK K'
            try simp only [Act.put, List.setIfInBounds_toArray, List.set_cons_zero, List.set_cons_succ]
            refine wpAnyH_ready (rs := [8]) (by kernel_rfl) (by simp) ?_
            refine AllReadyH.cons (o := ⟨none, _, _, _, _, _⟩) rfl (fun K' hK => ?_) AllReadyH.nil
            go_simp
            have bY17 := bY16.other4 (c := w.heap.size + 1 + 1 + 1) (by omega) (.int .i64 tt.a) (.int .i64 tt.b) (.int .i64 tt.c) (.int .i64 tt.d)
            refine hK.out _ _ (by obtain ⟨e0, e1, e2, e3, -⟩ := bY17.cells4; exact ⟨e0, e1, e2, e3⟩) (fun hHeld => ?_)
            clear hK K'
            try simp only [Act.put, List.setIfInBounds_toArray, List.set_cons_zero, List.set_cons_succ]
            have HX17 := hide (bx16.put4 (.int .i64 tt.a) (.int .i64 tt.b) (.int .i64 tt.c) (.int .i64 tt.d))
            have HZ17 := hide (bz16.other4 (c := w.heap.size + 1 + 1 + 1) (by omega) (.int .i64 tt.a) (.int .i64 tt.b) (.int .i64 tt.c) (.int .i64 tt.d))
            have HL17 := hide (Below.put4 (c := w.heap.size + 1 + 1 + 1) hB16 (by omega) (.int .i64 tt.a) (.int .i64 tt.b) (.int .i64 tt.c) (.int .i64 tt.d))
            have HY17 := hide bY17
            clear z0 z1 z2 z3 f0 f1 f2 f3 hz e0 e1 e2 e3 he
            refine wpAnyH_done (by kernel_rfl) ?_ _
            go_wp2_with fail
            go_roundw
            case rel => exact ⟨j + 1, by omega, by go_num, HY17.out, HZ17.out, by rw [HSS.out]; exact HX17.out, HL17.out⟩
            case measure => simp [Go.RowKit.intOf]; omega
    · obtain rfl : j = 4 := by omega
      have HR := hide (HP.out.trans hs)
      obtain ⟨x0, x1, x2, x3, f0, f1, f2, f3, hlx⟩ := bx.cells4
      obtain ⟨y0, y1, y2, y3, g0, g1, g2, g3, hly⟩ := bz.cells4
      have HC := hide (bz.put4 (.int .i64 s.a) (.int .i64 s.b) (.int .i64 s.c) (.int .i64 s.d)).cells4
      have HBL := hide (Below.put4 (c := w.heap.size + 1 + 1) hB (by omega) (.int .i64 s.a) (.int .i64 s.b) (.int .i64 s.c) (.int .i64 s.d))
      clear bY bz bx hB hs
      go_wp2_with fail
      clear y0 y1 y2 y3
      obtain ⟨y0, y1, y2, y3, -⟩ := HC.out
      refine bodyPost_ret (v := .agg #[.int .i64 s.a, .int .i64 s.b, .int .i64 s.c, .int .i64 s.d]) ?_ rfl ⟨by rw [HR.out], HBL.out⟩
      simp [results, Try.results30, go_sem, y0, y1, y2, y3]
end Go.Proofs.Ytcndeegfkgfnkaa
/- numberOf, conjugate of the code. -/
namespace Go.Proofs.Ytcndeegfkgfnkaa
open Go.RowKit
set_option maxHeartbeats 1000000 in
theorem numberOf_any (p q : Int) (w : World) :
    Calls Try.prog 31 #[.agg #[.int .i64 p, .int .i64 q]] w fun e w' => e = .returned (.agg #[.int .i64 p, .int .i64 0, .int .i64 q, .int .i64 0]) ∧ Below w.heap.size w w' := by
  have hb : Box ((w.alloc (.cells #[.int .i64 p, .int .i64 q] 39)).alloc (.cells #[.int .i64 p, .int .i64 0, .int .i64 q, .int .i64 0] 46)) (w.heap.size + 1) 46 #[.int .i64 p, .int .i64 0, .int .i64 q, .int .i64 0] := Box.made (by simp)
  have HCE := hide hb.cells4
  clear hb
  go_enter Try.func31, Try.ntmps31
  go_wp2_with fail
  obtain ⟨y0, y1, y2, y3, -⟩ := HCE.out
  refine bodyPost_ret (v := .agg #[.int .i64 p, .int .i64 0, .int .i64 q, .int .i64 0]) ?_ rfl ⟨rfl, by (repeat (first | (with_reducible exact Below.refl _ _) | (with_reducible refine Go.below_drewN ?_ _) | (with_reducible refine Below.drew ?_) | (with_reducible refine Below.alloc ?_ (by first | exact Nat.le_refl _ | (simp; done) | (simp; omega) | omega) _) | (with_reducible refine Below.setCell ?_ (by first | exact Nat.le_refl _ | (simp; done) | (simp; omega) | omega) _)))⟩
  simp [results, Try.results31, go_sem, y0, y1, y2, y3]
set_option maxHeartbeats 1000000 in
theorem conjugate_any (x : Num) (w : World) (hx : x.Within 4611686018427387904) :
    Calls Try.prog 38 #[.agg #[.int .i64 x.a, .int .i64 x.b, .int .i64 x.c, .int .i64 x.d]] w fun e w' => e = .returned (.agg #[.int .i64 x.conj.a, .int .i64 x.conj.b, .int .i64 x.conj.c, .int .i64 x.conj.d]) ∧ Below w.heap.size w w' := by
  obtain ⟨⟨a1, a2⟩, ⟨b1, b2⟩, ⟨c1, c2⟩, ⟨d1, d2⟩⟩ := hx
  have q1 : IntKind.i64.wrap (-x.b) = -x.b := IntWalk.i64_in _ (by omega)
  have q2 : IntKind.i64.wrap (-x.c) = -x.c := IntWalk.i64_in _ (by omega)
  have q3 : IntKind.i64.wrap (-x.d) = -x.d := IntWalk.i64_in _ (by omega)
  clear a1 a2 b1 b2 c1 c2 d1 d2
  have hb : Box ((w.alloc (.cells #[.int .i64 x.a, .int .i64 x.b, .int .i64 x.c, .int .i64 x.d] 46)).alloc (.cells #[.int .i64 x.a, .int .i64 (-x.d), .int .i64 (-x.c), .int .i64 (-x.b)] 46)) (w.heap.size + 1) 46 #[.int .i64 x.a, .int .i64 (-x.d), .int .i64 (-x.c), .int .i64 (-x.b)] := Box.made (by simp)
  have HCE := hide hb.cells4
  clear hb
  go_enter Try.func38, Try.ntmps38
  go_wp2_with fail
  obtain ⟨y0, y1, y2, y3, -⟩ := HCE.out
  refine bodyPost_ret (v := .agg #[.int .i64 x.a, .int .i64 (-x.d), .int .i64 (-x.c), .int .i64 (-x.b)]) ?_ rfl ⟨rfl, by (repeat (first | (with_reducible exact Below.refl _ _) | (with_reducible refine Go.below_drewN ?_ _) | (with_reducible refine Below.drew ?_) | (with_reducible refine Below.alloc ?_ (by first | exact Nat.le_refl _ | (simp; done) | (simp; omega) | omega) _) | (with_reducible refine Below.setCell ?_ (by first | exact Nat.le_refl _ | (simp; done) | (simp; omega) | omega) _)))⟩
  simp [results, Try.results38, go_sem, y0, y1, y2, y3]
end Go.Proofs.Ytcndeegfkgfnkaa
