/- The law TopSymbolLink of the chapter 03 symbol returns true for every argument, and leaves what came in as it was. No condition on the arguments. -/
import Derived.Test.YtcdplfjegopmdaaGreatRows
import Derived.WalkKit
import Derived.ProofKit
import Derived.OpenShut
import Derived.ShutString
import Derived.ChangeOld
import Derived.Below
import Derived.Lib.SmallJoins
import Derived.Deep.Strs
import Derived.Deep.Slices
import Derived.Test.YtcdplfjegopmdaaGreatLxW
namespace Go.Proofs.YtcdplfjegopmdaaGreat.topSymbolLink
open Go.ChangeShapes Go.WideShapes Go.ChangeAt Go.RowKit Go.Joins
open Go.ChangeMaps (open_string shut_string)
open Go.Deep (trod_struct3)
set_option linter.unusedVariables false
set_option linter.unusedSimpArgs false
theorem own : ownKnob Tryz.prog.godebug = none := by kernel_rfl
theorem laidOut : laidOutB Tryz.prog = true := by kernel_rfl
def IsRow (k : IntKind) (w : World) (a : Option Addr) (len cap : Nat) (zs : List Int) : Prop :=
  (a = none ∧ len = 0 ∧ cap = 0 ∧ zs = []) ∨
  ∃ x, a = some x ∧ len ≤ cap ∧ cap ≤ maxLen ∧ zs.length = cap ∧ (∀ i, i < zs.length → w.cell? (x.add i) = some (.int k (zs.getD i 0))) ∧ ∀ n ∈ zs, (Lit.int k n).wf = true
theorem ints_of_row {w : World} {a : Option Addr} {len cap : Nat} {zs : List Int} (h : IsRow .i64 w a len cap zs) : len ≤ 9223372036854775807 ∧ IntsAt w 0 a len (fun j => zs.getD j 0) ∧ (∀ j, -9223372036854775808 ≤ zs.getD j 0 ∧ zs.getD j 0 ≤ 9223372036854775807) ∧ len ≤ cap ∧ cap ≤ 9223372036854775807 := by
  have hm9 : maxLen ≤ 9223372036854775807 := by decide
  rcases h with ⟨rfl, rfl, rfl, rfl⟩ | ⟨x, rfl, hl, hm, hz, hc, hw⟩
  · exact ⟨Nat.zero_le _, IntsAt.nil_, fun j => by simp, Nat.le_refl _, Nat.zero_le _⟩
  · refine ⟨by omega, fun k hk => ?_, fun j => ?_, hl, by omega⟩
    · obtain ⟨b, off, rfl, hc'⟩ := ints_at hc (by omega)
      have hk' := hc' k (by omega)
      exact ⟨b, off, rfl, Nat.zero_le _, World.block_lt_of_cell? w _ hk', hk'⟩
    · by_cases hj : j < zs.length
      · have h1 : zs.getD j 0 ∈ zs := by rw [List.getD_eq_getElem?_getD, List.getElem?_eq_getElem hj]; exact List.getElem_mem _
        exact bounds_i64 (hw _ h1)
      · rw [List.getD_eq_getElem?_getD, List.getElem?_eq_none (by omega)]; decide
theorem open_field_ints {H : Type} {enc : TypeId × Value → H} {W : World} {n : Nat} {v : Value} {y : DataW H × List MemPlace} (h : DataW.trod enc Tryz.prog W 0 (fun _ => true) true n 24 [v] = some y) :
    ∃ a len cap zs, v = .slice a len cap ∧ IsRow .i64 W a len cap zs := by
  rcases open_ints Tryz.underlying24 Tryz.underlying3 (by kernel_rfl) h with ⟨hcs, _⟩ | ⟨x, l, c, zs, hcs, _, hl, hm, hz, _, hcell, hwz⟩
  · simp at hcs
    subst hcs
    exact ⟨_, _, _, [], rfl, .inl ⟨rfl, rfl, rfl, rfl⟩⟩
  · simp at hcs
    subst hcs
    exact ⟨_, _, _, zs, rfl, .inr ⟨_, rfl, hl, hm, by simpa using hz, hcell, hwz⟩⟩
theorem open_row {H : Type} {enc : TypeId × Value → H} {W : World} {a : Option Addr} {len cap : Nat} {d : DataW H} {p : List MemPlace} (h : DataW.Trod enc Tryz.prog W 0 (fun _ => true) true 24 (.slice a len cap) d p) : ∃ zs, IsRow .i64 W a len cap zs := by
  obtain ⟨fuel, hf⟩ := h
  obtain ⟨a', len', cap', zs, h1, h2⟩ := open_field_ints (v := .slice a len cap) hf
  injection h1 with e1 e2 e3
  subst e1; subst e2; subst e3
  exact ⟨zs, h2⟩
theorem plain_at {W : World} {a : Addr} {v : Value} (h : W.cell? (a.add 0) = some v) : ∃ b off, a = ⟨b, off, none⟩ := by
  obtain ⟨b, off, spot⟩ := a
  have hspot : spot = none := by simpa [Addr.add] using World.cell?_spot h
  subst hspot
  exact ⟨b, off, rfl⟩
instance : Inhabited Gau := ⟨Gau.zero⟩
theorem cells_gaus : Tryz.prog.cellsOf 62 = 2 := by kernel_rfl
theorem cellsI_gaus : Tryz.prog.cellsOf 3 = 1 := by kernel_rfl
theorem open_one_gaus {H : Type} {enc : TypeId × Value → H} {W : World} {n base : Nat} {x : Addr} {y : DataW H × List MemPlace} {cs : List Value} (hc : W.cells? base x 2 = some cs) (h : DataW.trod enc Tryz.prog W 0 (fun _ => true) true n 62 cs = some y) :
    ∃ q : Gau, W.cell? (x.add 0) = some (.int .i64 q.re) ∧ W.cell? (x.add 1) = some (.int .i64 q.im) := by
  obtain ⟨-, hlen, hat⟩ := World.cells?_some hc
  match cs, hlen with
  | [c0, c1], _ =>
    obtain ⟨y0, y1, q, -, -, g0, g1⟩ := trod_struct2 Tryz.underlying62 h
    simp [Value.cells, cellsI_gaus] at g0 g1
    obtain ⟨p0, e0, -, -⟩ := DataW.trod_int Tryz.underlying3 g0
    obtain ⟨p1, e1, -, -⟩ := DataW.trod_int Tryz.underlying3 g1
    simp at e0 e1
    subst e0
    subst e1
    exact ⟨⟨p0, p1⟩, hat 0 (by decide), hat 1 (by decide)⟩
theorem open_field_gaus {H : Type} {enc : TypeId × Value → H} {W : World} {n : Nat} {v : Value} {y : DataW H × List MemPlace} (h : DataW.trod enc Tryz.prog W 0 (fun _ => true) true n 32 [v] = some y) :
    ∃ (a : Option Addr) (len cap : Nat) (F : Nat → Gau), v = .slice a len cap ∧ (len ≤ 9223372036854775807 ∧ len ≤ cap) ∧ GausAt W 0 a len F := by
  have hm9 : maxLen ≤ 9223372036854775807 := by decide
  rcases Go.Deep.open_slice Tryz.underlying32 h with ⟨hcs, _⟩ | ⟨x, l, c, m, n', D, Pl, hcs, _, hl, hm, hmm, _, hi⟩
  · simp at hcs
    subst hcs
    exact ⟨none, 0, 0, fun _ => Gau.zero, rfl, ⟨Nat.zero_le _, Nat.le_refl _⟩, fun i hi => absurd hi (Nat.not_lt_zero _)⟩
  · simp at hcs
    subst hcs
    simp only [if_true] at hmm
    have each : ∀ i, i < l → ∃ q : Gau, W.cell? ((x.add (i * 2)).add 0) = some (.int .i64 q.re) ∧ W.cell? ((x.add (i * 2)).add 1) = some (.int .i64 q.im) := fun i hil => by
      obtain ⟨cs', hc, ht⟩ := hi i (by omega)
      rw [cells_gaus] at hc
      exact open_one_gaus hc ht
    obtain ⟨f, hf⟩ := Go.Deep.choose_lt each
    refine ⟨some x, l, c, f, rfl, ⟨by omega, hl⟩, fun i hil => ?_⟩
    obtain ⟨k0, k1⟩ := hf i hil
    obtain ⟨j0, -⟩ := hf 0 (by omega)
    rw [Nat.zero_mul, Go.Deep.add_add, Nat.zero_add] at j0
    obtain ⟨b, off, rfl⟩ := plain_at j0
    rw [Go.Deep.add_add, Go.WideShapes.add_plain] at k0 k1
    rw [Nat.add_zero] at k0
    rw [← Nat.add_assoc] at k1
    exact ⟨b, off, rfl, Nat.zero_le _, World.block_lt_of_cell? W _ k0, k0, k1⟩
theorem open_top_gaus {H : Type} {enc : TypeId × Value → H} {W : World} {a : Option Addr} {len cap : Nat} {d : DataW H} {p : List MemPlace} (h : DataW.Trod enc Tryz.prog W 0 (fun _ => true) true 32 (.slice a len cap) d p) : (len ≤ 9223372036854775807 ∧ len ≤ cap) ∧ ∃ F, GausAt W 0 a len F := by
  obtain ⟨fuel, hf⟩ := h
  obtain ⟨a', len', cap', F, h1, h2, h3⟩ := open_field_gaus (v := .slice a len cap) hf
  injection h1 with e1 e2 e3
  subst e1; subst e2; subst e3
  exact ⟨h2, F, h3⟩
theorem open_field_gausc {H : Type} {enc : TypeId × Value → H} {W : World} {n : Nat} {v : Value} {y : DataW H × List MemPlace} (h : DataW.trod enc Tryz.prog W 0 (fun _ => true) true n 32 [v] = some y) :
    ∃ (a : Option Addr) (len cap : Nat) (F : Nat → Gau), v = .slice a len cap ∧ len ≤ cap ∧ cap ≤ 9223372036854775807 ∧ GausAt W 0 a len F := by
  have hm9 : maxLen ≤ 9223372036854775807 := by decide
  obtain ⟨a, len, cap, F, rfl, h1, h2⟩ := open_field_gaus h
  refine ⟨a, len, cap, F, rfl, h1.2, ?_, h2⟩
  rcases Go.Deep.open_slice Tryz.underlying32 h with ⟨hcs, _⟩ | ⟨x, l, c, m, n', D, Pl, hcs, _, hl, hm, hmm, _, hi⟩
  · simp at hcs
    omega
  · simp at hcs
    omega
theorem cellsGs : Tryz.prog.cellsOf 32 = 1 := by kernel_rfl
theorem open_top_mats {H : Type} {enc : TypeId × Value → H} {W : World} {a : Option Addr} {len cap : Nat} {d : DataW H} {p : List MemPlace} (h : DataW.Trod enc Tryz.prog W 0 (fun _ => true) true 31 (.slice a len cap) d p) : len ≤ 9223372036854775807 ∧ ∃ L F, MatsAt W 0 a len L F := by
  have hm9 : maxLen ≤ 9223372036854775807 := by decide
  obtain ⟨fuel, hf⟩ := h
  rcases Go.Deep.open_slice Tryz.underlying31 hf with ⟨hcs, _⟩ | ⟨x, l, c, m, n', D, Pl, hcs, _, hl, hm, hmm, _, hi⟩
  · simp [Value.cells] at hcs
    obtain ⟨rfl, rfl, rfl⟩ := hcs
    exact ⟨Nat.zero_le _, fun _ => 0, fun _ _ => Gau.zero, MatsAt.nil_⟩
  · simp [Value.cells] at hcs
    obtain ⟨rfl, rfl, rfl⟩ := hcs
    simp only [if_true] at hmm
    have each : ∀ i, i < len → ∃ q : Option Addr × Nat × Nat × (Nat → Gau), W.cell? ((x.add (i * 1)).add 0) = some (.slice q.1 q.2.1 q.2.2.1) ∧ q.2.1 ≤ q.2.2.1 ∧ q.2.2.1 ≤ 9223372036854775807 ∧ GausAt W 0 q.1 q.2.1 q.2.2.2 := fun i hil => by
      obtain ⟨cs', hc, ht⟩ := hi i (by omega)
      rw [cellsGs] at hc
      obtain ⟨-, hlen, hat⟩ := World.cells?_some hc
      match cs', hlen with
      | [c0], _ =>
        obtain ⟨p0, l0, k0, F0, rfl, i1, i2, i3⟩ := open_field_gausc ht
        exact ⟨(p0, l0, k0, F0), hat 0 (by decide), i1, i2, i3⟩
    obtain ⟨f, hf⟩ := Go.Deep.choose_lt each
    refine ⟨by omega, fun i => (f i).2.1, fun i => (f i).2.2.2, fun i hil => ?_⟩
    obtain ⟨k0, k1, k2, k3⟩ := hf i hil
    obtain ⟨j0, -, -, -⟩ := hf 0 (by omega)
    rw [Nat.zero_mul, Go.Deep.add_add, Nat.zero_add] at j0
    obtain ⟨b, off, rfl⟩ := plain_at j0
    rw [Go.Deep.add_add, Go.WideShapes.add_plain, Nat.add_zero, Nat.mul_one] at k0
    exact ⟨b, off, _, _, rfl, Nat.zero_le _, World.block_lt_of_cell? W _ k0, k0, k1, k2, k3⟩
theorem cells34 : Tryz.prog.cellsOf 34 = 12 := by kernel_rfl
theorem open_field_mats {H : Type} {enc : TypeId × Value → H} {W : World} {n : Nat} {v : Value} {y : DataW H × List MemPlace} (h : DataW.trod enc Tryz.prog W 0 (fun _ => true) true n 31 [v] = some y) :
    ∃ (a : Option Addr) (len cap : Nat) (L : Nat → Nat) (F : Nat → Nat → Gau), v = .slice a len cap ∧ len ≤ 9223372036854775807 ∧ MatsAt W 0 a len L F := by
  rcases Go.Deep.open_slice Tryz.underlying31 h with ⟨hcs, _⟩ | ⟨x, l, c, m, n', D, Pl, hcs, _⟩
  · simp at hcs
    subst hcs
    exact ⟨none, 0, 0, fun _ => 0, fun _ _ => Gau.zero, rfl, Nat.zero_le _, MatsAt.nil_⟩
  · simp at hcs
    subst hcs
    obtain ⟨h1, L, F, h2⟩ := open_top_mats (enc := enc) (d := y.1) (p := y.2) ⟨n, h⟩
    exact ⟨_, _, _, L, F, rfl, h1, h2⟩
theorem trod_deep2 {H : Type} {enc : TypeId × Value → H} {P : Program} {w : World} {base : Nat} {spare : Nat → Bool} {held : Bool} {t : TypeId} {f0 f1 : Field} {fuel : Nat} {cs : List Value} {x : DataW H × List MemPlace} (ht : P.underlying t = some (.struct #[f0, f1])) (h : DataW.trod enc P w base spare held fuel t cs = some x) :
    ∃ y0 y1 n, DataW.trod enc P w base spare held n f0.type ((cs.drop f0.offset).take (P.cellsOf f0.type)) = some y0 ∧ DataW.trod enc P w base spare held n f1.type ((cs.drop f1.offset).take (P.cellsOf f1.type)) = some y1 := by
  obtain ⟨xs, n, _, rfl, hl, hlen, hf⟩ := DataW.trod_struct ht h
  match xs, hlen with
  | [y0, y1], _ => exact ⟨y0, y1, n, by simpa using hf 0 f0 rfl, by simpa using hf 1 f1 rfl⟩
theorem trod_deep3 {H : Type} {enc : TypeId × Value → H} {P : Program} {w : World} {base : Nat} {spare : Nat → Bool} {held : Bool} {t : TypeId} {f0 f1 f2 : Field} {fuel : Nat} {cs : List Value} {x : DataW H × List MemPlace} (ht : P.underlying t = some (.struct #[f0, f1, f2])) (h : DataW.trod enc P w base spare held fuel t cs = some x) :
    ∃ y0 y1 y2 n, DataW.trod enc P w base spare held n f0.type ((cs.drop f0.offset).take (P.cellsOf f0.type)) = some y0 ∧ DataW.trod enc P w base spare held n f1.type ((cs.drop f1.offset).take (P.cellsOf f1.type)) = some y1 ∧ DataW.trod enc P w base spare held n f2.type ((cs.drop f2.offset).take (P.cellsOf f2.type)) = some y2 := by
  obtain ⟨xs, n, _, rfl, hl, hlen, hf⟩ := DataW.trod_struct ht h
  match xs, hlen with
  | [y0, y1, y2], _ => exact ⟨y0, y1, y2, n, by simpa using hf 0 f0 rfl, by simpa using hf 1 f1 rfl, by simpa using hf 2 f2 rfl⟩
theorem trod_deep6 {H : Type} {enc : TypeId × Value → H} {P : Program} {w : World} {base : Nat} {spare : Nat → Bool} {held : Bool} {t : TypeId} {f0 f1 f2 f3 f4 f5 : Field} {fuel : Nat} {cs : List Value} {x : DataW H × List MemPlace} (ht : P.underlying t = some (.struct #[f0, f1, f2, f3, f4, f5])) (h : DataW.trod enc P w base spare held fuel t cs = some x) :
    ∃ y0 y1 y2 y3 y4 y5 n, DataW.trod enc P w base spare held n f0.type ((cs.drop f0.offset).take (P.cellsOf f0.type)) = some y0 ∧ DataW.trod enc P w base spare held n f1.type ((cs.drop f1.offset).take (P.cellsOf f1.type)) = some y1 ∧ DataW.trod enc P w base spare held n f2.type ((cs.drop f2.offset).take (P.cellsOf f2.type)) = some y2 ∧ DataW.trod enc P w base spare held n f3.type ((cs.drop f3.offset).take (P.cellsOf f3.type)) = some y3 ∧ DataW.trod enc P w base spare held n f4.type ((cs.drop f4.offset).take (P.cellsOf f4.type)) = some y4 ∧ DataW.trod enc P w base spare held n f5.type ((cs.drop f5.offset).take (P.cellsOf f5.type)) = some y5 := by
  obtain ⟨xs, n, _, rfl, hl, hlen, hf⟩ := DataW.trod_struct ht h
  match xs, hlen with
  | [y0, y1, y2, y3, y4, y5], _ => exact ⟨y0, y1, y2, y3, y4, y5, n, by simpa using hf 0 f0 rfl, by simpa using hf 1 f1 rfl, by simpa using hf 2 f2 rfl, by simpa using hf 3 f3 rfl, by simpa using hf 4 f4 rfl, by simpa using hf 5 f5 rfl⟩
theorem cellsD031 : Tryz.prog.cellsOf 31 = 1 := by kernel_rfl
theorem cellsD032 : Tryz.prog.cellsOf 32 = 1 := by kernel_rfl
theorem cellsD024 : Tryz.prog.cellsOf 24 = 1 := by kernel_rfl
theorem cellsD028 : Tryz.prog.cellsOf 28 = 5 := by kernel_rfl
theorem cellsD026 : Tryz.prog.cellsOf 26 = 2 := by kernel_rfl
theorem cellsD023 : Tryz.prog.cellsOf 23 = 2 := by kernel_rfl
theorem cellsD030 : Tryz.prog.cellsOf 30 = 3 := by kernel_rfl
theorem cellsD03 : Tryz.prog.cellsOf 3 = 1 := by kernel_rfl
set_option maxRecDepth 100000 in
theorem open_nest0 {H : Type} {enc : TypeId × Value → H} {w : World} {b0 : Nat} {v : Value} {d : DataW H} {p : List MemPlace} (hv : Value.okWide Tryz.prog w .any b0 34 v) (h : DataW.Trod enc Tryz.prog w 0 (fun _ => true) true 34 v d p) :
    ∃ (a0_0 : Int) (a0_1 : Int) (a0_2 : Int) (a0_3 : Option Addr) (len0_3 cap0_3 : Nat) (z0_3 : List Int) (a0_4 : Int) (a0_5 : Int) (a0_6 : Int) (a0_7 : Option Addr) (len0_7 cap0_7 : Nat) (z0_7 : List Int) (a0_8 : Option Addr) (len0_8 cap0_8 : Nat) (z0_8 : List Int) (a0_9 : Int) (a0_10 : Option Addr) (len0_10 cap0_10 : Nat) (l0_10 : Nat → Nat) (z0_10 : Nat → Nat → Gau) (a0_11 : Option Addr) (len0_11 cap0_11 : Nat) (f0_11 : Nat → Gau), v = .agg #[.int .i64 a0_0, .int .i64 a0_1, .int .i64 a0_2, .slice a0_3 len0_3 cap0_3, .int .i64 a0_4, .int .i64 a0_5, .int .i64 a0_6, .slice a0_7 len0_7 cap0_7, .slice a0_8 len0_8 cap0_8, .int .i64 a0_9, .slice a0_10 len0_10 cap0_10, .slice a0_11 len0_11 cap0_11] ∧ ((Lit.int .i64 a0_0).wf = true) ∧ ((Lit.int .i64 a0_1).wf = true) ∧ ((Lit.int .i64 a0_2).wf = true) ∧ (IsRow .i64 w a0_3 len0_3 cap0_3 z0_3) ∧ ((Lit.int .i64 a0_4).wf = true) ∧ ((Lit.int .i64 a0_5).wf = true) ∧ ((Lit.int .i64 a0_6).wf = true) ∧ (IsRow .i64 w a0_7 len0_7 cap0_7 z0_7) ∧ (IsRow .i64 w a0_8 len0_8 cap0_8 z0_8) ∧ ((Lit.int .i64 a0_9).wf = true) ∧ (len0_10 ≤ 9223372036854775807 ∧ MatsAt w 0 a0_10 len0_10 l0_10 z0_10) ∧ ((len0_11 ≤ 9223372036854775807 ∧ len0_11 ≤ cap0_11) ∧ GausAt w 0 a0_11 len0_11 f0_11) := by
  obtain ⟨cs, rfl, hsz⟩ := okWide_struct Tryz.underlying34 hv
  obtain ⟨l⟩ := cs
  match l, hsz.trans cells34 with
  | [c0, c1, c2, c3, c4, c5, c6, c7, c8, c9, c10, c11], _ =>
    obtain ⟨fuel, hf⟩ := h
    obtain ⟨y0_0, y0_1, y0_2, y0_3, y0_4, y0_5, n0, g0_0, g0_1, g0_2, g0_3, g0_4, g0_5⟩ := trod_deep6 Tryz.underlying34 hf
    simp [Value.cells, cellsD031, cellsD032, cellsD024, cellsD028, cellsD026, cellsD023, cellsD030, cellsD03] at g0_0
    obtain ⟨y1_0, y1_1, y1_2, n1, g1_0, g1_1, g1_2⟩ := trod_deep3 Tryz.underlying28 g0_0
    simp [Value.cells, cellsD031, cellsD032, cellsD024, cellsD028, cellsD026, cellsD023, cellsD030, cellsD03] at g1_0
    obtain ⟨y2_0, y2_1, n2, g2_0, g2_1⟩ := trod_deep2 Tryz.underlying23 g1_0
    simp [Value.cells, cellsD031, cellsD032, cellsD024, cellsD028, cellsD026, cellsD023, cellsD030, cellsD03] at g2_0
    obtain ⟨a0_0, e0_0, -, w0_0⟩ := DataW.trod_int Tryz.underlying3 g2_0
    simp at e0_0
    subst e0_0
    simp [Value.cells, cellsD031, cellsD032, cellsD024, cellsD028, cellsD026, cellsD023, cellsD030, cellsD03] at g2_1
    obtain ⟨a0_1, e0_1, -, w0_1⟩ := DataW.trod_int Tryz.underlying3 g2_1
    simp at e0_1
    subst e0_1
    simp [Value.cells, cellsD031, cellsD032, cellsD024, cellsD028, cellsD026, cellsD023, cellsD030, cellsD03] at g1_1
    obtain ⟨y3_0, y3_1, n3, g3_0, g3_1⟩ := trod_deep2 Tryz.underlying26 g1_1
    simp [Value.cells, cellsD031, cellsD032, cellsD024, cellsD028, cellsD026, cellsD023, cellsD030, cellsD03] at g3_0
    obtain ⟨a0_2, e0_2, -, w0_2⟩ := DataW.trod_int Tryz.underlying3 g3_0
    simp at e0_2
    subst e0_2
    simp [Value.cells, cellsD031, cellsD032, cellsD024, cellsD028, cellsD026, cellsD023, cellsD030, cellsD03] at g3_1
    obtain ⟨a0_3, len0_3, cap0_3, z0_3, rfl, w0_3⟩ := open_field_ints g3_1
    simp [Value.cells, cellsD031, cellsD032, cellsD024, cellsD028, cellsD026, cellsD023, cellsD030, cellsD03] at g1_2
    obtain ⟨a0_4, e0_4, -, w0_4⟩ := DataW.trod_int Tryz.underlying3 g1_2
    simp at e0_4
    subst e0_4
    simp [Value.cells, cellsD031, cellsD032, cellsD024, cellsD028, cellsD026, cellsD023, cellsD030, cellsD03] at g0_1
    obtain ⟨a0_5, e0_5, -, w0_5⟩ := DataW.trod_int Tryz.underlying3 g0_1
    simp at e0_5
    subst e0_5
    simp [Value.cells, cellsD031, cellsD032, cellsD024, cellsD028, cellsD026, cellsD023, cellsD030, cellsD03] at g0_2
    obtain ⟨y4_0, y4_1, y4_2, n4, g4_0, g4_1, g4_2⟩ := trod_deep3 Tryz.underlying30 g0_2
    simp [Value.cells, cellsD031, cellsD032, cellsD024, cellsD028, cellsD026, cellsD023, cellsD030, cellsD03] at g4_0
    obtain ⟨a0_6, e0_6, -, w0_6⟩ := DataW.trod_int Tryz.underlying3 g4_0
    simp at e0_6
    subst e0_6
    simp [Value.cells, cellsD031, cellsD032, cellsD024, cellsD028, cellsD026, cellsD023, cellsD030, cellsD03] at g4_1
    obtain ⟨a0_7, len0_7, cap0_7, z0_7, rfl, w0_7⟩ := open_field_ints g4_1
    simp [Value.cells, cellsD031, cellsD032, cellsD024, cellsD028, cellsD026, cellsD023, cellsD030, cellsD03] at g4_2
    obtain ⟨a0_8, len0_8, cap0_8, z0_8, rfl, w0_8⟩ := open_field_ints g4_2
    simp [Value.cells, cellsD031, cellsD032, cellsD024, cellsD028, cellsD026, cellsD023, cellsD030, cellsD03] at g0_3
    obtain ⟨a0_9, e0_9, -, w0_9⟩ := DataW.trod_int Tryz.underlying3 g0_3
    simp at e0_9
    subst e0_9
    simp [Value.cells, cellsD031, cellsD032, cellsD024, cellsD028, cellsD026, cellsD023, cellsD030, cellsD03] at g0_4
    obtain ⟨a0_10, len0_10, cap0_10, l0_10, z0_10, rfl, w0_10⟩ := open_field_mats g0_4
    simp [Value.cells, cellsD031, cellsD032, cellsD024, cellsD028, cellsD026, cellsD023, cellsD030, cellsD03] at g0_5
    obtain ⟨a0_11, len0_11, cap0_11, f0_11, rfl, w0_11⟩ := open_field_gaus g0_5
    exact ⟨a0_0, a0_1, a0_2, a0_3, len0_3, cap0_3, z0_3, a0_4, a0_5, a0_6, a0_7, len0_7, cap0_7, z0_7, a0_8, len0_8, cap0_8, z0_8, a0_9, a0_10, len0_10, cap0_10, l0_10, z0_10, a0_11, len0_11, cap0_11, f0_11, rfl, w0_0, w0_1, w0_2, w0_3, w0_4, w0_5, w0_6, w0_7, w0_8, w0_9, w0_10, w0_11⟩
set_option maxRecDepth 100000 in
theorem walk (a0_0 : Int) (a0_1 : Int) (a0_2 : Int) (a0_3 : Option Addr) (len0_3 cap0_3 : Nat) (z0_3 : List Int) (a0_4 : Int) (a0_5 : Int) (a0_6 : Int) (a0_7 : Option Addr) (len0_7 cap0_7 : Nat) (z0_7 : List Int) (a0_8 : Option Addr) (len0_8 cap0_8 : Nat) (z0_8 : List Int) (a0_9 : Int) (a0_10 : Option Addr) (len0_10 cap0_10 : Nat) (l0_10 : Nat → Nat) (z0_10 : Nat → Nat → Gau) (a0_11 : Option Addr) (len0_11 cap0_11 : Nat) (f0_11 : Nat → Gau) (a1 : Option Addr) (len1 cap1 : Nat) (z1 : List Int) (w : World) (w0_0 : (Lit.int .i64 a0_0).wf = true) (w0_1 : (Lit.int .i64 a0_1).wf = true) (w0_2 : (Lit.int .i64 a0_2).wf = true) (w0_3 : IsRow .i64 w a0_3 len0_3 cap0_3 z0_3) (w0_4 : (Lit.int .i64 a0_4).wf = true) (w0_5 : (Lit.int .i64 a0_5).wf = true) (w0_6 : (Lit.int .i64 a0_6).wf = true) (w0_7 : IsRow .i64 w a0_7 len0_7 cap0_7 z0_7) (w0_8 : IsRow .i64 w a0_8 len0_8 cap0_8 z0_8) (w0_9 : (Lit.int .i64 a0_9).wf = true) (w0_10 : len0_10 ≤ 9223372036854775807 ∧ MatsAt w 0 a0_10 len0_10 l0_10 z0_10) (w0_11 : (len0_11 ≤ 9223372036854775807 ∧ len0_11 ≤ cap0_11) ∧ GausAt w 0 a0_11 len0_11 f0_11) (w1 : IsRow .i64 w a1 len1 cap1 z1) :
    Calls Tryz.prog 3 #[.agg #[.int .i64 a0_0, .int .i64 a0_1, .int .i64 a0_2, .slice a0_3 len0_3 cap0_3, .int .i64 a0_4, .int .i64 a0_5, .int .i64 a0_6, .slice a0_7 len0_7 cap0_7, .slice a0_8 len0_8 cap0_8, .int .i64 a0_9, .slice a0_10 len0_10 cap0_10, .slice a0_11 len0_11 cap0_11], .slice a1 len1 cap1] w fun e w' => e = .returned (.bool true) ∧ Below w.heap.size w w' := by
  exact topSymbolLink_walk a0_0 a0_1 a0_2 a0_4 a0_5 a0_6 a0_9 a0_3 a0_7 a0_8 a0_10 a0_11 a1 len0_3 cap0_3 len0_7 cap0_7 len0_8 cap0_8 len0_10 cap0_10 len0_11 cap0_11 len1 cap1 _ _ _ _ l0_10 z0_10 f0_11 w (ints_of_row w0_3).1 (ints_of_row w1).1 w0_11.1.1 (ints_of_row w0_3).2.1 (ints_of_row w0_7).2.1 (ints_of_row w0_8).2.1 w0_10.2 w0_11.2 (ints_of_row w1).2.1
set_option maxRecDepth 100000 in
theorem lifted (os : Os) (started : os.Started) (H : Type) (enc : TypeId × Value → H) :
    ReturnsInHanded {} Tryz.checked os 3 .any (Rows.topSymbolLinkSpec.pre6 enc Tryz.prog Tryz.f3 Rows.topSymbolLinkRow.domain false) (Rows.topSymbolLinkSpec.post enc Tryz.prog Tryz.f3 false true false false) := by
  refine returnsInHanded_of_change (C := Tryz.checked) own started (by kernel_rfl) Tryz.func3
    (ChangeSpec.witness6 (enc := enc) (C := Tryz.checked) false ⟨#[], #[.agg #[.int .i64 0, .int .i64 0, .int .i64 0, .slice none 0 0, .int .i64 0, .int .i64 0, .int .i64 0, .slice none 0 0, .slice none 0 0, .int .i64 0, .slice none 0 0, .slice none 0 0], .slice none 0 0], []⟩ 8 (by kernel_rfl) (by kernel_rfl) (by kernel_rfl) (by kernel_rfl)) ?_
  intro W base args ds gs before hval0 hW hcnd _
  have hval : ∀ (j : Nat) t v, Tryz.f3.params[j]? = some t → args[j]? = some v → Value.okWide Tryz.prog W .any base t v := hval0
  have hW' := hW
  obtain ⟨p, q, hA0, hV, rfl, hfz, hnd⟩ := hW
  have hA : DataW.TrodAll enc Tryz.prog W 0 (fun _ => true) true Tryz.f3.params.toList args.toList ds p := hA0
  rw [Tryz.params3] at hA hval
  obtain ⟨v0, vs0, d0, ds0, p0, q0, hargs, rfl, rfl, h0, r0⟩ := trodAll_cons hA
  obtain ⟨v1, vs1, d1, ds1, p1, q1, rfl, rfl, rfl, h1, r1⟩ := trodAll_cons r0
  obtain ⟨rfl, rfl, rfl⟩ := trodAll_nil r1
  obtain rfl : args = #[v0, v1] := by cases args; simp_all
  obtain ⟨rfl, rfl⟩ := trodVars_none hV
  have lt0 : ∀ x ∈ p0, x.block < W.heap.size := by obtain ⟨m, hm⟩ := h0; exact DataW.trod_lt m _ _ _ hm
  have u0 := hval 0 34 v0 rfl rfl
  have lt1 : ∀ x ∈ p1, x.block < W.heap.size := by obtain ⟨m, hm⟩ := h1; exact DataW.trod_lt m _ _ _ hm
  have u1 := hval 1 24 v1 rfl rfl
  have k0 := h0
  obtain ⟨a0_0, a0_1, a0_2, a0_3, len0_3, cap0_3, z0_3, a0_4, a0_5, a0_6, a0_7, len0_7, cap0_7, z0_7, a0_8, len0_8, cap0_8, z0_8, a0_9, a0_10, len0_10, cap0_10, l0_10, z0_10, a0_11, len0_11, cap0_11, f0_11, rfl, w0_0, w0_1, w0_2, w0_3, w0_4, w0_5, w0_6, w0_7, w0_8, w0_9, w0_10, w0_11⟩ := open_nest0 u0 h0
  have k1 := h1
  obtain ⟨a1, len1, cap1, rfl⟩ := okWide_slice Tryz.underlying24 u1
  obtain ⟨z1, w1⟩ := open_row h1
  clear hA0 hval0
  refine (walk a0_0 a0_1 a0_2 a0_3 len0_3 cap0_3 z0_3 a0_4 a0_5 a0_6 a0_7 len0_7 cap0_7 z0_7 a0_8 len0_8 cap0_8 z0_8 a0_9 a0_10 len0_10 cap0_10 l0_10 z0_10 a0_11 len0_11 cap0_11 f0_11 a1 len1 cap1 z1 W w0_0 w0_1 w0_2 w0_3 w0_4 w0_5 w0_6 w0_7 w0_8 w0_9 w0_10 w0_11 w1).mono fun e W' ⟨he, bel⟩ => ?_
  subst he
  exact ⟨_, rfl, _, _, _, [], _, [], hW', trodAll_mk1 (shut_bool Tryz.underlying4 _), (trodAll_cons_mk (Below.trod laidOut (by kernel_rfl) (of_decide_eq_true (by kernel_rfl)) k0 bel lt0) (trodAll_cons_mk (Below.trod laidOut (by kernel_rfl) (of_decide_eq_true (by kernel_rfl)) k1 bel lt1) trodAll_mk0)), rfl, bel.frame _, fun h => by cases h⟩
theorem over : Rows.topSymbolLinkRow.holds Tryz.pinned (OpenSpec.ofChange Rows.topSymbolLinkSpec) :=
  OpenClaim.holds_of_wide 3 Tryz.f3 rfl rfl rfl rfl rfl rfl rfl ⟨rfl, rfl, rfl, rfl, rfl⟩ rfl rfl rfl rfl rfl (by kernel_rfl) Tryz.func3 (by kernel_rfl)
    (of_decide_eq_true (by kernel_rfl)) (by unfold Func.isWrapper; first | (rw [if_pos (by decide +kernel)]; kernel_rfl) | (rw [if_neg (by decide +kernel)]; exact ⟨rfl, rfl⟩))
    (fun os started H enc _ => lifted os started H enc)
theorem proved : Rows.TopSymbolLinkSaid := over
end Go.Proofs.YtcdplfjegopmdaaGreat.topSymbolLink
