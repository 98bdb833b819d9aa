/- The law SymbolSigns of the chapter 03 symbol returns true for every argument, and leaves what came in as it was. No condition on the arguments. -/
import Derived.Test.YtceohaeebdhmjaaRows
import Derived.WalkKit
import Derived.ProofKit
import Derived.OpenShut
import Derived.ShutString
import Derived.ChangeOld
import Derived.Below
import Derived.Lib.SmallJoins
import Derived.Deep.Strs
import Derived.Deep.Slices
import Derived.Test.YtceohaeebdhmjaaGxW2
namespace Go.Proofs.Ytceohaeebdhmjaa.symbolSigns
open Go.ChangeShapes Go.WideShapes Go.ChangeAt Go.RowKit Go.Joins
open Go.ChangeMaps (open_string shut_string)
open Go.Deep (trod_struct3)
set_option linter.unusedVariables false
set_option linter.unusedSimpArgs false
theorem own : ownKnob Try.prog.godebug = none := by kernel_rfl
theorem laidOut : laidOutB Try.prog = true := by kernel_rfl
def IsRow (k : IntKind) (w : World) (a : Option Addr) (len cap : Nat) (zs : List Int) : Prop :=
  (a = none ∧ len = 0 ∧ cap = 0 ∧ zs = []) ∨
  ∃ x, a = some x ∧ len ≤ cap ∧ cap ≤ maxLen ∧ zs.length = cap ∧ (∀ i, i < zs.length → w.cell? (x.add i) = some (.int k (zs.getD i 0))) ∧ ∀ n ∈ zs, (Lit.int k n).wf = true
theorem ints_of_row {w : World} {a : Option Addr} {len cap : Nat} {zs : List Int} (h : IsRow .i64 w a len cap zs) : len ≤ 9223372036854775807 ∧ IntsAt w 0 a len (fun j => zs.getD j 0) ∧ (∀ j, -9223372036854775808 ≤ zs.getD j 0 ∧ zs.getD j 0 ≤ 9223372036854775807) ∧ len ≤ cap ∧ cap ≤ 9223372036854775807 := by
  have hm9 : maxLen ≤ 9223372036854775807 := by decide
  rcases h with ⟨rfl, rfl, rfl, rfl⟩ | ⟨x, rfl, hl, hm, hz, hc, hw⟩
  · exact ⟨Nat.zero_le _, IntsAt.nil_, fun j => by simp, Nat.le_refl _, Nat.zero_le _⟩
  · refine ⟨by omega, fun k hk => ?_, fun j => ?_, hl, by omega⟩
    · obtain ⟨b, off, rfl, hc'⟩ := ints_at hc (by omega)
      have hk' := hc' k (by omega)
      exact ⟨b, off, rfl, Nat.zero_le _, World.block_lt_of_cell? w _ hk', hk'⟩
    · by_cases hj : j < zs.length
      · have h1 : zs.getD j 0 ∈ zs := by rw [List.getD_eq_getElem?_getD, List.getElem?_eq_getElem hj]; exact List.getElem_mem _
        exact bounds_i64 (hw _ h1)
      · rw [List.getD_eq_getElem?_getD, List.getElem?_eq_none (by omega)]; decide
theorem open_field_ints {H : Type} {enc : TypeId × Value → H} {W : World} {n : Nat} {v : Value} {y : DataW H × List MemPlace} (h : DataW.trod enc Try.prog W 0 (fun _ => true) true n 59 [v] = some y) :
    ∃ a len cap zs, v = .slice a len cap ∧ IsRow .i64 W a len cap zs := by
  rcases open_ints Try.underlying59 Try.underlying3 (by kernel_rfl) h with ⟨hcs, _⟩ | ⟨x, l, c, zs, hcs, _, hl, hm, hz, _, hcell, hwz⟩
  · simp at hcs
    subst hcs
    exact ⟨_, _, _, [], rfl, .inl ⟨rfl, rfl, rfl, rfl⟩⟩
  · simp at hcs
    subst hcs
    exact ⟨_, _, _, zs, rfl, .inr ⟨_, rfl, hl, hm, by simpa using hz, hcell, hwz⟩⟩
theorem open_row {H : Type} {enc : TypeId × Value → H} {W : World} {a : Option Addr} {len cap : Nat} {d : DataW H} {p : List MemPlace} (h : DataW.Trod enc Try.prog W 0 (fun _ => true) true 59 (.slice a len cap) d p) : ∃ zs, IsRow .i64 W a len cap zs := by
  obtain ⟨fuel, hf⟩ := h
  obtain ⟨a', len', cap', zs, h1, h2⟩ := open_field_ints (v := .slice a len cap) hf
  injection h1 with e1 e2 e3
  subst e1; subst e2; subst e3
  exact ⟨zs, h2⟩
theorem plain_at {W : World} {a : Addr} {v : Value} (h : W.cell? (a.add 0) = some v) : ∃ b off, a = ⟨b, off, none⟩ := by
  obtain ⟨b, off, spot⟩ := a
  have hspot : spot = none := by simpa [Addr.add] using World.cell?_spot h
  subst hspot
  exact ⟨b, off, rfl⟩
instance : Inhabited Gau := ⟨Gau.zero⟩
theorem cells_gaus : Try.prog.cellsOf 43 = 2 := by kernel_rfl
theorem cellsI_gaus : Try.prog.cellsOf 3 = 1 := by kernel_rfl
theorem open_one_gaus {H : Type} {enc : TypeId × Value → H} {W : World} {n base : Nat} {x : Addr} {y : DataW H × List MemPlace} {cs : List Value} (hc : W.cells? base x 2 = some cs) (h : DataW.trod enc Try.prog W 0 (fun _ => true) true n 43 cs = some y) :
    ∃ q : Gau, W.cell? (x.add 0) = some (.int .i64 q.re) ∧ W.cell? (x.add 1) = some (.int .i64 q.im) := by
  obtain ⟨-, hlen, hat⟩ := World.cells?_some hc
  match cs, hlen with
  | [c0, c1], _ =>
    obtain ⟨y0, y1, q, -, -, g0, g1⟩ := trod_struct2 Try.underlying43 h
    simp [Value.cells, cellsI_gaus] at g0 g1
    obtain ⟨p0, e0, -, -⟩ := DataW.trod_int Try.underlying3 g0
    obtain ⟨p1, e1, -, -⟩ := DataW.trod_int Try.underlying3 g1
    simp at e0 e1
    subst e0
    subst e1
    exact ⟨⟨p0, p1⟩, hat 0 (by decide), hat 1 (by decide)⟩
theorem open_field_gaus {H : Type} {enc : TypeId × Value → H} {W : World} {n : Nat} {v : Value} {y : DataW H × List MemPlace} (h : DataW.trod enc Try.prog W 0 (fun _ => true) true n 22 [v] = some y) :
    ∃ (a : Option Addr) (len cap : Nat) (F : Nat → Gau), v = .slice a len cap ∧ (len ≤ 9223372036854775807 ∧ len ≤ cap) ∧ GausAt W 0 a len F := by
  have hm9 : maxLen ≤ 9223372036854775807 := by decide
  rcases Go.Deep.open_slice Try.underlying22 h with ⟨hcs, _⟩ | ⟨x, l, c, m, n', D, Pl, hcs, _, hl, hm, hmm, _, hi⟩
  · simp at hcs
    subst hcs
    exact ⟨none, 0, 0, fun _ => Gau.zero, rfl, ⟨Nat.zero_le _, Nat.le_refl _⟩, fun i hi => absurd hi (Nat.not_lt_zero _)⟩
  · simp at hcs
    subst hcs
    simp only [if_true] at hmm
    have each : ∀ i, i < l → ∃ q : Gau, W.cell? ((x.add (i * 2)).add 0) = some (.int .i64 q.re) ∧ W.cell? ((x.add (i * 2)).add 1) = some (.int .i64 q.im) := fun i hil => by
      obtain ⟨cs', hc, ht⟩ := hi i (by omega)
      rw [cells_gaus] at hc
      exact open_one_gaus hc ht
    obtain ⟨f, hf⟩ := Go.Deep.choose_lt each
    refine ⟨some x, l, c, f, rfl, ⟨by omega, hl⟩, fun i hil => ?_⟩
    obtain ⟨k0, k1⟩ := hf i hil
    obtain ⟨j0, -⟩ := hf 0 (by omega)
    rw [Nat.zero_mul, Go.Deep.add_add, Nat.zero_add] at j0
    obtain ⟨b, off, rfl⟩ := plain_at j0
    rw [Go.Deep.add_add, Go.WideShapes.add_plain] at k0 k1
    rw [Nat.add_zero] at k0
    rw [← Nat.add_assoc] at k1
    exact ⟨b, off, rfl, Nat.zero_le _, World.block_lt_of_cell? W _ k0, k0, k1⟩
theorem open_top_gaus {H : Type} {enc : TypeId × Value → H} {W : World} {a : Option Addr} {len cap : Nat} {d : DataW H} {p : List MemPlace} (h : DataW.Trod enc Try.prog W 0 (fun _ => true) true 22 (.slice a len cap) d p) : (len ≤ 9223372036854775807 ∧ len ≤ cap) ∧ ∃ F, GausAt W 0 a len F := by
  obtain ⟨fuel, hf⟩ := h
  obtain ⟨a', len', cap', F, h1, h2, h3⟩ := open_field_gaus (v := .slice a len cap) hf
  injection h1 with e1 e2 e3
  subst e1; subst e2; subst e3
  exact ⟨h2, F, h3⟩
theorem cells73 : Try.prog.cellsOf 73 = 2 := by kernel_rfl
set_option maxRecDepth 100000 in
theorem walk (a0 : Int) (a1 : Option Addr) (len1 cap1 : Nat) (z1 : List Int) (a2_0 : Int) (a2_1 : Option Addr) (len2_1 cap2_1 : Nat) (f2_1 : Nat → Gau) (w : World) (w0 : (Lit.int .i64 a0).wf = true) (w1 : IsRow .i64 w a1 len1 cap1 z1) (w2_0 : (Lit.int .i64 a2_0).wf = true) (w2_1 : (len2_1 ≤ 9223372036854775807 ∧ len2_1 ≤ cap2_1) ∧ GausAt w 0 a2_1 len2_1 f2_1) :
    Calls Try.prog 8 #[.int .i64 a0, .slice a1 len1 cap1, .agg #[.int .i64 a2_0, .slice a2_1 len2_1 cap2_1]] w fun e w' => e = .returned (.bool true) ∧ Below w.heap.size w w' := by
  exact symbolSigns_walk a0 a2_0 a1 a2_1 len1 cap1 len2_1 cap2_1 (fun j => z1.getD j 0) f2_1 w (ints_of_row w1).2.1 w2_1.2
set_option maxRecDepth 100000 in
theorem lifted (os : Os) (started : os.Started) (H : Type) (enc : TypeId × Value → H) :
    ReturnsInHanded {} Try.checked os 8 .any (Rows.symbolSignsSpec.pre6 enc Try.prog Try.f8 Rows.symbolSignsRow.domain false) (Rows.symbolSignsSpec.post enc Try.prog Try.f8 false true false false) := by
  refine returnsInHanded_of_change (C := Try.checked) own started (by kernel_rfl) Try.func8
    (ChangeSpec.witness6 (enc := enc) (C := Try.checked) false ⟨#[], #[.int .i64 0, .slice none 0 0, .agg #[.int .i64 0, .slice none 0 0]], []⟩ 8 (by kernel_rfl) (by kernel_rfl) (by kernel_rfl) (by kernel_rfl)) ?_
  intro W base args ds gs before hval0 hW hcnd _
  have hval : ∀ (j : Nat) t v, Try.f8.params[j]? = some t → args[j]? = some v → Value.okWide Try.prog W .any base t v := hval0
  have hW' := hW
  obtain ⟨p, q, hA0, hV, rfl, hfz, hnd⟩ := hW
  have hA : DataW.TrodAll enc Try.prog W 0 (fun _ => true) true Try.f8.params.toList args.toList ds p := hA0
  rw [Try.params8] at hA hval
  obtain ⟨v0, vs0, d0, ds0, p0, q0, hargs, rfl, rfl, h0, r0⟩ := trodAll_cons hA
  obtain ⟨v1, vs1, d1, ds1, p1, q1, rfl, rfl, rfl, h1, r1⟩ := trodAll_cons r0
  obtain ⟨v2, vs2, d2, ds2, p2, q2, rfl, rfl, rfl, h2, r2⟩ := trodAll_cons r1
  obtain ⟨rfl, rfl, rfl⟩ := trodAll_nil r2
  obtain rfl : args = #[v0, v1, v2] := by cases args; simp_all
  obtain ⟨rfl, rfl⟩ := trodVars_none hV
  have lt0 : ∀ x ∈ p0, x.block < W.heap.size := by obtain ⟨m, hm⟩ := h0; exact DataW.trod_lt m _ _ _ hm
  have u0 := hval 0 3 v0 rfl rfl
  have lt1 : ∀ x ∈ p1, x.block < W.heap.size := by obtain ⟨m, hm⟩ := h1; exact DataW.trod_lt m _ _ _ hm
  have u1 := hval 1 59 v1 rfl rfl
  have lt2 : ∀ x ∈ p2, x.block < W.heap.size := by obtain ⟨m, hm⟩ := h2; exact DataW.trod_lt m _ _ _ hm
  have u2 := hval 2 73 v2 rfl rfl
  have k0 := h0
  obtain ⟨a0, rfl, -, -, w0⟩ := open_int Try.underlying3 u0 h0
  have k1 := h1
  obtain ⟨a1, len1, cap1, rfl⟩ := okWide_slice Try.underlying59 u1
  obtain ⟨z1, w1⟩ := open_row h1
  have k2 := h2
  obtain ⟨c2_0, c2_1, y2_0, y2_1, m2, rfl, -, -, hy2_0, hy2_1⟩ := open_agg2 Try.underlying73 (by kernel_rfl) cells73 u2 h2
  obtain ⟨a2_0, e2_0, -, w2_0⟩ := DataW.trod_int Try.underlying3 hy2_0
  simp at e2_0
  subst e2_0
  obtain ⟨a2_1, len2_1, cap2_1, f2_1, rfl, w2_1⟩ := open_field_gaus hy2_1
  clear hA0 hval0
  refine (walk a0 a1 len1 cap1 z1 a2_0 a2_1 len2_1 cap2_1 f2_1 W w0 w1 w2_0 w2_1).mono fun e W' ⟨he, bel⟩ => ?_
  subst he
  exact ⟨_, rfl, _, _, _, [], _, [], hW', trodAll_mk1 (shut_bool Try.underlying4 _), (trodAll_cons_mk (Below.trod laidOut (by kernel_rfl) (of_decide_eq_true (by kernel_rfl)) k0 bel lt0) (trodAll_cons_mk (Below.trod laidOut (by kernel_rfl) (of_decide_eq_true (by kernel_rfl)) k1 bel lt1) (trodAll_cons_mk (Below.trod laidOut (by kernel_rfl) (of_decide_eq_true (by kernel_rfl)) k2 bel lt2) trodAll_mk0))), rfl, bel.frame _, fun h => by cases h⟩
theorem over : Rows.symbolSignsRow.holds Try.pinned (OpenSpec.ofChange Rows.symbolSignsSpec) :=
  OpenClaim.holds_of_wide 8 Try.f8 rfl rfl rfl rfl rfl rfl rfl ⟨rfl, rfl, rfl, rfl, rfl⟩ rfl rfl rfl rfl rfl (by kernel_rfl) Try.func8 (by kernel_rfl)
    (of_decide_eq_true (by kernel_rfl)) (by unfold Func.isWrapper; first | (rw [if_pos (by decide +kernel)]; kernel_rfl) | (rw [if_neg (by decide +kernel)]; exact ⟨rfl, rfl⟩))
    (fun os started H enc _ => lifted os started H enc)
theorem proved : Rows.SymbolSignsSaid := over
end Go.Proofs.Ytceohaeebdhmjaa.symbolSigns
