/- The law WaveFours of the chapter 04 wave returns true for every argument, and leaves what came in as it was. No condition on the arguments. -/
import Derived.Test.YtibdbopejnkefaaRows
import Derived.WalkKit
import Derived.ProofKit
import Derived.OpenShut
import Derived.ShutString
import Derived.ChangeOld
import Derived.Below
import Derived.Lib.SmallJoins
import Derived.Deep.Strs
import Derived.Deep.Slices
import Derived.Test.YtibdbopejnkefaaFoW
namespace Go.Proofs.Ytibdbopejnkefaa.waveFours
open Go.ChangeShapes Go.WideShapes Go.ChangeAt Go.RowKit Go.Joins
open Go.ChangeMaps (open_string shut_string)
open Go.Deep (trod_struct3)
set_option linter.unusedVariables false
set_option linter.unusedSimpArgs false
theorem own : ownKnob Try.prog.godebug = none := by kernel_rfl
theorem laidOut : laidOutB Try.prog = true := by kernel_rfl
def IsRow (k : IntKind) (w : World) (a : Option Addr) (len cap : Nat) (zs : List Int) : Prop :=
  (a = none ∧ len = 0 ∧ cap = 0 ∧ zs = []) ∨
  ∃ x, a = some x ∧ len ≤ cap ∧ cap ≤ maxLen ∧ zs.length = cap ∧ (∀ i, i < zs.length → w.cell? (x.add i) = some (.int k (zs.getD i 0))) ∧ ∀ n ∈ zs, (Lit.int k n).wf = true
theorem ints_of_row {w : World} {a : Option Addr} {len cap : Nat} {zs : List Int} (h : IsRow .i64 w a len cap zs) : len ≤ 9223372036854775807 ∧ IntsAt w 0 a len (fun j => zs.getD j 0) ∧ (∀ j, -9223372036854775808 ≤ zs.getD j 0 ∧ zs.getD j 0 ≤ 9223372036854775807) ∧ len ≤ cap ∧ cap ≤ 9223372036854775807 := by
  have hm9 : maxLen ≤ 9223372036854775807 := by decide
  rcases h with ⟨rfl, rfl, rfl, rfl⟩ | ⟨x, rfl, hl, hm, hz, hc, hw⟩
  · exact ⟨Nat.zero_le _, IntsAt.nil_, fun j => by simp, Nat.le_refl _, Nat.zero_le _⟩
  · refine ⟨by omega, fun k hk => ?_, fun j => ?_, hl, by omega⟩
    · obtain ⟨b, off, rfl, hc'⟩ := ints_at hc (by omega)
      have hk' := hc' k (by omega)
      exact ⟨b, off, rfl, Nat.zero_le _, World.block_lt_of_cell? w _ hk', hk'⟩
    · by_cases hj : j < zs.length
      · have h1 : zs.getD j 0 ∈ zs := by rw [List.getD_eq_getElem?_getD, List.getElem?_eq_getElem hj]; exact List.getElem_mem _
        exact bounds_i64 (hw _ h1)
      · rw [List.getD_eq_getElem?_getD, List.getElem?_eq_none (by omega)]; decide
theorem open_field_ints {H : Type} {enc : TypeId × Value → H} {W : World} {n : Nat} {v : Value} {y : DataW H × List MemPlace} (h : DataW.trod enc Try.prog W 0 (fun _ => true) true n 44 [v] = some y) :
    ∃ a len cap zs, v = .slice a len cap ∧ IsRow .i64 W a len cap zs := by
  rcases open_ints Try.underlying44 Try.underlying3 (by kernel_rfl) h with ⟨hcs, _⟩ | ⟨x, l, c, zs, hcs, _, hl, hm, hz, _, hcell, hwz⟩
  · simp at hcs
    subst hcs
    exact ⟨_, _, _, [], rfl, .inl ⟨rfl, rfl, rfl, rfl⟩⟩
  · simp at hcs
    subst hcs
    exact ⟨_, _, _, zs, rfl, .inr ⟨_, rfl, hl, hm, by simpa using hz, hcell, hwz⟩⟩
theorem open_row {H : Type} {enc : TypeId × Value → H} {W : World} {a : Option Addr} {len cap : Nat} {d : DataW H} {p : List MemPlace} (h : DataW.Trod enc Try.prog W 0 (fun _ => true) true 44 (.slice a len cap) d p) : ∃ zs, IsRow .i64 W a len cap zs := by
  obtain ⟨fuel, hf⟩ := h
  obtain ⟨a', len', cap', zs, h1, h2⟩ := open_field_ints (v := .slice a len cap) hf
  injection h1 with e1 e2 e3
  subst e1; subst e2; subst e3
  exact ⟨zs, h2⟩
theorem cellsA_arrg4 : Try.prog.cellsOf 24 = 8 := by kernel_rfl
theorem cellsE_arrg4 : Try.prog.cellsOf 23 = 2 := by kernel_rfl
theorem cellsJ_arrg4 : Try.prog.cellsOf 3 = 1 := by kernel_rfl
set_option maxRecDepth 100000 in
theorem open_arrg4 {H : Type} {enc : TypeId × Value → H} {w : World} {base : Nat} {spare : Nat → Bool} {held : Bool} {r : Reach} {b0 : Nat} {v : Value} {d : DataW H} {p : List MemPlace} (hv : Value.okWide Try.prog w r b0 24 v) (h : DataW.Trod enc Try.prog w base spare held 24 v d p) : ∃ F : Nat → Gau, v = .agg (arrG4 F) := by
  obtain ⟨cs, rfl, hsz⟩ : ∃ cs, v = .agg cs ∧ cs.size = Try.prog.cellsOf 24 := by
    simp only [Value.okWide, Try.underlying24] at hv
    obtain ⟨cs, h1, h2, _⟩ := hv
    exact ⟨cs, h1, h2⟩
  rw [cellsA_arrg4] at hsz
  obtain ⟨fuel, hf⟩ := h
  obtain ⟨xs, m, -, -, -, hlen, hg⟩ := DataW.trod_array Try.underlying24 hf
  have each : ∀ i, i < 4 → ∃ q : Gau, cs[i * 2]? = some (.int .i64 q.re) ∧ cs[i * 2 + 1]? = some (.int .i64 q.im) := fun i hi => by
    have g := hg i hi
    rw [cellsE_arrg4] at g
    obtain ⟨x, hx⟩ : ∃ x, xs[i]? = some x := ⟨_, List.getElem?_eq_getElem (by omega)⟩
    rw [hx] at g
    have hl : ((cs.toList.drop (i * 2)).take 2) = [cs[i * 2]'(by omega), cs[i * 2 + 1]'(by omega)] := by
      apply List.ext_getElem
      · simp; omega
      · intro n h1 h2
        obtain rfl | rfl : n = 0 ∨ n = 1 := by simp at h2; omega
        all_goals simp
    simp only [Value.cells] at g
    rw [hl] at g
    obtain ⟨y0, y1, q, -, -, g0, g1⟩ := trod_struct2 Try.underlying23 g
    simp [Value.cells, cellsJ_arrg4] at g0 g1
    obtain ⟨p0, e0, -, -⟩ := DataW.trod_int Try.underlying3 g0
    obtain ⟨p1, e1, -, -⟩ := DataW.trod_int Try.underlying3 g1
    simp at e0 e1
    exact ⟨⟨p0, p1⟩, by rw [Array.getElem?_eq_getElem (by omega), e0], by rw [Array.getElem?_eq_getElem (by omega), e1]⟩
  haveI : Inhabited Gau := ⟨Gau.zero⟩
  obtain ⟨f, hf⟩ := Go.Deep.choose_lt each
  refine ⟨f, congrArg Value.agg (Array.ext_getElem? fun j => ?_)⟩
  by_cases hj : j < 8
  · rw [arrG4_at f j hj]
    obtain ⟨k0, k1⟩ := hf (j / 2) (by omega)
    unfold g4C
    have hm := Nat.mod_lt j (show 0 < 2 by decide)
    obtain e | e : j % 2 = 0 ∨ j % 2 = 1 := by omega
    · rw [show j / 2 * 2 = j by omega] at k0; rw [e]; exact k0
    · rw [show j / 2 * 2 + 1 = j by omega] at k1; rw [e]; exact k1
  · rw [Array.getElem?_eq_none (by omega), Array.getElem?_eq_none (by rw [arrG4_size]; omega)]
set_option maxRecDepth 100000 in
theorem walk (f0 : Nat → Gau) (w : World)  :
    Calls Try.prog 3 #[.agg (arrG4 f0)] w fun e w' => e = .returned (.bool true) ∧ Below w.heap.size w w' := by
  exact waveFours_walk f0 w
set_option maxRecDepth 100000 in
theorem lifted (os : Os) (started : os.Started) (H : Type) (enc : TypeId × Value → H) :
    ReturnsInHanded {} Try.checked os 3 .any (Rows.waveFoursSpec.pre6 enc Try.prog Try.f3 Rows.waveFoursRow.domain false) (Rows.waveFoursSpec.post enc Try.prog Try.f3 false true false false) := by
  refine returnsInHanded_of_change (C := Try.checked) own started (by kernel_rfl) Try.func3
    (ChangeSpec.witness6 (enc := enc) (C := Try.checked) false ⟨#[], #[.agg (arrG4 fun _ => Gau.zero)], []⟩ 8 (by kernel_rfl) (by kernel_rfl) (by kernel_rfl) (by kernel_rfl)) ?_
  intro W base args ds gs before hval0 hW hcnd _
  have hval : ∀ (j : Nat) t v, Try.f3.params[j]? = some t → args[j]? = some v → Value.okWide Try.prog W .any base t v := hval0
  have hW' := hW
  obtain ⟨p, q, hA0, hV, rfl, hfz, hnd⟩ := hW
  have hA : DataW.TrodAll enc Try.prog W 0 (fun _ => true) true Try.f3.params.toList args.toList ds p := hA0
  rw [Try.params3] at hA hval
  obtain ⟨v0, vs0, d0, ds0, p0, q0, hargs, rfl, rfl, h0, r0⟩ := trodAll_cons hA
  obtain ⟨rfl, rfl, rfl⟩ := trodAll_nil r0
  obtain rfl : args = #[v0] := by cases args; simp_all
  obtain ⟨rfl, rfl⟩ := trodVars_none hV
  have lt0 : ∀ x ∈ p0, x.block < W.heap.size := by obtain ⟨m, hm⟩ := h0; exact DataW.trod_lt m _ _ _ hm
  have u0 := hval 0 24 v0 rfl rfl
  have k0 := h0
  obtain ⟨f0, rfl⟩ := open_arrg4 u0 h0
  clear hA0 hval0
  refine (walk f0 W ).mono fun e W' ⟨he, bel⟩ => ?_
  subst he
  exact ⟨_, rfl, _, _, _, [], _, [], hW', trodAll_mk1 (shut_bool Try.underlying4 _), (trodAll_cons_mk (Below.trod laidOut (by kernel_rfl) (of_decide_eq_true (by kernel_rfl)) k0 bel lt0) trodAll_mk0), rfl, bel.frame _, fun h => by cases h⟩
theorem over : Rows.waveFoursRow.holds Try.pinned (OpenSpec.ofChange Rows.waveFoursSpec) :=
  OpenClaim.holds_of_wide 3 Try.f3 rfl rfl rfl rfl rfl rfl rfl ⟨rfl, rfl, rfl, rfl, rfl⟩ rfl rfl rfl rfl rfl (by kernel_rfl) Try.func3 (by kernel_rfl)
    (of_decide_eq_true (by kernel_rfl)) (by unfold Func.isWrapper; first | (rw [if_pos (by decide +kernel)]; kernel_rfl) | (rw [if_neg (by decide +kernel)]; exact ⟨rfl, rfl⟩))
    (fun os started H enc _ => lifted os started H enc)
theorem proved : Rows.WaveFoursSaid := over
end Go.Proofs.Ytibdbopejnkefaa.waveFours
