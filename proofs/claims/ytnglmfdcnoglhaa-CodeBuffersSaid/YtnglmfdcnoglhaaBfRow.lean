/- The law CodeBuffers of the chapter 02 code returns true for every argument, and leaves what came in as it was. No condition on the arguments. -/
import Derived.Test.YtnglmfdcnoglhaaRows
import Derived.WalkKit
import Derived.ProofKit
import Derived.OpenShut
import Derived.ShutString
import Derived.ChangeOld
import Derived.Below
import Derived.Lib.SmallJoins
import Derived.Deep.Strs
import Derived.Deep.Slices
import Derived.Test.YtnglmfdcnoglhaaBfW
namespace Go.Proofs.Ytnglmfdcnoglhaa.codeBuffers
open Go.ChangeShapes Go.WideShapes Go.ChangeAt Go.RowKit Go.Joins
open Go.ChangeMaps (open_string shut_string)
open Go.Deep (trod_struct3)
set_option linter.unusedVariables false
set_option linter.unusedSimpArgs false
theorem own : ownKnob Try.prog.godebug = none := by kernel_rfl
theorem laidOut : laidOutB Try.prog = true := by kernel_rfl
def IsRow (k : IntKind) (w : World) (a : Option Addr) (len cap : Nat) (zs : List Int) : Prop :=
  (a = none ∧ len = 0 ∧ cap = 0 ∧ zs = []) ∨
  ∃ x, a = some x ∧ len ≤ cap ∧ cap ≤ maxLen ∧ zs.length = cap ∧ (∀ i, i < zs.length → w.cell? (x.add i) = some (.int k (zs.getD i 0))) ∧ ∀ n ∈ zs, (Lit.int k n).wf = true
theorem ints_of_row {w : World} {a : Option Addr} {len cap : Nat} {zs : List Int} (h : IsRow .i64 w a len cap zs) : len ≤ 9223372036854775807 ∧ IntsAt w 0 a len (fun j => zs.getD j 0) ∧ (∀ j, -9223372036854775808 ≤ zs.getD j 0 ∧ zs.getD j 0 ≤ 9223372036854775807) ∧ len ≤ cap ∧ cap ≤ 9223372036854775807 := by
  have hm9 : maxLen ≤ 9223372036854775807 := by decide
  rcases h with ⟨rfl, rfl, rfl, rfl⟩ | ⟨x, rfl, hl, hm, hz, hc, hw⟩
  · exact ⟨Nat.zero_le _, IntsAt.nil_, fun j => by simp, Nat.le_refl _, Nat.zero_le _⟩
  · refine ⟨by omega, fun k hk => ?_, fun j => ?_, hl, by omega⟩
    · obtain ⟨b, off, rfl, hc'⟩ := ints_at hc (by omega)
      have hk' := hc' k (by omega)
      exact ⟨b, off, rfl, Nat.zero_le _, World.block_lt_of_cell? w _ hk', hk'⟩
    · by_cases hj : j < zs.length
      · have h1 : zs.getD j 0 ∈ zs := by rw [List.getD_eq_getElem?_getD, List.getElem?_eq_getElem hj]; exact List.getElem_mem _
        exact bounds_i64 (hw _ h1)
      · rw [List.getD_eq_getElem?_getD, List.getElem?_eq_none (by omega)]; decide
theorem open_field_ints {H : Type} {enc : TypeId × Value → H} {W : World} {n : Nat} {v : Value} {y : DataW H × List MemPlace} (h : DataW.trod enc Try.prog W 0 (fun _ => true) true n 24 [v] = some y) :
    ∃ a len cap zs, v = .slice a len cap ∧ IsRow .i64 W a len cap zs := by
  rcases open_ints Try.underlying24 Try.underlying3 (by kernel_rfl) h with ⟨hcs, _⟩ | ⟨x, l, c, zs, hcs, _, hl, hm, hz, _, hcell, hwz⟩
  · simp at hcs
    subst hcs
    exact ⟨_, _, _, [], rfl, .inl ⟨rfl, rfl, rfl, rfl⟩⟩
  · simp at hcs
    subst hcs
    exact ⟨_, _, _, zs, rfl, .inr ⟨_, rfl, hl, hm, by simpa using hz, hcell, hwz⟩⟩
theorem open_row {H : Type} {enc : TypeId × Value → H} {W : World} {a : Option Addr} {len cap : Nat} {d : DataW H} {p : List MemPlace} (h : DataW.Trod enc Try.prog W 0 (fun _ => true) true 24 (.slice a len cap) d p) : ∃ zs, IsRow .i64 W a len cap zs := by
  obtain ⟨fuel, hf⟩ := h
  obtain ⟨a', len', cap', zs, h1, h2⟩ := open_field_ints (v := .slice a len cap) hf
  injection h1 with e1 e2 e3
  subst e1; subst e2; subst e3
  exact ⟨zs, h2⟩
theorem plain_at {W : World} {a : Addr} {v : Value} (h : W.cell? (a.add 0) = some v) : ∃ b off, a = ⟨b, off, none⟩ := by
  obtain ⟨b, off, spot⟩ := a
  have hspot : spot = none := by simpa [Addr.add] using World.cell?_spot h
  subst hspot
  exact ⟨b, off, rfl⟩
theorem cellsProc : Try.prog.cellsOf 55 = 3 := by kernel_rfl
theorem cellsPInt : Try.prog.cellsOf 3 = 1 := by kernel_rfl
theorem cellsPInts : Try.prog.cellsOf 24 = 1 := by kernel_rfl
/-- One buffer of a slice that came in. -/
theorem open_proc {H : Type} {enc : TypeId × Value → H} {W : World} {n base : Nat} {x : Addr} {y : DataW H × List MemPlace} {cs : List Value} (hc : W.cells? base x 3 = some cs) (h : DataW.trod enc Try.prog W 0 (fun _ => true) true n 55 cs = some y) :
    ∃ q : Int × Int × Option Addr × Nat × Nat × (Nat → Int), W.cell? (x.add 0) = some (.int .i64 q.1) ∧ W.cell? (x.add 1) = some (.int .i64 q.2.1) ∧ W.cell? (x.add 2) = some (.slice q.2.2.1 q.2.2.2.1 q.2.2.2.2.1) ∧ IntsAt W 0 q.2.2.1 q.2.2.2.1 q.2.2.2.2.2 := by
  obtain ⟨-, hlen, hat⟩ := World.cells?_some hc
  match cs, hlen with
  | [c0, c1, c2], _ =>
    obtain ⟨y0, y1, y2, q, -, -, g0, g1, g2⟩ := trod_struct3 Try.underlying55 h
    simp [Value.cells, cellsPInt, cellsPInts] at g0 g1 g2
    obtain ⟨p0, e0, -, -⟩ := DataW.trod_int Try.underlying3 g0
    obtain ⟨p1, e1, -, -⟩ := DataW.trod_int Try.underlying3 g1
    obtain ⟨p2, l2, k2, z2, rfl, w2⟩ := open_field_ints g2
    simp at e0 e1
    subst e0
    subst e1
    exact ⟨(p0, p1, p2, l2, k2, fun j => z2.getD j 0), hat 0 (by decide), hat 1 (by decide), hat 2 (by decide), (ints_of_row w2).2.1⟩
theorem open_field_procs {H : Type} {enc : TypeId × Value → H} {W : World} {n : Nat} {v : Value} {y : DataW H × List MemPlace} (h : DataW.trod enc Try.prog W 0 (fun _ => true) true n 34 [v] = some y) :
    ∃ (a : Option Addr) (len cap : Nat) (T K : Nat → Int) (L : Nat → Nat) (S : Nat → Nat → Int), v = .slice a len cap ∧ len ≤ 9223372036854775807 ∧ ProcsAt W 0 a len T K L S := by
  have hm9 : maxLen ≤ 9223372036854775807 := by decide
  rcases Go.Deep.open_slice Try.underlying34 h with ⟨hcs, _⟩ | ⟨x, l, c, m, n', D, Pl, hcs, _, hl, hm, hmm, _, hi⟩
  · simp at hcs
    subst hcs
    exact ⟨none, 0, 0, fun _ => 0, fun _ => 0, fun _ => 0, fun _ _ => 0, rfl, Nat.zero_le _, ProcsAt.nil_⟩
  · simp at hcs
    subst hcs
    simp only [if_true] at hmm
    have each : ∀ i, i < l → ∃ q : Int × Int × Option Addr × Nat × Nat × (Nat → Int), W.cell? ((x.add (i * 3)).add 0) = some (.int .i64 q.1) ∧ W.cell? ((x.add (i * 3)).add 1) = some (.int .i64 q.2.1) ∧ W.cell? ((x.add (i * 3)).add 2) = some (.slice q.2.2.1 q.2.2.2.1 q.2.2.2.2.1) ∧ IntsAt W 0 q.2.2.1 q.2.2.2.1 q.2.2.2.2.2 := fun i hil => by
      obtain ⟨cs', hc, ht⟩ := hi i (by omega)
      rw [cellsProc] at hc
      exact open_proc hc ht
    obtain ⟨f, hf⟩ := Go.Deep.choose_lt each
    refine ⟨some x, l, c, fun i => (f i).1, fun i => (f i).2.1, fun i => (f i).2.2.2.1, fun i => (f i).2.2.2.2.2, rfl, by omega, fun i hil => ?_⟩
    obtain ⟨k0, k1, k2, k3⟩ := hf i hil
    obtain ⟨j0, -, -, -⟩ := hf 0 (by omega)
    rw [Nat.zero_mul, Go.Deep.add_add, Nat.zero_add] at j0
    obtain ⟨b, off, rfl⟩ := plain_at j0
    rw [Go.Deep.add_add, Go.WideShapes.add_plain] at k0 k1 k2
    rw [Nat.add_zero] at k0
    rw [← Nat.add_assoc] at k1 k2
    exact ⟨b, off, _, _, rfl, Nat.zero_le _, World.block_lt_of_cell? W _ k0, k0, k1, k2, k3⟩
theorem cells60 : Try.prog.cellsOf 60 = 2 := by kernel_rfl
theorem cells36 : Try.prog.cellsOf 36 = 2 := by kernel_rfl
theorem cells51 : Try.prog.cellsOf 51 = 4 := by kernel_rfl
theorem open_array2 {H : Type} {enc : TypeId × Value → H} {P : Program} {w : World} {base : Nat} {spare : Nat → Bool} {held : Bool} {r : Reach} {b0 : Nat} {t e : TypeId} {v : Value} {d : DataW H} {p : List MemPlace} (ht : P.underlying t = some (.array 2 e)) (he : P.underlying e = some (.int .i64)) (hC : P.cellsOf t = 2) (hE : P.cellsOf e = 1)
    (hv : Value.okWide P w r b0 t v) (h : DataW.Trod enc P w base spare held t v d p) : ∃ a b : Int, v = .agg #[.int .i64 a, .int .i64 b] ∧ (Lit.int .i64 a).wf = true ∧ (Lit.int .i64 b).wf = true := by
  obtain ⟨cs, rfl, hsz⟩ : ∃ cs, v = .agg cs ∧ cs.size = P.cellsOf t := by
    simp only [Value.okWide, ht] at hv
    obtain ⟨cs, h1, h2, _⟩ := hv
    exact ⟨cs, h1, h2⟩
  obtain ⟨c0, c1, rfl⟩ := array2 (hsz.trans hC)
  obtain ⟨fuel, hf⟩ := h
  obtain ⟨xs, m, -, -, -, hlen, hg⟩ := DataW.trod_array ht hf
  have g0 := hg 0 (by decide)
  have g1 := hg 1 (by decide)
  rw [hE] at g0 g1
  simp [Value.cells] at g0 g1
  match xs, hlen with
  | [y0, y1], _ =>
    obtain ⟨a, e0, -, wa⟩ := DataW.trod_int he (g0.trans rfl)
    obtain ⟨b, e1, -, wb⟩ := DataW.trod_int he (g1.trans rfl)
    simp at e0 e1
    subst e0 e1
    exact ⟨a, b, rfl, wa, wb⟩
set_option maxRecDepth 100000 in
theorem walk (a0_0 : Int) (a0_1 : Option Addr) (len0_1 cap0_1 : Nat) (t0_1 k0_1 : Nat → Int) (l0_1 : Nat → Nat) (z0_1 : Nat → Nat → Int) (a1_0 : Int) (a1_1 : Int) (a1_2 : Int) (a1_3 : Option Addr) (len1_3 cap1_3 : Nat) (z1_3 : List Int) (a2_0 : Int) (a2_1 : Int) (w : World) (w0_0 : (Lit.int .i64 a0_0).wf = true) (w0_1 : len0_1 ≤ 9223372036854775807 ∧ ProcsAt w 0 a0_1 len0_1 t0_1 k0_1 l0_1 z0_1) (w1_0 : (Lit.int .i64 a1_0).wf = true) (w1_1 : (Lit.int .i64 a1_1).wf = true) (w1_2 : (Lit.int .i64 a1_2).wf = true) (w1_3 : IsRow .i64 w a1_3 len1_3 cap1_3 z1_3) (w2_0 : (Lit.int .i64 a2_0).wf = true) (w2_1 : (Lit.int .i64 a2_1).wf = true) :
    Calls Try.prog 5 #[.agg #[.int .i64 a0_0, .slice a0_1 len0_1 cap0_1], .agg #[.int .i64 a1_0, .int .i64 a1_1, .int .i64 a1_2, .slice a1_3 len1_3 cap1_3], .agg #[.int .i64 a2_0, .int .i64 a2_1]] w fun e w' => e = .returned (.bool true) ∧ Below w.heap.size w w' := by
  exact codeBuffers_walk a0_0 a1_0 a1_1 a1_2 a2_0 a2_1 a0_1 a1_3 len0_1 cap0_1 len1_3 cap1_3 t0_1 k0_1 l0_1 z0_1 (fun j => z1_3.getD j 0) w w0_1.1 (ints_of_row w1_3).1 w0_1.2 (ints_of_row w1_3).2.1
set_option maxRecDepth 100000 in
theorem lifted (os : Os) (started : os.Started) (H : Type) (enc : TypeId × Value → H) :
    ReturnsInHanded {} Try.checked os 5 .any (Rows.codeBuffersSpec.pre6 enc Try.prog Try.f5 Rows.codeBuffersRow.domain false) (Rows.codeBuffersSpec.post enc Try.prog Try.f5 false true false false) := by
  refine returnsInHanded_of_change (C := Try.checked) own started (by kernel_rfl) Try.func5
    (ChangeSpec.witness6 (enc := enc) (C := Try.checked) false ⟨#[], #[.agg #[.int .i64 0, .slice none 0 0], .agg #[.int .i64 0, .int .i64 0, .int .i64 0, .slice none 0 0], .agg #[.int .i64 0, .int .i64 0]], []⟩ 8 (by kernel_rfl) (by kernel_rfl) (by kernel_rfl) (by kernel_rfl)) ?_
  intro W base args ds gs before hval0 hW hcnd _
  have hval : ∀ (j : Nat) t v, Try.f5.params[j]? = some t → args[j]? = some v → Value.okWide Try.prog W .any base t v := hval0
  have hW' := hW
  obtain ⟨p, q, hA0, hV, rfl, hfz, hnd⟩ := hW
  have hA : DataW.TrodAll enc Try.prog W 0 (fun _ => true) true Try.f5.params.toList args.toList ds p := hA0
  rw [Try.params5] at hA hval
  obtain ⟨v0, vs0, d0, ds0, p0, q0, hargs, rfl, rfl, h0, r0⟩ := trodAll_cons hA
  obtain ⟨v1, vs1, d1, ds1, p1, q1, rfl, rfl, rfl, h1, r1⟩ := trodAll_cons r0
  obtain ⟨v2, vs2, d2, ds2, p2, q2, rfl, rfl, rfl, h2, r2⟩ := trodAll_cons r1
  obtain ⟨rfl, rfl, rfl⟩ := trodAll_nil r2
  obtain rfl : args = #[v0, v1, v2] := by cases args; simp_all
  obtain ⟨rfl, rfl⟩ := trodVars_none hV
  have lt0 : ∀ x ∈ p0, x.block < W.heap.size := by obtain ⟨m, hm⟩ := h0; exact DataW.trod_lt m _ _ _ hm
  have u0 := hval 0 36 v0 rfl rfl
  have lt1 : ∀ x ∈ p1, x.block < W.heap.size := by obtain ⟨m, hm⟩ := h1; exact DataW.trod_lt m _ _ _ hm
  have u1 := hval 1 51 v1 rfl rfl
  have lt2 : ∀ x ∈ p2, x.block < W.heap.size := by obtain ⟨m, hm⟩ := h2; exact DataW.trod_lt m _ _ _ hm
  have u2 := hval 2 60 v2 rfl rfl
  have k0 := h0
  obtain ⟨c0_0, c0_1, y0_0, y0_1, m0, rfl, -, -, hy0_0, hy0_1⟩ := open_agg2 Try.underlying36 (by kernel_rfl) cells36 u0 h0
  obtain ⟨a0_0, e0_0, -, w0_0⟩ := DataW.trod_int Try.underlying3 hy0_0
  simp at e0_0
  subst e0_0
  obtain ⟨a0_1, len0_1, cap0_1, t0_1, k0_1, l0_1, z0_1, rfl, w0_1⟩ := open_field_procs hy0_1
  have k1 := h1
  obtain ⟨c1_0, c1_1, c1_2, c1_3, y1_0, y1_1, y1_2, y1_3, m1, rfl, -, -, hy1_0, hy1_1, hy1_2, hy1_3⟩ := open_agg4 Try.underlying51 (by kernel_rfl) cells51 u1 h1
  obtain ⟨a1_0, e1_0, -, w1_0⟩ := DataW.trod_int Try.underlying3 hy1_0
  simp at e1_0
  subst e1_0
  obtain ⟨a1_1, e1_1, -, w1_1⟩ := DataW.trod_int Try.underlying3 hy1_1
  simp at e1_1
  subst e1_1
  obtain ⟨a1_2, e1_2, -, w1_2⟩ := DataW.trod_int Try.underlying3 hy1_2
  simp at e1_2
  subst e1_2
  obtain ⟨a1_3, len1_3, cap1_3, z1_3, rfl, w1_3⟩ := open_field_ints hy1_3
  have k2 := h2
  obtain ⟨a2_0, a2_1, rfl, w2_0, w2_1⟩ := open_array2 Try.underlying60 Try.underlying3 (by kernel_rfl) (by kernel_rfl) u2 h2
  clear hA0 hval0
  refine (walk a0_0 a0_1 len0_1 cap0_1 t0_1 k0_1 l0_1 z0_1 a1_0 a1_1 a1_2 a1_3 len1_3 cap1_3 z1_3 a2_0 a2_1 W w0_0 w0_1 w1_0 w1_1 w1_2 w1_3 w2_0 w2_1).mono fun e W' ⟨he, bel⟩ => ?_
  subst he
  exact ⟨_, rfl, _, _, _, [], _, [], hW', trodAll_mk1 (shut_bool Try.underlying4 _), (trodAll_cons_mk (Below.trod laidOut (by kernel_rfl) (of_decide_eq_true (by kernel_rfl)) k0 bel lt0) (trodAll_cons_mk (Below.trod laidOut (by kernel_rfl) (of_decide_eq_true (by kernel_rfl)) k1 bel lt1) (trodAll_cons_mk (Below.trod laidOut (by kernel_rfl) (of_decide_eq_true (by kernel_rfl)) k2 bel lt2) trodAll_mk0))), rfl, bel.frame _, fun h => by cases h⟩
theorem over : Rows.codeBuffersRow.holds Try.pinned (OpenSpec.ofChange Rows.codeBuffersSpec) :=
  OpenClaim.holds_of_wide 5 Try.f5 rfl rfl rfl rfl rfl rfl rfl ⟨rfl, rfl, rfl, rfl, rfl⟩ rfl rfl rfl rfl rfl (by kernel_rfl) Try.func5 (by kernel_rfl)
    (of_decide_eq_true (by kernel_rfl)) (by unfold Func.isWrapper; first | (rw [if_pos (by decide +kernel)]; kernel_rfl) | (rw [if_neg (by decide +kernel)]; exact ⟨rfl, rfl⟩))
    (fun os started H enc _ => lifted os started H enc)
theorem proved : Rows.CodeBuffersSaid := over
end Go.Proofs.Ytnglmfdcnoglhaa.codeBuffers
