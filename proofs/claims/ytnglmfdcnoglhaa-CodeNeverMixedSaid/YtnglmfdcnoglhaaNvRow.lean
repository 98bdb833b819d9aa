/- The law CodeNeverMixed of the chapter 02 code returns true for every argument, and leaves what came in as it was. No condition on the arguments. -/
import Derived.Test.YtnglmfdcnoglhaaRows
import Derived.WalkKit
import Derived.ProofKit
import Derived.OpenShut
import Derived.ShutString
import Derived.ChangeOld
import Derived.Below
import Derived.Lib.SmallJoins
import Derived.Deep.Strs
import Derived.Deep.Slices
import Derived.Test.YtnglmfdcnoglhaaNvW
namespace Go.Proofs.Ytnglmfdcnoglhaa.codeNeverMixed
open Go.ChangeShapes Go.WideShapes Go.ChangeAt Go.RowKit Go.Joins
open Go.ChangeMaps (open_string shut_string)
open Go.Deep (trod_struct3)
set_option linter.unusedVariables false
set_option linter.unusedSimpArgs false
theorem own : ownKnob Try.prog.godebug = none := by kernel_rfl
theorem laidOut : laidOutB Try.prog = true := by kernel_rfl
def IsRow (k : IntKind) (w : World) (a : Option Addr) (len cap : Nat) (zs : List Int) : Prop :=
  (a = none ∧ len = 0 ∧ cap = 0 ∧ zs = []) ∨
  ∃ x, a = some x ∧ len ≤ cap ∧ cap ≤ maxLen ∧ zs.length = cap ∧ (∀ i, i < zs.length → w.cell? (x.add i) = some (.int k (zs.getD i 0))) ∧ ∀ n ∈ zs, (Lit.int k n).wf = true
theorem ints_of_row {w : World} {a : Option Addr} {len cap : Nat} {zs : List Int} (h : IsRow .i64 w a len cap zs) : len ≤ 9223372036854775807 ∧ IntsAt w 0 a len (fun j => zs.getD j 0) ∧ (∀ j, -9223372036854775808 ≤ zs.getD j 0 ∧ zs.getD j 0 ≤ 9223372036854775807) ∧ len ≤ cap ∧ cap ≤ 9223372036854775807 := by
  have hm9 : maxLen ≤ 9223372036854775807 := by decide
  rcases h with ⟨rfl, rfl, rfl, rfl⟩ | ⟨x, rfl, hl, hm, hz, hc, hw⟩
  · exact ⟨Nat.zero_le _, IntsAt.nil_, fun j => by simp, Nat.le_refl _, Nat.zero_le _⟩
  · refine ⟨by omega, fun k hk => ?_, fun j => ?_, hl, by omega⟩
    · obtain ⟨b, off, rfl, hc'⟩ := ints_at hc (by omega)
      have hk' := hc' k (by omega)
      exact ⟨b, off, rfl, Nat.zero_le _, World.block_lt_of_cell? w _ hk', hk'⟩
    · by_cases hj : j < zs.length
      · have h1 : zs.getD j 0 ∈ zs := by rw [List.getD_eq_getElem?_getD, List.getElem?_eq_getElem hj]; exact List.getElem_mem _
        exact bounds_i64 (hw _ h1)
      · rw [List.getD_eq_getElem?_getD, List.getElem?_eq_none (by omega)]; decide
theorem open_field_ints {H : Type} {enc : TypeId × Value → H} {W : World} {n : Nat} {v : Value} {y : DataW H × List MemPlace} (h : DataW.trod enc Try.prog W 0 (fun _ => true) true n 24 [v] = some y) :
    ∃ a len cap zs, v = .slice a len cap ∧ IsRow .i64 W a len cap zs := by
  rcases open_ints Try.underlying24 Try.underlying3 (by kernel_rfl) h with ⟨hcs, _⟩ | ⟨x, l, c, zs, hcs, _, hl, hm, hz, _, hcell, hwz⟩
  · simp at hcs
    subst hcs
    exact ⟨_, _, _, [], rfl, .inl ⟨rfl, rfl, rfl, rfl⟩⟩
  · simp at hcs
    subst hcs
    exact ⟨_, _, _, zs, rfl, .inr ⟨_, rfl, hl, hm, by simpa using hz, hcell, hwz⟩⟩
theorem open_row {H : Type} {enc : TypeId × Value → H} {W : World} {a : Option Addr} {len cap : Nat} {d : DataW H} {p : List MemPlace} (h : DataW.Trod enc Try.prog W 0 (fun _ => true) true 24 (.slice a len cap) d p) : ∃ zs, IsRow .i64 W a len cap zs := by
  obtain ⟨fuel, hf⟩ := h
  obtain ⟨a', len', cap', zs, h1, h2⟩ := open_field_ints (v := .slice a len cap) hf
  injection h1 with e1 e2 e3
  subst e1; subst e2; subst e3
  exact ⟨zs, h2⟩
theorem plain_at {W : World} {a : Addr} {v : Value} (h : W.cell? (a.add 0) = some v) : ∃ b off, a = ⟨b, off, none⟩ := by
  obtain ⟨b, off, spot⟩ := a
  have hspot : spot = none := by simpa [Addr.add] using World.cell?_spot h
  subst hspot
  exact ⟨b, off, rfl⟩
theorem cellsRecv : Try.prog.cellsOf 51 = 4 := by kernel_rfl
theorem cellsPInt : Try.prog.cellsOf 3 = 1 := by kernel_rfl
theorem cellsPInts : Try.prog.cellsOf 24 = 1 := by kernel_rfl
/-- One reception of a slice that came in. -/
theorem open_recv {H : Type} {enc : TypeId × Value → H} {W : World} {n base : Nat} {x : Addr} {y : DataW H × List MemPlace} {cs : List Value} (hc : W.cells? base x 4 = some cs) (h : DataW.trod enc Try.prog W 0 (fun _ => true) true n 51 cs = some y) :
    ∃ q : Int × Int × Int × Option Addr × Nat × Nat × (Nat → Int), W.cell? (x.add 0) = some (.int .i64 q.1) ∧ W.cell? (x.add 1) = some (.int .i64 q.2.1) ∧ W.cell? (x.add 2) = some (.int .i64 q.2.2.1) ∧ W.cell? (x.add 3) = some (.slice q.2.2.2.1 q.2.2.2.2.1 q.2.2.2.2.2.1) ∧ IntsAt W 0 q.2.2.2.1 q.2.2.2.2.1 q.2.2.2.2.2.2 := by
  obtain ⟨-, hlen, hat⟩ := World.cells?_some hc
  match cs, hlen with
  | [c0, c1, c2, c3], _ =>
    obtain ⟨y0, y1, y2, y3, q, -, -, g0, g1, g2, g3⟩ := trod_struct4 Try.underlying51 h
    simp [Value.cells, cellsPInt, cellsPInts] at g0 g1 g2 g3
    obtain ⟨p0, e0, -, -⟩ := DataW.trod_int Try.underlying3 g0
    obtain ⟨p1, e1, -, -⟩ := DataW.trod_int Try.underlying3 g1
    obtain ⟨p2, e2, -, -⟩ := DataW.trod_int Try.underlying3 g2
    obtain ⟨p3, l3, k3, z3, rfl, w3⟩ := open_field_ints g3
    simp at e0 e1 e2
    subst e0
    subst e1
    subst e2
    exact ⟨(p0, p1, p2, p3, l3, k3, fun j => z3.getD j 0), hat 0 (by decide), hat 1 (by decide), hat 2 (by decide), hat 3 (by decide), (ints_of_row w3).2.1⟩
theorem open_field_recvs {H : Type} {enc : TypeId × Value → H} {W : World} {n : Nat} {v : Value} {y : DataW H × List MemPlace} (h : DataW.trod enc Try.prog W 0 (fun _ => true) true n 68 [v] = some y) :
    ∃ (a : Option Addr) (len cap : Nat) (P Q V : Nat → Int) (L : Nat → Nat) (X : Nat → Nat → Int), v = .slice a len cap ∧ len ≤ 9223372036854775807 ∧ RecvsAt W 0 a len P Q V L X := by
  have hm9 : maxLen ≤ 9223372036854775807 := by decide
  rcases Go.Deep.open_slice Try.underlying68 h with ⟨hcs, _⟩ | ⟨x, l, c, m, n', D, Pl, hcs, _, hl, hm, hmm, _, hi⟩
  · simp at hcs
    subst hcs
    exact ⟨none, 0, 0, fun _ => 0, fun _ => 0, fun _ => 0, fun _ => 0, fun _ _ => 0, rfl, Nat.zero_le _, RecvsAt.nil_⟩
  · simp at hcs
    subst hcs
    simp only [if_true] at hmm
    have each : ∀ i, i < l → ∃ q : Int × Int × Int × Option Addr × Nat × Nat × (Nat → Int), W.cell? ((x.add (i * 4)).add 0) = some (.int .i64 q.1) ∧ W.cell? ((x.add (i * 4)).add 1) = some (.int .i64 q.2.1) ∧ W.cell? ((x.add (i * 4)).add 2) = some (.int .i64 q.2.2.1) ∧ W.cell? ((x.add (i * 4)).add 3) = some (.slice q.2.2.2.1 q.2.2.2.2.1 q.2.2.2.2.2.1) ∧ IntsAt W 0 q.2.2.2.1 q.2.2.2.2.1 q.2.2.2.2.2.2 := fun i hil => by
      obtain ⟨cs', hc, ht⟩ := hi i (by omega)
      rw [cellsRecv] at hc
      exact open_recv hc ht
    obtain ⟨f, hf⟩ := Go.Deep.choose_lt each
    refine ⟨some x, l, c, fun i => (f i).1, fun i => (f i).2.1, fun i => (f i).2.2.1, fun i => (f i).2.2.2.2.1, fun i => (f i).2.2.2.2.2.2, rfl, by omega, fun i hil => ?_⟩
    obtain ⟨k0, k1, k2, k3, k4⟩ := hf i hil
    obtain ⟨j0, -, -, -, -⟩ := hf 0 (by omega)
    rw [Nat.zero_mul, Go.Deep.add_add, Nat.zero_add] at j0
    obtain ⟨b, off, rfl⟩ := plain_at j0
    rw [Go.Deep.add_add, Go.WideShapes.add_plain] at k0 k1 k2 k3
    rw [Nat.add_zero] at k0
    rw [← Nat.add_assoc] at k1 k2 k3
    exact ⟨b, off, _, _, rfl, Nat.zero_le _, World.block_lt_of_cell? W _ k0, k0, k1, k2, k3, k4⟩
theorem open_top_recvs {H : Type} {enc : TypeId × Value → H} {W : World} {a : Option Addr} {len cap : Nat} {d : DataW H} {p : List MemPlace} (h : DataW.Trod enc Try.prog W 0 (fun _ => true) true 68 (.slice a len cap) d p) : len ≤ 9223372036854775807 ∧ ∃ P Q V L X, RecvsAt W 0 a len P Q V L X := by
  obtain ⟨fuel, hf⟩ := h
  obtain ⟨a', len', cap', P, Q, V, L, X, h1, h2, h3⟩ := open_field_recvs (v := .slice a len cap) hf
  injection h1 with e1 e2 e3
  subst e1; subst e2; subst e3
  exact ⟨h2, P, Q, V, L, X, h3⟩
theorem cells60 : Try.prog.cellsOf 60 = 2 := by kernel_rfl
theorem open_array2 {H : Type} {enc : TypeId × Value → H} {P : Program} {w : World} {base : Nat} {spare : Nat → Bool} {held : Bool} {r : Reach} {b0 : Nat} {t e : TypeId} {v : Value} {d : DataW H} {p : List MemPlace} (ht : P.underlying t = some (.array 2 e)) (he : P.underlying e = some (.int .i64)) (hC : P.cellsOf t = 2) (hE : P.cellsOf e = 1)
    (hv : Value.okWide P w r b0 t v) (h : DataW.Trod enc P w base spare held t v d p) : ∃ a b : Int, v = .agg #[.int .i64 a, .int .i64 b] ∧ (Lit.int .i64 a).wf = true ∧ (Lit.int .i64 b).wf = true := by
  obtain ⟨cs, rfl, hsz⟩ : ∃ cs, v = .agg cs ∧ cs.size = P.cellsOf t := by
    simp only [Value.okWide, ht] at hv
    obtain ⟨cs, h1, h2, _⟩ := hv
    exact ⟨cs, h1, h2⟩
  obtain ⟨c0, c1, rfl⟩ := array2 (hsz.trans hC)
  obtain ⟨fuel, hf⟩ := h
  obtain ⟨xs, m, -, -, -, hlen, hg⟩ := DataW.trod_array ht hf
  have g0 := hg 0 (by decide)
  have g1 := hg 1 (by decide)
  rw [hE] at g0 g1
  simp [Value.cells] at g0 g1
  match xs, hlen with
  | [y0, y1], _ =>
    obtain ⟨a, e0, -, wa⟩ := DataW.trod_int he (g0.trans rfl)
    obtain ⟨b, e1, -, wb⟩ := DataW.trod_int he (g1.trans rfl)
    simp at e0 e1
    subst e0 e1
    exact ⟨a, b, rfl, wa, wb⟩
set_option maxRecDepth 100000 in
theorem walk (a0_0 : Int) (a0_1 : Int) (a1 : Option Addr) (len1 cap1 : Nat) (rp1 rt1 rv1 : Nat → Int) (rl1 : Nat → Nat) (rz1 : Nat → Nat → Int) (w : World) (w0_0 : (Lit.int .i64 a0_0).wf = true) (w0_1 : (Lit.int .i64 a0_1).wf = true) (w1 : len1 ≤ 9223372036854775807 ∧ RecvsAt w 0 a1 len1 rp1 rt1 rv1 rl1 rz1) :
    Calls Try.prog 6 #[.agg #[.int .i64 a0_0, .int .i64 a0_1], .slice a1 len1 cap1] w fun e w' => e = .returned (.bool true) ∧ Below w.heap.size w w' := by
  exact codeNeverMixed_walk a0_0 a0_1 a1 len1 cap1 rp1 rt1 rv1 rl1 rz1 w w1.1 w1.2
set_option maxRecDepth 100000 in
theorem lifted (os : Os) (started : os.Started) (H : Type) (enc : TypeId × Value → H) :
    ReturnsInHanded {} Try.checked os 6 .any (Rows.codeNeverMixedSpec.pre6 enc Try.prog Try.f6 Rows.codeNeverMixedRow.domain false) (Rows.codeNeverMixedSpec.post enc Try.prog Try.f6 false true false false) := by
  refine returnsInHanded_of_change (C := Try.checked) own started (by kernel_rfl) Try.func6
    (ChangeSpec.witness6 (enc := enc) (C := Try.checked) false ⟨#[], #[.agg #[.int .i64 0, .int .i64 0], .slice none 0 0], []⟩ 8 (by kernel_rfl) (by kernel_rfl) (by kernel_rfl) (by kernel_rfl)) ?_
  intro W base args ds gs before hval0 hW hcnd _
  have hval : ∀ (j : Nat) t v, Try.f6.params[j]? = some t → args[j]? = some v → Value.okWide Try.prog W .any base t v := hval0
  have hW' := hW
  obtain ⟨p, q, hA0, hV, rfl, hfz, hnd⟩ := hW
  have hA : DataW.TrodAll enc Try.prog W 0 (fun _ => true) true Try.f6.params.toList args.toList ds p := hA0
  rw [Try.params6] at hA hval
  obtain ⟨v0, vs0, d0, ds0, p0, q0, hargs, rfl, rfl, h0, r0⟩ := trodAll_cons hA
  obtain ⟨v1, vs1, d1, ds1, p1, q1, rfl, rfl, rfl, h1, r1⟩ := trodAll_cons r0
  obtain ⟨rfl, rfl, rfl⟩ := trodAll_nil r1
  obtain rfl : args = #[v0, v1] := by cases args; simp_all
  obtain ⟨rfl, rfl⟩ := trodVars_none hV
  have lt0 : ∀ x ∈ p0, x.block < W.heap.size := by obtain ⟨m, hm⟩ := h0; exact DataW.trod_lt m _ _ _ hm
  have u0 := hval 0 60 v0 rfl rfl
  have lt1 : ∀ x ∈ p1, x.block < W.heap.size := by obtain ⟨m, hm⟩ := h1; exact DataW.trod_lt m _ _ _ hm
  have u1 := hval 1 68 v1 rfl rfl
  have k0 := h0
  obtain ⟨a0_0, a0_1, rfl, w0_0, w0_1⟩ := open_array2 Try.underlying60 Try.underlying3 (by kernel_rfl) (by kernel_rfl) u0 h0
  have k1 := h1
  obtain ⟨a1, len1, cap1, rfl⟩ := okWide_slice Try.underlying68 u1
  obtain ⟨n1, rp1, rt1, rv1, rl1, rz1, wr1⟩ := open_top_recvs h1
  have w1 := And.intro n1 wr1
  clear hA0 hval0
  refine (walk a0_0 a0_1 a1 len1 cap1 rp1 rt1 rv1 rl1 rz1 W w0_0 w0_1 w1).mono fun e W' ⟨he, bel⟩ => ?_
  subst he
  exact ⟨_, rfl, _, _, _, [], _, [], hW', trodAll_mk1 (shut_bool Try.underlying4 _), (trodAll_cons_mk (Below.trod laidOut (by kernel_rfl) (of_decide_eq_true (by kernel_rfl)) k0 bel lt0) (trodAll_cons_mk (Below.trod laidOut (by kernel_rfl) (of_decide_eq_true (by kernel_rfl)) k1 bel lt1) trodAll_mk0)), rfl, bel.frame _, fun h => by cases h⟩
theorem over : Rows.codeNeverMixedRow.holds Try.pinned (OpenSpec.ofChange Rows.codeNeverMixedSpec) :=
  OpenClaim.holds_of_wide 6 Try.f6 rfl rfl rfl rfl rfl rfl rfl ⟨rfl, rfl, rfl, rfl, rfl⟩ rfl rfl rfl rfl rfl (by kernel_rfl) Try.func6 (by kernel_rfl)
    (of_decide_eq_true (by kernel_rfl)) (by unfold Func.isWrapper; first | (rw [if_pos (by decide +kernel)]; kernel_rfl) | (rw [if_neg (by decide +kernel)]; exact ⟨rfl, rfl⟩))
    (fun os started H enc _ => lifted os started H enc)
theorem proved : Rows.CodeNeverMixedSaid := over
end Go.Proofs.Ytnglmfdcnoglhaa.codeNeverMixed
