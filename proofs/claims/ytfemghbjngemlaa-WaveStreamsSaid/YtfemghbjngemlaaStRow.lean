/- The law WaveStreams of the chapter 04 wave returns true for every argument, and leaves what came in as it was. No condition on the arguments. -/
import Derived.Test.YtfemghbjngemlaaRows
import Derived.WalkKit
import Derived.ProofKit
import Derived.OpenShut
import Derived.ShutString
import Derived.ChangeOld
import Derived.Below
import Derived.Lib.SmallJoins
import Derived.Deep.Strs
import Derived.Deep.Slices
import Derived.Test.YtfemghbjngemlaaStW
namespace Go.Proofs.Ytfemghbjngemlaa.waveStreams
open Go.ChangeShapes Go.WideShapes Go.ChangeAt Go.RowKit Go.Joins
open Go.ChangeMaps (open_string shut_string)
open Go.Deep (trod_struct3)
set_option linter.unusedVariables false
set_option linter.unusedSimpArgs false
theorem own : ownKnob Try.prog.godebug = none := by kernel_rfl
theorem laidOut : laidOutB Try.prog = true := by kernel_rfl
def IsRow (k : IntKind) (w : World) (a : Option Addr) (len cap : Nat) (zs : List Int) : Prop :=
  (a = none ∧ len = 0 ∧ cap = 0 ∧ zs = []) ∨
  ∃ x, a = some x ∧ len ≤ cap ∧ cap ≤ maxLen ∧ zs.length = cap ∧ (∀ i, i < zs.length → w.cell? (x.add i) = some (.int k (zs.getD i 0))) ∧ ∀ n ∈ zs, (Lit.int k n).wf = true
theorem ints_of_row {w : World} {a : Option Addr} {len cap : Nat} {zs : List Int} (h : IsRow .i64 w a len cap zs) : len ≤ 9223372036854775807 ∧ IntsAt w 0 a len (fun j => zs.getD j 0) ∧ (∀ j, -9223372036854775808 ≤ zs.getD j 0 ∧ zs.getD j 0 ≤ 9223372036854775807) ∧ len ≤ cap ∧ cap ≤ 9223372036854775807 := by
  have hm9 : maxLen ≤ 9223372036854775807 := by decide
  rcases h with ⟨rfl, rfl, rfl, rfl⟩ | ⟨x, rfl, hl, hm, hz, hc, hw⟩
  · exact ⟨Nat.zero_le _, IntsAt.nil_, fun j => by simp, Nat.le_refl _, Nat.zero_le _⟩
  · refine ⟨by omega, fun k hk => ?_, fun j => ?_, hl, by omega⟩
    · obtain ⟨b, off, rfl, hc'⟩ := ints_at hc (by omega)
      have hk' := hc' k (by omega)
      exact ⟨b, off, rfl, Nat.zero_le _, World.block_lt_of_cell? w _ hk', hk'⟩
    · by_cases hj : j < zs.length
      · have h1 : zs.getD j 0 ∈ zs := by rw [List.getD_eq_getElem?_getD, List.getElem?_eq_getElem hj]; exact List.getElem_mem _
        exact bounds_i64 (hw _ h1)
      · rw [List.getD_eq_getElem?_getD, List.getElem?_eq_none (by omega)]; decide
theorem open_field_ints {H : Type} {enc : TypeId × Value → H} {W : World} {n : Nat} {v : Value} {y : DataW H × List MemPlace} (h : DataW.trod enc Try.prog W 0 (fun _ => true) true n 89 [v] = some y) :
    ∃ a len cap zs, v = .slice a len cap ∧ IsRow .i64 W a len cap zs := by
  rcases open_ints Try.underlying89 Try.underlying3 (by kernel_rfl) h with ⟨hcs, _⟩ | ⟨x, l, c, zs, hcs, _, hl, hm, hz, _, hcell, hwz⟩
  · simp at hcs
    subst hcs
    exact ⟨_, _, _, [], rfl, .inl ⟨rfl, rfl, rfl, rfl⟩⟩
  · simp at hcs
    subst hcs
    exact ⟨_, _, _, zs, rfl, .inr ⟨_, rfl, hl, hm, by simpa using hz, hcell, hwz⟩⟩
theorem open_row {H : Type} {enc : TypeId × Value → H} {W : World} {a : Option Addr} {len cap : Nat} {d : DataW H} {p : List MemPlace} (h : DataW.Trod enc Try.prog W 0 (fun _ => true) true 89 (.slice a len cap) d p) : ∃ zs, IsRow .i64 W a len cap zs := by
  obtain ⟨fuel, hf⟩ := h
  obtain ⟨a', len', cap', zs, h1, h2⟩ := open_field_ints (v := .slice a len cap) hf
  injection h1 with e1 e2 e3
  subst e1; subst e2; subst e3
  exact ⟨zs, h2⟩
theorem plain_at {W : World} {a : Addr} {v : Value} (h : W.cell? (a.add 0) = some v) : ∃ b off, a = ⟨b, off, none⟩ := by
  obtain ⟨b, off, spot⟩ := a
  have hspot : spot = none := by simpa [Addr.add] using World.cell?_spot h
  subst hspot
  exact ⟨b, off, rfl⟩

instance : Inhabited Num := ⟨Num.zero⟩
theorem cells_nums : Try.prog.cellsOf 26 = 4 := by kernel_rfl
theorem cellsI_nums : Try.prog.cellsOf 3 = 1 := by kernel_rfl
theorem open_one_nums {H : Type} {enc : TypeId × Value → H} {W : World} {n base : Nat} {x : Addr} {y : DataW H × List MemPlace} {cs : List Value} (hc : W.cells? base x 4 = some cs) (h : DataW.trod enc Try.prog W 0 (fun _ => true) true n 26 cs = some y) :
    ∃ q : Num, W.cell? (x.add 0) = some (.int .i64 q.a) ∧ W.cell? (x.add 1) = some (.int .i64 q.b) ∧ W.cell? (x.add 2) = some (.int .i64 q.c) ∧ W.cell? (x.add 3) = some (.int .i64 q.d) := by
  obtain ⟨-, hlen, hat⟩ := World.cells?_some hc
  match cs, hlen with
  | [c0, c1, c2, c3], _ =>
    obtain ⟨y0, y1, y2, y3, q, -, -, g0, g1, g2, g3⟩ := trod_struct4 Try.underlying26 h
    simp [Value.cells, cellsI_nums] at g0 g1 g2 g3
    obtain ⟨p0, e0, -, -⟩ := DataW.trod_int Try.underlying3 g0
    obtain ⟨p1, e1, -, -⟩ := DataW.trod_int Try.underlying3 g1
    obtain ⟨p2, e2, -, -⟩ := DataW.trod_int Try.underlying3 g2
    obtain ⟨p3, e3, -, -⟩ := DataW.trod_int Try.underlying3 g3
    simp at e0 e1 e2 e3
    subst e0
    subst e1
    subst e2
    subst e3
    exact ⟨⟨p0, p1, p2, p3⟩, hat 0 (by decide), hat 1 (by decide), hat 2 (by decide), hat 3 (by decide)⟩
theorem open_field_nums {H : Type} {enc : TypeId × Value → H} {W : World} {n : Nat} {v : Value} {y : DataW H × List MemPlace} (h : DataW.trod enc Try.prog W 0 (fun _ => true) true n 39 [v] = some y) :
    ∃ (a : Option Addr) (len cap : Nat) (F : Nat → Num), v = .slice a len cap ∧ (len ≤ 9223372036854775807 ∧ len ≤ cap) ∧ NumsAt W 0 a len F := by
  have hm9 : maxLen ≤ 9223372036854775807 := by decide
  rcases Go.Deep.open_slice Try.underlying39 h with ⟨hcs, _⟩ | ⟨x, l, c, m, n', D, Pl, hcs, _, hl, hm, hmm, _, hi⟩
  · simp at hcs
    subst hcs
    exact ⟨none, 0, 0, fun _ => Num.zero, rfl, ⟨Nat.zero_le _, Nat.le_refl _⟩, fun i hi => absurd hi (Nat.not_lt_zero _)⟩
  · simp at hcs
    subst hcs
    simp only [if_true] at hmm
    have each : ∀ i, i < l → ∃ q : Num, W.cell? ((x.add (i * 4)).add 0) = some (.int .i64 q.a) ∧ W.cell? ((x.add (i * 4)).add 1) = some (.int .i64 q.b) ∧ W.cell? ((x.add (i * 4)).add 2) = some (.int .i64 q.c) ∧ W.cell? ((x.add (i * 4)).add 3) = some (.int .i64 q.d) := fun i hil => by
      obtain ⟨cs', hc, ht⟩ := hi i (by omega)
      rw [cells_nums] at hc
      exact open_one_nums hc ht
    obtain ⟨f, hf⟩ := Go.Deep.choose_lt each
    refine ⟨some x, l, c, f, rfl, ⟨by omega, hl⟩, fun i hil => ?_⟩
    obtain ⟨k0, k1, k2, k3⟩ := hf i hil
    obtain ⟨j0, -, -, -⟩ := hf 0 (by omega)
    rw [Nat.zero_mul, Go.Deep.add_add, Nat.zero_add] at j0
    obtain ⟨b, off, rfl⟩ := plain_at j0
    rw [Go.Deep.add_add, Go.WideShapes.add_plain] at k0 k1 k2 k3
    rw [Nat.add_zero] at k0
    rw [← Nat.add_assoc] at k1 k2 k3
    exact ⟨b, off, rfl, Nat.zero_le _, World.block_lt_of_cell? W _ k0, k0, k1, k2, k3⟩
theorem open_top_nums {H : Type} {enc : TypeId × Value → H} {W : World} {a : Option Addr} {len cap : Nat} {d : DataW H} {p : List MemPlace} (h : DataW.Trod enc Try.prog W 0 (fun _ => true) true 39 (.slice a len cap) d p) : (len ≤ 9223372036854775807 ∧ len ≤ cap) ∧ ∃ F, NumsAt W 0 a len F := by
  obtain ⟨fuel, hf⟩ := h
  obtain ⟨a', len', cap', F, h1, h2, h3⟩ := open_field_nums (v := .slice a len cap) hf
  injection h1 with e1 e2 e3
  subst e1; subst e2; subst e3
  exact ⟨h2, F, h3⟩
instance : Inhabited (Nat → Gau) := ⟨fun _ => Gau.zero⟩
theorem cellsY_syms : Try.prog.cellsOf 24 = 16 := by kernel_rfl
theorem cellsG_syms : Try.prog.cellsOf 23 = 2 := by kernel_rfl
theorem cellsI_syms : Try.prog.cellsOf 3 = 1 := by kernel_rfl
theorem open_one_syms {H : Type} {enc : TypeId × Value → H} {W : World} {n base : Nat} {x : Addr} {y : DataW H × List MemPlace} {cs : List Value} (hc : W.cells? base x 16 = some cs) (h : DataW.trod enc Try.prog W 0 (fun _ => true) true n 24 cs = some y) :
    ∃ q : Nat → Gau, ∀ j, j < 16 → W.cell? (x.add j) = some (g8C q j) := by
  obtain ⟨-, hlen, hat⟩ := World.cells?_some hc
  obtain ⟨xs, m, -, -, -, hl, hg⟩ := DataW.trod_array Try.underlying24 h
  have each : ∀ i, i < 8 → ∃ q : Gau, cs[i * 2]? = some (.int .i64 q.re) ∧ cs[i * 2 + 1]? = some (.int .i64 q.im) := fun i hi => by
    have g := hg i hi
    rw [cellsG_syms] at g
    obtain ⟨x, hx⟩ : ∃ x, xs[i]? = some x := ⟨_, List.getElem?_eq_getElem (by omega)⟩
    rw [hx] at g
    have hl : ((cs.drop (i * 2)).take 2) = [cs[i * 2]'(by omega), cs[i * 2 + 1]'(by omega)] := by
      apply List.ext_getElem
      · simp; omega
      · intro n h1 h2
        obtain rfl | rfl : n = 0 ∨ n = 1 := by simp at h2; omega
        all_goals simp
    rw [hl] at g
    obtain ⟨y0, y1, q, -, -, g0, g1⟩ := trod_struct2 Try.underlying23 g
    simp [Value.cells, cellsI_syms] at g0 g1
    obtain ⟨p0, e0, -, -⟩ := DataW.trod_int Try.underlying3 g0
    obtain ⟨p1, e1, -, -⟩ := DataW.trod_int Try.underlying3 g1
    simp at e0 e1
    exact ⟨⟨p0, p1⟩, by rw [List.getElem?_eq_getElem (by omega), e0], by rw [List.getElem?_eq_getElem (by omega), e1]⟩
  haveI : Inhabited Gau := ⟨Gau.zero⟩
  obtain ⟨f, hf⟩ := Go.Deep.choose_lt each
  refine ⟨f, fun j hj => (hat j hj).trans ?_⟩
  obtain ⟨k0, k1⟩ := hf (j / 2) (by omega)
  unfold g8C
  obtain e | e : j % 2 = 0 ∨ j % 2 = 1 := by omega
  · rw [show j / 2 * 2 = j by omega] at k0; rw [e]; exact k0
  · rw [show j / 2 * 2 + 1 = j by omega] at k1; rw [e]; exact k1
theorem open_top_syms {H : Type} {enc : TypeId × Value → H} {W : World} {a : Option Addr} {len cap : Nat} {d : DataW H} {p : List MemPlace} (h : DataW.Trod enc Try.prog W 0 (fun _ => true) true 58 (.slice a len cap) d p) : (len ≤ 9223372036854775807 ∧ len ≤ cap) ∧ ∃ F, SymsAt W 0 a len F := by
  have hm9 : maxLen ≤ 9223372036854775807 := by decide
  obtain ⟨fuel, hf⟩ := h
  rcases Go.Deep.open_slice Try.underlying58 hf with ⟨hcs, _⟩ | ⟨x, l, c, m, n', D, Pl, hcs, _, hl, hm, hmm, _, hi⟩
  · simp [Value.cells] at hcs
    obtain ⟨rfl, rfl, rfl⟩ := hcs
    exact ⟨⟨Nat.zero_le _, Nat.le_refl _⟩, fun _ _ => Gau.zero, fun i hi => absurd hi (Nat.not_lt_zero _)⟩
  · simp [Value.cells] at hcs
    obtain ⟨rfl, rfl, rfl⟩ := hcs
    simp only [if_true] at hmm
    have each : ∀ i, i < len → ∃ q : Nat → Gau, ∀ j, j < 16 → W.cell? ((x.add (i * 16)).add j) = some (g8C q j) := fun i hil => by
      obtain ⟨cs', hc, ht⟩ := hi i (by omega)
      rw [cellsY_syms] at hc
      exact open_one_syms hc ht
    obtain ⟨f, hf⟩ := Go.Deep.choose_lt each
    refine ⟨⟨by omega, hl⟩, f, fun i hil => ?_⟩
    have j0 := hf 0 (by omega) 0 (by decide)
    rw [Nat.zero_mul, Go.Deep.add_add, Nat.zero_add] at j0
    obtain ⟨b, off, rfl⟩ := plain_at j0
    refine ⟨b, off, rfl, Nat.zero_le _, ?_, fun q hq => ?_⟩
    · have := hf i hil 0 (by decide)
      rw [Go.Deep.add_add, Go.WideShapes.add_plain] at this
      exact World.block_lt_of_cell? W _ this
    · have := hf i hil q hq
      rw [Go.Deep.add_add, Go.WideShapes.add_plain, ← Nat.add_assoc] at this
      exact this
theorem cells59 : Try.prog.cellsOf 59 = 2 := by kernel_rfl
theorem open_array2 {H : Type} {enc : TypeId × Value → H} {P : Program} {w : World} {base : Nat} {spare : Nat → Bool} {held : Bool} {r : Reach} {b0 : Nat} {t e : TypeId} {v : Value} {d : DataW H} {p : List MemPlace} (ht : P.underlying t = some (.array 2 e)) (he : P.underlying e = some (.int .i64)) (hC : P.cellsOf t = 2) (hE : P.cellsOf e = 1)
    (hv : Value.okWide P w r b0 t v) (h : DataW.Trod enc P w base spare held t v d p) : ∃ a b : Int, v = .agg #[.int .i64 a, .int .i64 b] ∧ (Lit.int .i64 a).wf = true ∧ (Lit.int .i64 b).wf = true := by
  obtain ⟨cs, rfl, hsz⟩ : ∃ cs, v = .agg cs ∧ cs.size = P.cellsOf t := by
    simp only [Value.okWide, ht] at hv
    obtain ⟨cs, h1, h2, _⟩ := hv
    exact ⟨cs, h1, h2⟩
  obtain ⟨c0, c1, rfl⟩ := array2 (hsz.trans hC)
  obtain ⟨fuel, hf⟩ := h
  obtain ⟨xs, m, -, -, -, hlen, hg⟩ := DataW.trod_array ht hf
  have g0 := hg 0 (by decide)
  have g1 := hg 1 (by decide)
  rw [hE] at g0 g1
  simp [Value.cells] at g0 g1
  match xs, hlen with
  | [y0, y1], _ =>
    obtain ⟨a, e0, -, wa⟩ := DataW.trod_int he (g0.trans rfl)
    obtain ⟨b, e1, -, wb⟩ := DataW.trod_int he (g1.trans rfl)
    simp at e0 e1
    subst e0 e1
    exact ⟨a, b, rfl, wa, wb⟩
set_option maxRecDepth 100000 in
theorem walk (a0 : Option Addr) (len0 cap0 : Nat) (f0 : Nat → Nat → Gau) (a1 : Option Addr) (len1 cap1 : Nat) (f1 : Nat → Num) (a2_0 : Int) (a2_1 : Int) (w : World) (w0 : (len0 ≤ 9223372036854775807 ∧ len0 ≤ cap0) ∧ SymsAt w 0 a0 len0 f0) (w1 : (len1 ≤ 9223372036854775807 ∧ len1 ≤ cap1) ∧ NumsAt w 0 a1 len1 f1) (w2_0 : (Lit.int .i64 a2_0).wf = true) (w2_1 : (Lit.int .i64 a2_1).wf = true) :
    Calls Try.prog 5 #[.slice a0 len0 cap0, .slice a1 len1 cap1, .agg #[.int .i64 a2_0, .int .i64 a2_1]] w fun e w' => e = .returned (.bool true) ∧ Below w.heap.size w w' := by
  exact waveStreams_walk a0 a1 len0 cap0 len1 cap1 f0 f1 a2_0 a2_1 w w0.1.1 w1.1.1 w0.2 w1.2
set_option maxRecDepth 100000 in
theorem lifted (os : Os) (started : os.Started) (H : Type) (enc : TypeId × Value → H) :
    ReturnsInHanded {} Try.checked os 5 .any (Rows.waveStreamsSpec.pre6 enc Try.prog Try.f5 Rows.waveStreamsRow.domain false) (Rows.waveStreamsSpec.post enc Try.prog Try.f5 false true false false) := by
  refine returnsInHanded_of_change (C := Try.checked) own started (by kernel_rfl) Try.func5
    (ChangeSpec.witness6 (enc := enc) (C := Try.checked) false ⟨#[], #[.slice none 0 0, .slice none 0 0, .agg #[.int .i64 0, .int .i64 0]], []⟩ 8 (by kernel_rfl) (by kernel_rfl) (by kernel_rfl) (by kernel_rfl)) ?_
  intro W base args ds gs before hval0 hW hcnd _
  have hval : ∀ (j : Nat) t v, Try.f5.params[j]? = some t → args[j]? = some v → Value.okWide Try.prog W .any base t v := hval0
  have hW' := hW
  obtain ⟨p, q, hA0, hV, rfl, hfz, hnd⟩ := hW
  have hA : DataW.TrodAll enc Try.prog W 0 (fun _ => true) true Try.f5.params.toList args.toList ds p := hA0
  rw [Try.params5] at hA hval
  obtain ⟨v0, vs0, d0, ds0, p0, q0, hargs, rfl, rfl, h0, r0⟩ := trodAll_cons hA
  obtain ⟨v1, vs1, d1, ds1, p1, q1, rfl, rfl, rfl, h1, r1⟩ := trodAll_cons r0
  obtain ⟨v2, vs2, d2, ds2, p2, q2, rfl, rfl, rfl, h2, r2⟩ := trodAll_cons r1
  obtain ⟨rfl, rfl, rfl⟩ := trodAll_nil r2
  obtain rfl : args = #[v0, v1, v2] := by cases args; simp_all
  obtain ⟨rfl, rfl⟩ := trodVars_none hV
  have lt0 : ∀ x ∈ p0, x.block < W.heap.size := by obtain ⟨m, hm⟩ := h0; exact DataW.trod_lt m _ _ _ hm
  have u0 := hval 0 58 v0 rfl rfl
  have lt1 : ∀ x ∈ p1, x.block < W.heap.size := by obtain ⟨m, hm⟩ := h1; exact DataW.trod_lt m _ _ _ hm
  have u1 := hval 1 39 v1 rfl rfl
  have lt2 : ∀ x ∈ p2, x.block < W.heap.size := by obtain ⟨m, hm⟩ := h2; exact DataW.trod_lt m _ _ _ hm
  have u2 := hval 2 59 v2 rfl rfl
  have k0 := h0
  obtain ⟨a0, len0, cap0, rfl⟩ := okWide_slice Try.underlying58 u0
  obtain ⟨n0, f0, wf0⟩ := open_top_syms h0
  have w0 := And.intro n0 wf0
  have k1 := h1
  obtain ⟨a1, len1, cap1, rfl⟩ := okWide_slice Try.underlying39 u1
  obtain ⟨n1, f1, wf1⟩ := open_top_nums h1
  have w1 := And.intro n1 wf1
  have k2 := h2
  obtain ⟨a2_0, a2_1, rfl, w2_0, w2_1⟩ := open_array2 Try.underlying59 Try.underlying3 (by kernel_rfl) (by kernel_rfl) u2 h2
  clear hA0 hval0
  refine (walk a0 len0 cap0 f0 a1 len1 cap1 f1 a2_0 a2_1 W w0 w1 w2_0 w2_1).mono fun e W' ⟨he, bel⟩ => ?_
  subst he
  exact ⟨_, rfl, _, _, _, [], _, [], hW', trodAll_mk1 (shut_bool Try.underlying4 _), (trodAll_cons_mk (Below.trod laidOut (by kernel_rfl) (of_decide_eq_true (by kernel_rfl)) k0 bel lt0) (trodAll_cons_mk (Below.trod laidOut (by kernel_rfl) (of_decide_eq_true (by kernel_rfl)) k1 bel lt1) (trodAll_cons_mk (Below.trod laidOut (by kernel_rfl) (of_decide_eq_true (by kernel_rfl)) k2 bel lt2) trodAll_mk0))), rfl, bel.frame _, fun h => by cases h⟩
theorem over : Rows.waveStreamsRow.holds Try.pinned (OpenSpec.ofChange Rows.waveStreamsSpec) :=
  OpenClaim.holds_of_wide 5 Try.f5 rfl rfl rfl rfl rfl rfl rfl ⟨rfl, rfl, rfl, rfl, rfl⟩ rfl rfl rfl rfl rfl (by kernel_rfl) Try.func5 (by kernel_rfl)
    (of_decide_eq_true (by kernel_rfl)) (by unfold Func.isWrapper; first | (rw [if_pos (by decide +kernel)]; kernel_rfl) | (rw [if_neg (by decide +kernel)]; exact ⟨rfl, rfl⟩))
    (fun os started H enc _ => lifted os started H enc)
theorem proved : Rows.WaveStreamsSaid := over
end Go.Proofs.Ytfemghbjngemlaa.waveStreams
