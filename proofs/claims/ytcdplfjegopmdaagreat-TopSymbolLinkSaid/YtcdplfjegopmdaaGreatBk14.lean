/- Lemmas: S20, S24, S25, S26. -/
import Derived.RangeFuncWrites
import Derived.Test.YtcdplfjegopmdaaGreatBk01
import Derived.Test.YtcdplfjegopmdaaGreatBk03
import Derived.Test.YtcdplfjegopmdaaGreatBk08
import Derived.Test.YtcdplfjegopmdaaGreatBk13
set_option linter.unusedVariables false
set_option linter.unusedSimpArgs false
/- slices.Chunk of a list that has some times as many numbers. -/
namespace Go.Proofs.YtcdplfjegopmdaaGreat
open Go.RowKit Go.Shelf
attribute [local go_sem] Oper.semAt_some
set_option maxHeartbeats 400000 in
theorem chunkS_any (A : Option Addr) (n c k : Nat) (w : World) (hk : 1 ≤ k) :
    Calls Tryz.prog 61 #[.slice A n c, .int .i64 (k : Int)] w fun e w' =>
      e = .returned (.func (.func 96) #[] #[.pointer (some ⟨w.heap.size, 0, none⟩), .pointer (some ⟨w.heap.size + 1, 0, none⟩)]) ∧
        (w.alloc (.cells #[.slice A n c] 24)).alloc (.cells #[.int .i64 (k : Int)] 3) = w' := by
  have t1 : decide ((k : Int) < 1) = false := by simp; omega
  go_enter Tryz.func61, Tryz.ntmps61
  go_wp2
  go_ret
  exact ⟨rfl, rfl⟩
/-- Two blocks stay as they are. -/
def K2S (a : Nat) (A B : World) : Prop := A.heap.size ≤ B.heap.size ∧ B.heap[a]? = A.heap[a]? ∧ B.heap[a + 1]? = A.heap[a + 1]?
theorem K2S.refl (a : Nat) (A : World) : K2S a A A := ⟨Nat.le_refl _, rfl, rfl⟩
theorem K2S.trans {a : Nat} {A B C : World} (h : K2S a A B) (k : K2S a B C) : K2S a A C := ⟨Nat.le_trans h.1 k.1, k.2.1.trans h.2.1, k.2.2.trans h.2.2⟩
theorem K2S.of_below {a B0 : Nat} {A B : World} (h : Below B0 A B) (hk : a + 1 < B0) : K2S a A B := ⟨h.size, h.block _ (by omega), h.block _ hk⟩
theorem K2S.put {a l : Nat} {W : World} {o' : Obj} (h1 : l < a ∨ a + 1 < l) : K2S a W (W.putObj l o') :=
  ⟨by simp, World.putObj_heap_other (by omega), World.putObj_heap_other (by omega)⟩
/-- What the iterator hands to a round: the piece of a numbers. -/
def encS (g a C : Nat) (x : Fin C) : Array Value := #[.slice (some ⟨g, x.1 * a, none⟩) a a]
set_option maxHeartbeats 2000000 in
set_option maxRecDepth 100000 in
theorem chunkS_stops (fu : Nat) (b g a C s cap : Nat) (w : World)
    (bs : Box w b 24 #[.slice (some ⟨g, 0, none⟩) s cap]) (bn : Box w (b + 1) 3 #[.int .i64 (a : Int)])
    (ha : 1 ≤ a) (hs : s = C * a) (hs9 : s ≤ 100000) (hcap : s ≤ cap) (hcap9 : cap ≤ 9223372036854775807) :
    SeqStopsK Fence.wide fu Tryz.prog 96 #[.pointer (some ⟨b, 0, none⟩), .pointer (some ⟨b + 1, 0, none⟩)] (encS g a C) (K2S b)
      (fun xs => xs = seqTo C C) (fun _ => True) C w := by
  intro l J Jx W hW hJ hJx hY h0
  have cs := bs.below hW
  have cn := bn.below hW
  clear bs bn hW
  have z0 := cs.at_ 0
  have z1 := cn.at_ 0
  simp only [List.getElem?_toArray] at z0 z1
  have HS := hide hs
  clear hs
  refine callsIn_of_wp Tryz.func96 rfl trivial ?_ rfl
  simp only [Tryz.ntmps96, List.size_toArray, List.length_cons, List.length_nil, Nat.reduceAdd, Nat.reduceSub, Array.replicate_succ, Array.replicate_zero, List.push_toArray, List.append_toArray, List.nil_append, List.cons_append]
  gi_wp2_with fail
  gi_loopw [4] (fun i wr => ∃ j : Nat, j ≤ C ∧ i = .int .i64 ((j * a : Nat) : Int) ∧ J (seqTo C j) wr ∧ K2S b W wr) (fun i _ => s - (Go.RowKit.intOf i).toNat)
  case atStart => exact ⟨0, Nat.zero_le _, by rw [Nat.zero_mul]; rfl, h0, K2S.refl _ _⟩
  case round =>
    obtain ⟨j, hj, rfl, hJs, hnx⟩ := hrel
    have ds : Box wr b _ _ := hnx.2.1.trans cs
    have dn : Box wr (b + 1) _ _ := hnx.2.2.trans cn
    have x0 := ds.at_ 0
    have x1 := dn.at_ 0
    simp only [List.getElem?_toArray] at x0 x1
    obtain ⟨u, hu⟩ : ∃ u : Nat, u = j * a := ⟨_, rfl⟩
    rw [← hu]
    by_cases hlt : j < C
    · have hmul : (j + 1) * a ≤ C * a := Nat.mul_le_mul_right a hlt
      rw [← HS.out, Nat.add_mul, Nat.one_mul, ← hu] at hmul
      obtain ⟨z, hz⟩ : ∃ z : Nat, z = u + a := ⟨_, rfl⟩
      have hus : (u : Int) < (s : Int) := by omega
      have hus2 : u < s := by omega
      have hus3 : (u : Int) ≤ (s : Int) := by omega
      have hucap : (u : Int) ≤ (cap : Int) := by omega
      have hne : ¬ cap = u := by omega
      have hmn : ¬ ((s - u : Nat) : Int) < (a : Int) := by omega
      have hmn2 : ¬ s - u < a := by omega
      have q5 : IntKind.i64.wrap ((u : Int) + (a : Int)) = (z : Int) := by rw [IntWalk.i64_in _ (by omega)]; omega
      have huz : (u : Int) ≤ (z : Int) := by omega
      have huz2 : u ≤ z := by omega
      have hzc : (z : Int) ≤ (cap : Int) := by omega
      have hzs : (z : Int) ≤ (s : Int) := by omega
      have hsub : z - u = a := by omega
      have hne2 : ¬ z = u := by omega
      have hne3 : ¬ a = 0 := by omega
      have hJd : J (seqTo C j) wr.drew := hJ _ _ _ _ hJs (grown_of_below ((Below.refl _ _).drew)) (fun r e => by cases e)
      obtain ⟨fn', tmps, assign, body, hy, hR⟩ := hY (seqTo C j) ⟨j, hlt⟩ wr.drew hJd (Nat.lt_of_le_of_lt (seqTo_len _ _) hlt)
      dsimp only [encS] at hy
      rw [← hu] at hy
      have HZ := hide (show z = (j + 1) * a from by rw [hz, hu, Nat.add_mul, Nat.one_mul])
      have HU := hide hu
      have HZA := hide hz
      clear hu hz hmul
      gi_wp2_with fail
      gi_region
      gi_wp2_with fail
      refine ⟨fun h => by simp [Fence.wide] at h, hR.mono ?_⟩
      rintro e w3 (⟨rfl, hJ3, hk3⟩ | ⟨rfl, hJx3⟩)
      · have hn3 : K2S b W w3 := hnx.trans hk3
        have d3 : Box w3 (b + 1) _ _ := hn3.2.2.trans cn
        have y1 := d3.at_ 0
        simp only [List.getElem?_toArray] at y1
        clear x1 x0
        gi_wp2_with fail
        go_roundw
        case rel => exact ⟨j + 1, by omega, by rw [← HZ.out], by rw [seqTo_succ hlt]; exact hJ3, hn3⟩
        case measure => simp [Go.RowKit.intOf]; omega
      · gi_wp2_with fail
        refine bodyPost_ret (results_none rfl _ _ _) rfl ?_
        exact ⟨⟨_, rfl⟩, .inr ⟨_, trivial, hJx3⟩⟩
    · obtain rfl : j = C := by omega
      rw [← HS.out] at hu
      subst hu
      gi_wp2_with fail
      go_end0
      exact ⟨⟨_, rfl⟩, .inl ⟨_, rfl, hJs⟩⟩
end Go.Proofs.YtcdplfjegopmdaaGreat
/- A range over a function that hands new memory to each round: what the round may know of it at its beginning (Told). -/
namespace Go.Proofs.YtcdplfjegopmdaaGreat
open Go.RowKit
/-- The iterator's side: it asks a round only where Told holds of what has come, what comes and the world; the block kb is to stay as it is. -/
def SeqTold {α : Type} (F : Fence) (n : Nat) (P : Program) (g : Nat) (lb : Array Value) (encs : α → Array Value) (Told : List α → α → World → Prop) (kb : Nat) (S Sp : List α → Prop) (N : Nat) (w : World) : Prop :=
  ∀ (l : Nat) (J Jx : List α → World → Prop) (W : World), Below w.heap.size w W → AbidesFrom W.heap.size J → AbidesFrom W.heap.size Jx →
    (∀ xs x V, J xs V → Told xs x V → xs.length < N → YieldAt F (n - 1) P l (encs x) V fun e V' =>
      (e = .returned (.bool true) ∧ J (xs ++ [x]) V' ∧ V'.heap[kb]? = V.heap[kb]? ∧ V.heap.size ≤ V'.heap.size) ∨ (e = .returned (.bool false) ∧ Jx (xs ++ [x]) V')) →
    J [] W →
    CallsIn F n P g (#[.func (.yield l) #[] #[]] ++ lb) W fun e V => (∃ v, e = .returned v) ∧ ((∃ xs, S xs ∧ J xs V) ∨ (∃ xs, Sp xs ∧ Jx xs V))
/-- How a round ends: it goes on, or it returns. -/
def toldPost {α : Type} (B kb : Nat) (I Ir : List α → World → Prop) (xs : List α) (W : World) : Exit → Act → World → Prop
  | .normal, _, V => KeepsFrom B W V ∧ V.heap[kb]? = W.heap[kb]? ∧ I xs V
  | .ret, _, V => KeepsFrom B W V ∧ Ir xs V
  | _, _, _ => False
/-- The record of a loop, at rest with a jump that waits. -/
def recOf (fn : FuncId) (tmps : Array Value) (ps : Array Tmp) (assign body : Code) (b : Nat) (st : LoopState) (pe : Option Code) : Loop := { state := st, pending := pe, fn, tmps, params := ps, assign, body, defers := b }
/-- Two blocks of a loop's own: its record, and the one for deferred calls. -/
def LoopAt (b : Nat) (r : Loop) (W : World) : Prop := W.heap[b + 1]? = some (.loop r) ∧ W.heap[b]? = some (.deferred (some []))
theorem LoopAt.lt {b : Nat} {r : Loop} {W : World} (h : LoopAt b r W) : b + 1 < W.heap.size := (Array.getElem?_eq_some_iff.1 h.1).1
theorem LoopAt.turn {b : Nat} {r r' : Loop} {W : World} (h : LoopAt b r W) : LoopAt b r' (W.putObj (b + 1) (.loop r')) := ⟨World.putObj_heap_same h.lt, (World.putObj_heap_other (by omega)).trans h.2⟩
theorem LoopAt.from {b : Nat} {r : Loop} {W V : World} (h : LoopAt b r W) (k : KeepsFrom b W V) : LoopAt b r V := ⟨k.same _ _ (by omega) h.1 rfl, k.same _ _ (Nat.le_refl _) h.2 rfl⟩
theorem LoopAt.grown {b : Nat} {r : Loop} {A B : World} {row : Option Nat} (h : LoopAt b r A) (hg : A.grownBy B row) (hr : ∀ q, row = some q → ∃ o : Obj, A.heap[q]? = some o ∧ o.isWalk = true) : LoopAt b r B :=
  ⟨(hg.block _ h.lt fun e => by obtain ⟨o, h1, h2⟩ := hr _ e.symm; rw [h.1] at h1; injection h1 with h1; subst h1; cases h2).trans h.1,
   (hg.block _ (by have := h.lt; omega) fun e => by obtain ⟨o, h1, h2⟩ := hr _ e.symm; rw [h.2] at h1; injection h1 with h1; subst h1; cases h2).trans h.2⟩
section
variable {F : Fence} {n : Nat} {P : Program}
theorem wpIn_rangeFunc_told {α : Type} {g : Operand} {ps : Array Tmp} {assign body : Code} {Q : Exit → Act → World → Prop} {a : Act} {w : World}
    (hro : F.round = none) (h1 : 1 ≤ n) {gf : Nat} {lb : Array Value} (hg : a.eval g = .func (.func gf) #[] lb) (hFg : F.fn gf) (eg : ∀ args w, (callFunc gf args).run P w = .ok (.enter gf args) w)
    {encs : α → Array Value} {Told : List α → α → World → Prop} {kb : Nat} {S Sp : List α → Prop} {N : Nat} {w0 : World} (hseq : SeqTold F (n - 1) P gf lb encs Told kb S Sp N w0) (hkb : kb < w.heap.size)
    (hb0 : Below w0.heap.size w0 w) (hps : ∀ x, (encs x).size = ps.size)
    (I Ir : List α → World → Prop) (hI : OwnFrom w.heap.size I) (hIr : OwnFrom w.heap.size Ir) (hT : ∀ xs x, OwnFrom w.heap.size fun (_ : Unit) V => Told xs x V) (h0 : I [] w) (a₁ : α → Act)
    (hassign : ∀ (l : Nat) (x : α) (W : World) (K : Act → World → Prop), K (a₁ x) W →
      assign.wpIn (F.inRound l) (n - 1 - 1) P (Exit.then K (fun _ _ _ => False)) { tmps := (ps.zip (encs x)).foldl (fun t (p, v) => t.setIfInBounds p v) a.tmps, defers := [] } W)
    (hbody : ∀ (l : Nat) (xs : List α) (x : α) (W : World), w.heap.size ≤ W.heap.size → I xs W → Told xs x W → xs.length < N → body.wpIn (F.inRound l) (n - 1 - 1) P (toldPost w.heap.size kb I Ir (xs ++ [x]) W) (a₁ x) W)
    (hdone : ∀ (D : Nat) (xs : List α) (W : World), w.heap.size ≤ D → S xs → I xs W → W.heap[D]? = some (.deferred (some [])) → Q .normal { a with defers := { target := .collected D, args := #[] } :: a.defers } W)
    (hstop : ∀ (D : Nat) (xs : List α) (W : World), w.heap.size ≤ D → Sp xs → Ir xs W → W.heap[D]? = some (.deferred (some [])) → Code.ret.wpIn F n P Q { a with defers := { target := .collected D, args := #[] } :: a.defers } W) :
    (Code.rangeFunc g ps assign body).wpIn F n P Q a w := by
  apply wpIn_rangeFunc
  intro fn hfn
  obtain ⟨b, hb⟩ : ∃ b, w.heap.size = b := ⟨_, rfl⟩
  rw [hb] at hI hIr hT hbody hdone hstop hkb
  obtain ⟨rec, hrec⟩ : ∃ r, r = recOf fn a.tmps ps assign body b := ⟨_, rfl⟩
  obtain ⟨V0, hV0⟩ : ∃ V, (w.alloc (.deferred (some []))).alloc (.loop (rec .ready none)) = V := ⟨_, rfl⟩
  have hL0 : LoopAt b (rec .ready none) V0 := by
    subst hb
    rw [← hV0]
    refine ⟨?_, (Below.heap_alloc _ _ _ (by simp)).trans (World.alloc_heap_new w _)⟩
    have := World.alloc_heap_new (w.alloc (.deferred (some []))) (.loop (rec .ready none))
    rwa [World.size_alloc] at this
  have hI0 : I [] V0 := by rw [← hV0]; exact hI.alloc _ (hI.alloc _ h0)
  have hB0 : Below w0.heap.size w0 V0 := by
    rw [← hV0]
    exact (hb0.alloc hb0.size _).alloc (Nat.le_trans hb0.size (by simp)) _
  have hsz : b ≤ V0.heap.size := by have := hL0.lt; omega
  have frm : ∀ {β : Type} {X : β → World → Prop} {B : Nat}, b ≤ B → OwnFrom b X → AbidesFrom B X := fun hB h s A C row hs hg' hr => h s A C row hs hg' fun q e => by
    obtain ⟨h1, o, h2, h3⟩ := hr q e
    exact ⟨by omega, o, h2, Obj.not_cells_of_walk h3⟩
  have ent := run_enterLoop_outer (P := P) (w := w) fn a.tmps ps assign body
  have two : (w.alloc (.deferred (some []))).alloc (.loop { state := .ready, pending := none, fn, tmps := a.tmps, params := ps, assign, body, defers := w.heap.size }) = V0 := by
    rw [← hV0, hrec, ← hb]
    rfl
  rw [two, hb, ← hro] at ent
  refine ⟨b + 1, [{ target := .collected b, args := #[] }], V0, { target := .fn (.func gf) lb, args := #[.func (.yield (b + 1)) #[] #[]] }, V0, gf, #[.func (.yield (b + 1)) #[] #[]] ++ lb, V0, ent, ?_, ?_, ?_, fun _ => h1, ?_⟩
  · simp only [resolve, hg]
    simp [go_sem]
  · intro f' hf'
    simp [Target.leads] at hf'
    subst hf'
    exact hFg
  · simp [invoke, go_sem, eg]
  have rnd : ∀ xs x V, (I xs V ∧ LoopAt b (rec .ready none) V) → Told xs x V → xs.length < N → YieldAt F (n - 1 - 1) P (b + 1) (encs x) V fun e V' =>
      (e = .returned (.bool true) ∧ (I (xs ++ [x]) V' ∧ LoopAt b (rec .ready none) V') ∧ V'.heap[kb]? = V.heap[kb]? ∧ V.heap.size ≤ V'.heap.size) ∨ (e = .returned (.bool false) ∧ (Ir (xs ++ [x]) V' ∧ LoopAt b (rec .done (some .ret)) V')) := by
    rintro xs x V ⟨hi, hl⟩ ht hlen
    have hy := run_yield (P := P) (args := encs x) hl.1 (by rw [hrec]; exact hps x)
    rw [hrec] at hy
    obtain ⟨busy, hbz⟩ : ∃ r : Loop, { rec .ready none with state := .busy } = r := ⟨_, rfl⟩
    have hbusy := hl.turn (r' := busy)
    have hbeg := run_beginRound (P := P) hl.1 (by rw [hrec]; rfl)
    rw [hbz] at hbeg
    have hi2 := hI.putObj (.loop busy) hi (by omega) hl.1 rfl
    have ht2 := (hT xs x).putObj (s := ()) (.loop busy) ht (by omega) hl.1 rfl
    have hsz2 : w.heap.size ≤ (V.putObj (b + 1) (.loop busy)).heap.size := by have := hbusy.lt; omega
    refine ⟨fn, _, assign, body, hy, roundIn_of_wpIn hfn (hassign _ x V _ ⟨_, hbeg, wpIn_mono (hbody (b + 1) xs x _ (by omega) hi2 ht2 hlen) ?_⟩)⟩
    intro e a3 V3 hp
    match e, hp with
    | .normal, hp =>
      obtain ⟨hk, hkb3, hi3⟩ := hp
      have hl3 := hbusy.from hk
      have he := run_endRound (P := P) none hl3.1
      rw [← hbz] at he hl3
      rw [hrec] at he hl3 ⊢
      exact ⟨_, _, he, .inl ⟨rfl, ⟨hI.putObj _ hi3 (by omega) hl3.1 rfl, hl3.turn⟩, (World.putObj_heap_other (by omega)).trans (hkb3.trans (World.putObj_heap_other (by omega))), by have := hk.size; simp at this; simp; omega⟩⟩
    | .ret, hp =>
      obtain ⟨hk, hi3⟩ := hp
      have hl3 := hbusy.from hk
      have he := run_endRound (P := P) (some .ret) hl3.1
      rw [← hbz] at he hl3
      rw [hrec] at he hl3 ⊢
      exact ⟨_, _, he, .inr ⟨rfl, hIr.putObj _ hi3 (by omega) hl3.1 rfl, hl3.turn⟩⟩
  refine (hseq (b + 1) (fun xs V => I xs V ∧ LoopAt b (rec .ready none) V) (fun xs V => Ir xs V ∧ LoopAt b (rec .done (some .ret)) V) V0 hB0
    (fun s A C row hs hg' hr => ⟨frm hsz hI s A C row hs.1 hg' hr, hs.2.grown hg' fun q e => (hr q e).2⟩)
    (fun s A C row hs hg' hr => ⟨frm hsz hIr s A C row hs.1 hg' hr, hs.2.grown hg' fun q e => (hr q e).2⟩) rnd ⟨hI0, hL0⟩).mono ?_
  rintro e V ⟨⟨v, rfl⟩, hend⟩
  rcases hend with ⟨xs, hS, hi, hl⟩ | ⟨xs, hS, hi, hl⟩
  · have he := run_endLoop (P := P) hl.1 (by rw [hrec]; intro h; cases h)
    rw [hrec] at he hl
    exact ⟨none, _, he, hdone b xs _ (Nat.le_refl _) hS (hI.putObj _ hi (by omega) hl.1 rfl) ((World.putObj_heap_other (by omega)).trans hl.2)⟩
  · have he := run_endLoop (P := P) hl.1 (by rw [hrec]; intro h; cases h)
    rw [hrec] at he hl
    exact ⟨some .ret, _, he, hstop b xs _ (Nat.le_refl _) hS (hIr.putObj _ hi (by omega) hl.1 rfl) ((World.putObj_heap_other (by omega)).trans hl.2)⟩
end
end Go.Proofs.YtcdplfjegopmdaaGreat
/- Lists of lists of complex numbers: read, made by appending. -/
namespace Go.Proofs.YtcdplfjegopmdaaGreat
open Go.RowKit Go.Shelf
/-- A slice of n slices; the slice i has L i numbers F i. -/
def MatsAt (w : World) (lo : Nat) (A : Option Addr) (n : Nat) (L : Nat → Nat) (F : Nat → Nat → Gau) : Prop :=
  ∀ i, i < n → ∃ b o Ai ci, A = some ⟨b, o, none⟩ ∧ lo ≤ b ∧ b < w.heap.size ∧ w.cell? ⟨b, o + i, none⟩ = some (.slice Ai (L i) ci) ∧ L i ≤ ci ∧ ci ≤ 9223372036854775807 ∧ GausAt w lo Ai (L i) (F i)
section
variable {w w' : World} {lo n : Nat} {A : Option Addr} {L : Nat → Nat} {F : Nat → Nat → Gau}
theorem MatsAt.nil_ : MatsAt w lo A 0 L F := fun i h => absurd h (Nat.not_lt_zero i)
theorem MatsAt.below (h : MatsAt w lo A n L F) (hb : Below w.heap.size w w') : MatsAt w' lo A n L F := fun i hi => by
  obtain ⟨b, o, Ai, ci, e, h1, h2, h3, h4, h5, h6⟩ := h i hi
  exact ⟨b, o, Ai, ci, e, h1, Nat.lt_of_lt_of_le h2 hb.size, (hb.cell (p := ⟨b, o + i, none⟩) h2).trans h3, h4, h5, h6.below hb⟩
theorem MatsAt.alloc (h : MatsAt w lo A n L F) (x : Obj) : MatsAt (w.alloc x) lo A n L F := h.below ((Below.refl _ _).alloc (Nat.le_refl _) _)
theorem MatsAt.drewN (h : MatsAt w lo A n L F) (m : Nat) : MatsAt (w.drewN m) lo A n L F := h
theorem MatsAt.weak {lo' : Nat} (h : MatsAt w lo A n L F) (hl : lo' ≤ lo) : MatsAt w lo' A n L F := fun i hi => by
  obtain ⟨b, o, Ai, ci, e, h1, h2, h3, h4, h5, h6⟩ := h i hi
  exact ⟨b, o, Ai, ci, e, Nat.le_trans hl h1, h2, h3, h4, h5, h6.weak hl⟩
theorem GausAt.block {b o k : Nat} {G : Nat → Gau} (h : GausAt w lo (some ⟨b, o, none⟩) n G) (hk : k < n) : lo ≤ b ∧ b < w.heap.size := by
  obtain ⟨b', o', e, h1, h2, -⟩ := h k hk
  injection e with e; injection e with e1 e2; subst e1
  exact ⟨h1, h2⟩
end
theorem OwnGaus.block {w : World} {base n c b o : Nat} {m : Option Nat} {F : Nat → Gau} (h : OwnGaus w base (.slice (some ⟨b, o, none⟩) n c) n F) : base ≤ b ∧ b < w.heap.size := by
  rcases h.2 with ⟨h1, -⟩ | ⟨g, cap, cur, h1, hb, hg, -⟩
  · simp at h1
  · injection h1 with e1; injection e1 with e1; injection e1 with e1; subst e1
    exact ⟨hb, (Array.getElem?_eq_some_iff.1 hg).1⟩
/-- A slice of slices of the call's own: its row, and rows of numbers in other blocks. -/
def OwnMats (w : World) (base : Nat) (v : Value) (n : Nat) (L : Nat → Nat) (F : Nat → Nat → Gau) : Prop :=
  ∃ xs : List Value, w.ownsRow base 32 1 v n xs ∧ ∀ i, i < n → ∃ Ai ci, xs[i]? = some (.slice Ai (L i) ci) ∧ L i ≤ ci ∧ ci ≤ 9223372036854775807 ∧ GausAt w base Ai (L i) (F i) ∧ ∀ b o, Ai = some ⟨b, o, none⟩ → v.ownBlock ≠ some b ∧ b < w.heap.size
section
variable {w w' : World} {base n : Nat} {v : Value} {L : Nat → Nat} {F : Nat → Nat → Gau}
theorem OwnMats.nil_ (w : World) (base : Nat) (L : Nat → Nat) (F : Nat → Nat → Gau) : OwnMats w base (.slice none 0 0) 0 L F := ⟨[], World.ownsRow_nil _ _ _ _, fun i h => absurd h (Nat.not_lt_zero i)⟩
theorem OwnMats.below (h : OwnMats w base v n L F) (hb : Below w.heap.size w w') : OwnMats w' base v n L F := by
  obtain ⟨xs, h1, h2⟩ := h
  refine ⟨xs, World.ownsRow.kept h1 (row := none) ⟨hb.os, hb.tape, hb.output, hb.size, fun k hk _ => hb.block k hk⟩ (by cases v.ownBlock <;> simp), fun i hi => ?_⟩
  obtain ⟨Ai, ci, e, h3, h4, h5, h6⟩ := h2 i hi
  exact ⟨Ai, ci, e, h3, h4, h5.below hb, fun b o e => ⟨(h6 b o e).1, Nat.lt_of_lt_of_le (h6 b o e).2 hb.size⟩⟩
theorem OwnMats.alloc (h : OwnMats w base v n L F) (o : Obj) : OwnMats (w.alloc o) base v n L F := h.below ((Below.refl _ _).alloc (Nat.le_refl _) _)
theorem OwnMats.drew (h : OwnMats w base v n L F) : OwnMats w.drew base v n L F := h
theorem OwnMats.drewN (h : OwnMats w base v n L F) (q : Nat) : OwnMats (w.drewN q) base v n L F := h
theorem OwnMats.congr {L' : Nat → Nat} {F' : Nat → Nat → Gau} (h : OwnMats w base v n L F) (e : ∀ i, i < n → L i = L' i ∧ ∀ k, k < L i → F i k = F' i k) : OwnMats w base v n L' F' := by
  obtain ⟨xs, h1, h2⟩ := h
  refine ⟨xs, h1, fun i hi => ?_⟩
  obtain ⟨Ai, ci, g, h3, h4, h5, h6⟩ := h2 i hi
  obtain ⟨e1, e2⟩ := e i hi
  exact ⟨Ai, ci, by rw [← e1]; exact g, by omega, h4, by rw [← e1]; exact h5.congr e2, h6⟩
theorem OwnMats.form (h : OwnMats w base v n L F) : ∃ A c, v = .slice A n c ∧ n ≤ c ∧ c ≤ 9223372036854775807 ∧ MatsAt w base A n L F := by
  obtain ⟨xs, h1, h2⟩ := h
  have hm9 : maxLen ≤ 9223372036854775807 := by decide
  rcases h1.2 with ⟨rfl, rfl⟩ | ⟨g, cap, cur, rfl, hb, hg, hnc, hm, -⟩
  · exact ⟨_, _, rfl, Nat.le_refl _, by decide, MatsAt.nil_⟩
  · refine ⟨_, _, rfl, hnc, by omega, fun i hi => ?_⟩
    obtain ⟨Ai, ci, e, h3, h4, h5, h6⟩ := h2 i hi
    have hc := World.ownsRow.cells h1 (g := g) rfl i _ e
    rw [Addr.add_lit] at hc
    exact ⟨g, 0, Ai, ci, rfl, hb, (Array.getElem?_eq_some_iff.1 hg).1, hc, h3, h4, h5⟩
theorem OwnMats.lt (h : OwnMats w base v n L F) {k : Nat} (hk : v.ownBlock = some k) : base ≤ k ∧ k < w.heap.size := by
  obtain ⟨xs, h1, -⟩ := h
  exact World.ownsRow.lt h1 k hk
end
theorem GausAt.grown {w w' : World} {lo n : Nat} {A : Option Addr} {G : Nat → Gau} {row : Option Nat} (h : GausAt w lo A n G) (hg : w.grownBy w' row) (ha : ∀ b o, A = some ⟨b, o, none⟩ → row ≠ some b) : GausAt w' lo A n G := fun k hk => by
  obtain ⟨b, o, e, h1, h2, h3, h4⟩ := h k hk
  exact ⟨b, o, e, h1, Nat.lt_of_lt_of_le h2 hg.size, (World.cell?_of_block (a := ⟨b, _, none⟩) (hg.block b h2 (fun x => ha b o e x.symm))).trans h3, (World.cell?_of_block (a := ⟨b, _, none⟩) (hg.block b h2 (fun x => ha b o e x.symm))).trans h4⟩
def snocL (n : Nat) (L : Nat → Nat) (m : Nat) (i : Nat) : Nat := if i < n then L i else m
def snocG (n : Nat) (F : Nat → Nat → Gau) (G : Nat → Gau) (i : Nat) : Nat → Gau := if i < n then F i else G
theorem matInfo : (Tryz.prog.info? 32).map (fun i => (i.zero, i.size, i.bytes)) = some (some (.slice none 0 0), 1, 24) := by kernel_rfl
set_option maxRecDepth 100000 in
theorem run_append_mat (w : World) (ty : TypeId) (base : Nat) (v : Value) (n : Nat) (L : Nat → Nat) (F : Nat → Nat → Gau) (hown : OwnMats w base v n L F)
    (g1 : Nat) (A : Option Addr) (m c : Nat) (G : Nat → Gau) (hc : w.cell? ⟨g1, 0, none⟩ = some (.slice A m c)) (hmc : m ≤ c) (hc9 : c ≤ 9223372036854775807) (hr : GausAt w base A m G) (ha : ∀ b o, A = some ⟨b, o, none⟩ → v.ownBlock ≠ some b ∧ b < w.heap.size) (hn : n ≤ 1000000) (hbase : base ≤ w.heap.size) :
    ∃ v' w', (Builtin.append_ #[31, 31] ty #[v, .slice (some ⟨g1, 0, none⟩) 1 1]).run Tryz.prog w = .ok v' w' ∧ OwnMats w' base v' (n + 1) (snocL n L m) (snocG n F G) ∧ Below base w w' ∧ w.grownBy w' v.ownBlock := by
  obtain ⟨i0, hi, hz0, hz1, hz2⟩ := info_parts matInfo
  obtain ⟨xs, h1, h2⟩ := hown
  have hlen : xs.length = n := by rw [h1.1, Nat.mul_one]
  obtain ⟨v', w', hrun, hown', hg, -, hblk⟩ := run_append_own_at (P := Tryz.prog) w base 31 ty 32 i0 (.slice none 0 0) 1 24 Tryz.underlying31 hi hz0 hz1 hz2 rfl (by decide) v n xs h1 ⟨g1, 0, none⟩ 1 1 [.slice A m c] rfl
    (fun j u hu => by
      match j, hu with
      | 0, hu =>
        simp at hu
        subst hu
        exact hc
      | j + 1, hu => simp at hu)
    (fun u hu => by
      simp at hu
      subst hu
      rfl) (by unfold maxLen; omega) (by omega) hbase
  have hb : Below base w w' := (Below.refl _ _).grown hg hbase (fun k hk => (World.ownsRow.lt h1 k hk).1)
  refine ⟨v', w', hrun, ⟨_, hown', fun i hi => ?_⟩, hb, hg⟩
  have apart : ∀ (B : Option Addr), (∀ b o, B = some ⟨b, o, none⟩ → v.ownBlock ≠ some b ∧ b < w.heap.size) → ∀ b o, B = some ⟨b, o, none⟩ → v'.ownBlock ≠ some b ∧ b < w'.heap.size := fun B hB b o e => by
    obtain ⟨x1, x2⟩ := hB b o e
    refine ⟨?_, Nat.lt_of_lt_of_le x2 hg.size⟩
    rcases hblk with y | y
    · rw [y]; exact x1
    · rw [y]; intro z; injection z with z; omega
  by_cases hin : i < n
  · obtain ⟨Ai, ci, e, h3, h4, h5, h6⟩ := h2 i hin
    unfold snocL snocG
    rw [if_pos hin, if_pos hin]
    exact ⟨Ai, ci, by rw [List.getElem?_append_left (by omega)]; exact e, h3, h4, h5.grown hg (fun b o e => (h6 b o e).1), apart Ai h6⟩
  · have hi' : i = n := by omega
    unfold snocL snocG
    rw [if_neg hin, if_neg hin]
    refine ⟨A, c, ?_, hmc, hc9, hr.grown hg (fun b o e => (ha b o e).1), apart A ha⟩
    rw [List.getElem?_append_right (by omega), hlen, hi', Nat.sub_self]
    rfl
theorem wp_append_mat {o : Oper} {a : Act} {K : Act → World → Prop} {Q : Exit → Act → World → Prop} (w : World) (s x : Operand)
    (ho : o.op = .call { callee := .builtin .append, args := #[s, x], argTypes := #[31, 31] })
    (base : Nat) (v : Value) (n : Nat) (L : Nat → Nat) (F : Nat → Nat → Gau) (hs : a.eval s = v) (hown : OwnMats w base v n L F)
    (g1 : Nat) (A : Option Addr) (m c : Nat) (G : Nat → Gau) (hx : a.eval x = .slice (some ⟨g1, 0, none⟩) 1 1) (hc : w.cell? ⟨g1, 0, none⟩ = some (.slice A m c)) (hmc : m ≤ c) (hc9 : c ≤ 9223372036854775807) (hr : GausAt w base A m G) (ha : ∀ b o, A = some ⟨b, o, none⟩ → v.ownBlock ≠ some b ∧ b < w.heap.size) (hn : n ≤ 1000000) (hbase : base ≤ w.heap.size)
    (h : ∀ v' w', OwnMats w' base v' (n + 1) (snocL n L m) (snocG n F G) → Below base w w' → K (a.put o.dst v') w') : o.wp Tryz.prog a w K Q := by
  obtain ⟨v', w', hrun, h1, h2, -⟩ := run_append_mat w o.type base v n L F hown g1 A m c G hc hmc hc9 hr ha hn hbase
  unfold Oper.wp execOp
  simp only [ho, resolve, invoke, builtin, Sem.run_bind, Sem.run_pure, Result.andThen_ok, List.map_toArray, List.map_cons, List.map_nil, hs, hx, hrun]
  exact h v' w' h1 h2
theorem wpList_append_mat {ops : Array Oper} {rest : List Oper} {o : Oper} {a : Act} {Q : Exit → Act → World → Prop} (w : World) (hgd : o.guard = none) (s x : Operand)
    (ho : o.op = .call { callee := .builtin .append, args := #[s, x], argTypes := #[31, 31] })
    (base : Nat) (v : Value) (n : Nat) (L : Nat → Nat) (F : Nat → Nat → Gau) (hs : a.eval s = v) (hown : OwnMats w base v n L F)
    (g1 : Nat) (A : Option Addr) (m c : Nat) (G : Nat → Gau) (hx : a.eval x = .slice (some ⟨g1, 0, none⟩) 1 1) (hc : w.cell? ⟨g1, 0, none⟩ = some (.slice A m c)) (hmc : m ≤ c) (hc9 : c ≤ 9223372036854775807) (hr : GausAt w base A m G) (ha : ∀ b o, A = some ⟨b, o, none⟩ → v.ownBlock ≠ some b ∧ b < w.heap.size) (hn : n ≤ 1000000) (hbase : base ≤ w.heap.size)
    (h : ∀ v' w', OwnMats w' base v' (n + 1) (snocL n L m) (snocG n F G) → Below base w w' → wpList Tryz.prog ops Q rest (a.put o.dst v') w') : wpList Tryz.prog ops Q (o :: rest) a w :=
  wpList_plain hgd fun _ hK => wp_append_mat w s x ho base v n L F hs hown g1 A m c G hx hc hmc hc9 hr ha hn hbase fun v' w' h1 h2 => hK _ _ (h v' w' h1 h2)
theorem step_append_mat {ops : Array Oper} {o : Oper} {a : Act} {K : Act → World → Prop} {Q : Exit → Act → World → Prop} {E : Prop} (w : World) (hgd : o.guard = none) (s x : Operand)
    (ho : o.op = .call { callee := .builtin .append, args := #[s, x], argTypes := #[31, 31] })
    (base : Nat) (v : Value) (n : Nat) (L : Nat → Nat) (F : Nat → Nat → Gau) (hs : a.eval s = v) (hown : OwnMats w base v n L F)
    (g1 : Nat) (A : Option Addr) (m c : Nat) (G : Nat → Gau) (hx : a.eval x = .slice (some ⟨g1, 0, none⟩) 1 1) (hc : w.cell? ⟨g1, 0, none⟩ = some (.slice A m c)) (hmc : m ≤ c) (hc9 : c ≤ 9223372036854775807) (hr : GausAt w base A m G) (ha : ∀ b o, A = some ⟨b, o, none⟩ → v.ownBlock ≠ some b ∧ b < w.heap.size) (hn : n ≤ 1000000) (hbase : base ≤ w.heap.size)
    (h : ∀ v' w', OwnMats w' base v' (n + 1) (snocL n L m) (snocG n F G) → Below base w w' → K (a.put o.dst v') w') :
    if Region.wanted o (yielded ops a.tmps) = true then Oper.wp Tryz.prog o a w K Q else E := by
  have hw : Region.wanted o (yielded ops a.tmps) = true := by simp [Region.wanted, hgd]
  rw [if_pos hw]
  exact wp_append_mat w s x ho base v n L F hs hown g1 A m c G hx hc hmc hc9 hr ha hn hbase h
theorem OwnGaus.cap_any {w : World} {base n c : Nat} {A : Option Addr} {F : Nat → Gau} (h : OwnGaus w base (.slice A n c) n F) : n ≤ c ∧ c ≤ 9223372036854775807 := by
  have hm9 : maxLen ≤ 9223372036854775807 := by decide
  rcases h.2 with ⟨h1, h2⟩ | ⟨g, cap, cur, h1, -, -, hn, hm, -⟩
  · injection h1 with _ _ h3
    subst h3
    have := h.1
    rw [h2] at this
    simp at this
    exact ⟨by omega, by decide⟩
  · injection h1 with _ _ h3
    subst h3
    exact ⟨hn, by omega⟩
theorem OwnGaus.nil_ (w : World) (base : Nat) (F : Nat → Gau) : OwnGaus w base (.slice none 0 0) 0 F := ownGaus_nil w base F
theorem OwnMats.weak {w : World} {base base' n : Nat} {v : Value} {L : Nat → Nat} {F : Nat → Nat → Gau} (h : OwnMats w base v n L F) (hb : base' ≤ base) : OwnMats w base' v n L F := by
  obtain ⟨xs, h1, h2⟩ := h
  exact ⟨xs, ⟨h1.1, h1.2.elim Or.inl (fun ⟨g, cap, cur, hv, hg, r⟩ => Or.inr ⟨g, cap, cur, hv, Nat.le_trans hb hg, r⟩)⟩, fun i hi => by obtain ⟨Ai, ci, e, h3, h4, h5, h6⟩ := h2 i hi; exact ⟨Ai, ci, e, h3, h4, h5.weak hb, h6⟩⟩
set_option maxHeartbeats 1000000 in
theorem copyGaus_own (A : Option Addr) (n c : Nat) (F : Nat → Gau) (w : World) (hn : n ≤ 10000000) (hI : GausAt w 0 A n F) :
    Calls Tryz.prog 22 #[.slice A n c] w fun e w' => ∃ v, e = .returned v ∧ OwnGaus w' w.heap.size v n F ∧ Below w.heap.size w w' := by
  have HI := hide (hI.alloc (.cells #[] 62))
  have HE := hide (OwnGaus.empty w _ rfl F)
  clear hI
  go_enter Tryz.func22, Tryz.ntmps22
  go_wp2_with (at_builtin; refine wpList_append_gaus _ rfl (.tmp 3) (.tmp 4) rfl w.heap.size 0 (.slice (some ⟨w.heap.size, 0, none⟩) 0 0) 0 F rfl HE.out A n c F rfl HI.out (by omega) (by simp) ?_; intro v' w' h1 hb1)
  go_ret
  have hB : Below w.heap.size w w' := ((Below.refl _ _).alloc (Nat.le_refl _) _).trans hb1
  rw [Nat.zero_add] at h1
  exact ⟨_, rfl, h1.congr fun j _ => by simp [catG], hB⟩
set_option maxHeartbeats 2000000 in
theorem copyAll_any (A : Option Addr) (n c : Nat) (L : Nat → Nat) (F : Nat → Nat → Gau) (w : World) (hn : n ≤ 100000) (hL : ∀ i, i < n → L i ≤ 100000) (hI : MatsAt w 0 A n L F) :
    Calls Tryz.prog 25 #[.slice A n c] w fun e w' => ∃ v, e = .returned v ∧ OwnMats w' w.heap.size v n L F ∧ Below w.heap.size w w' := by
  have HI := hide hI
  have HL := hide hL
  clear hI hL
  go_enter Tryz.func25, Tryz.ntmps25
  go_wp2_with fail
  go_loopw [3, 4] (fun x i wr => ∃ k : Nat, k ≤ n ∧ i = .int .i64 k ∧ OwnMats wr w.heap.size x k L F ∧ Below w.heap.size w wr) (fun _ i _ => n - (Go.RowKit.intOf i).toNat)
  case atStart => exact ⟨0, Nat.zero_le _, rfl, OwnMats.nil_ _ _ _ _, Below.refl _ _⟩
  case round =>
    obtain ⟨k, hk, rfl, hown, hB⟩ := hrel
    have hBs := hB.size
    by_cases hlt : k < n
    · have hltz : (k : Int) < (n : Int) := by omega
      obtain ⟨b, o, Ai, ci, rfl, -, hb, hcell, hlc, hc9, hIk⟩ := (HI.out.below hB) k hlt
      obtain ⟨As, cs, rfl, hcs, hcs9, hIs⟩ := hown.form
      go_wp2_with fail
      refine (copyGaus_own Ai (L k) ci (F k) _ (by have := HL.out k hlt; omega) hIk).mono ?_
      rintro e w2 ⟨v2, rfl, hown2, hb2⟩
      obtain ⟨A2, c2, rfl, hc2, hI2⟩ := ownGaus_form hown2
      have hcap := hown2.cap_any
      have hb2s := hb2.size
      go_wp2_with (at_builtin; refine wpList_append_mat _ rfl (.tmp 11) (.tmp 17) rfl w.heap.size (.slice As k cs) k L F rfl ((hown.below hb2).alloc _) w2.heap.size A2 (L k) c2 (F k) rfl ((Box.made rfl : Box _ w2.heap.size 32 #[.slice A2 (L k) c2]).at_ 0) hc2 hcap.2 ((hI2.weak hBs).alloc _) (fun b' o' e => (by subst e; exact ⟨fun z => (by have h1 := (hown2.block (m := none)).1; have h2 := (hown.lt z).2; omega), (by have := (hown2.block (m := none)).2; simp; omega)⟩)) (by omega) (by simp; omega) ?_; intro v' w' h1 hb3)
      refine ⟨⟨k + 1, by omega, by simp, h1.congr (fun i hi => ?_), ((hB.trans (hb2.mono hBs)).alloc (by omega) _).trans hb3⟩, by simp [Go.RowKit.intOf]; omega⟩
      unfold snocL snocG
      by_cases e : i < k
      · rw [if_pos e, if_pos e]; exact ⟨rfl, fun _ _ => rfl⟩
      · obtain rfl : i = k := by omega
        rw [if_neg e, if_neg e]; exact ⟨rfl, fun _ _ => rfl⟩
    · obtain rfl : k = n := by omega
      go_wp2_with fail
      go_ret
      exact ⟨_, rfl, hown, hB⟩
end Go.Proofs.YtcdplfjegopmdaaGreat
/- Gausses of base and SameAll of the reference: are two lists (of lists) alike? -/
namespace Go.Proofs.YtcdplfjegopmdaaGreat
open Go.RowKit Go.Shelf
def Gau.eqB (x y : Gau) : Bool := x.re == y.re && x.im == y.im
theorem Gau.eqB_iff {x y : Gau} : x.eqB y = true ↔ x = y := by
  unfold Gau.eqB
  constructor
  · intro h
    simp at h
    exact Gau.same h.1 h.2
  · rintro rfl
    simp
def gausB (n : Nat) (F : Nat → Gau) (m : Nat) (G : Nat → Gau) : Bool := n == m && (List.range n).all fun k => (F k).eqB (G k)
theorem gausB_iff {n m : Nat} {F G : Nat → Gau} : gausB n F m G = true ↔ n = m ∧ ∀ k, k < n → F k = G k := by simp [gausB, Gau.eqB_iff]
theorem quietG {P : Program} {f : FuncId} {args : Array Value} {w : World} {a n : Nat} {v : Value}
    (h : Calls P f args (w.drewN (a + n)) fun e w' => e = .returned v ∧ ∃ q, w' = (w.drewN (a + n)).drewN q) :
    Calls P f args (w.drewN (a + n)) fun e w'' => e = .returned v ∧ ∃ m, w'' = w.drewN (a + m) :=
  h.mono fun _ _ ⟨he, q, hq⟩ => ⟨he, n + q, by rw [hq, World.drewN_drewN, Nat.add_assoc]⟩
set_option maxHeartbeats 2000000 in
set_option maxRecDepth 100000 in
theorem gausses_any (A C : Option Addr) (n m c d : Nat) (F G : Nat → Gau) (w : World) (hn : n ≤ 100000) (hm : m ≤ 100000) (hF : GausAt w 0 A n F) (hG : GausAt w 0 C m G) :
    Calls Tryz.prog 42 #[.slice A n c, .slice C m d] w fun e w' => e = .returned (.bool (gausB n F m G)) ∧ ∃ q, w' = w.drewN q := by
  by_cases hnm : n = m
  · subst hnm
    have HF := hide hF
    have HG := hide hG
    have t1 : ((n : Int) != (n : Int)) = false := by simp
    clear hF hG
    go_enter Tryz.func42, Tryz.ntmps42
    go_wp2_with fail
    go_loopw [5] (fun i wr => ∃ k q : Nat, k ≤ n ∧ i = .int .i64 k ∧ wr = w.drewN q ∧ Hid (∀ j, j < k → F j = G j)) (fun i _ => n - (Go.RowKit.intOf i).toNat)
    case atStart => exact ⟨0, 0, Nat.zero_le _, rfl, rfl, hide fun j h => absurd h (Nat.not_lt_zero _)⟩
    case round =>
      obtain ⟨k, q, hk, rfl, rfl, HZ⟩ := hrel
      by_cases hlt : k < n
      · obtain ⟨b, o, rfl, -, hb, c0, c1⟩ := HF.out k hlt
        obtain ⟨b', o', rfl, -, hb', d0, d1⟩ := HG.out k hlt
        have hltz : (k : Int) < (n : Int) := by omega
        by_cases he : F k = G k
        · have HE := hide he
          rw [he] at c0 c1
          clear he
          obtain ⟨y0, hy0⟩ : ∃ z, (G k).re = z := ⟨_, rfl⟩
          obtain ⟨y1, hy1⟩ : ∃ z, (G k).im = z := ⟨_, rfl⟩
          rw [hy0] at c0 d0
          rw [hy1] at c1 d1
          clear hy0 hy1
          go_wp2_with fail
          go_quiet (fail)
          go_wp2_with fail
          go_roundw
          case rel =>
            exact ⟨k + 1, _, by omega, by go_num, rfl, hide fun j hj => by
              rcases Nat.lt_or_ge j k with h | h
              · exact HZ.out j h
              · obtain rfl : j = k := by omega
                exact HE.out⟩
          case measure => simp [Go.RowKit.intOf]; omega
        · have HE := hide (show gausB n F n G = false from by
            rw [← Bool.not_eq_true, gausB_iff]
            exact fun h => he (h.2 k hlt))
          by_cases hre : (F k).re = (G k).re
          · have him : ¬ (F k).im = (G k).im := fun h => he (Gau.same hre h)
            rw [hre] at c0
            clear he HZ
            obtain ⟨y0, hy0⟩ : ∃ z, (G k).re = z := ⟨_, rfl⟩
            obtain ⟨y1, hy1⟩ : ∃ z, (G k).im = z := ⟨_, rfl⟩
            obtain ⟨x1, hx1⟩ : ∃ z, (F k).im = z := ⟨_, rfl⟩
            rw [hy0] at c0 d0
            rw [hy1] at d1 him
            rw [hx1] at c1 him
            clear hre hy0 hy1 hx1
            go_wp2_with fail
            go_quiet (fail)
            go_wp2_with fail
            go_ret
            exact ⟨ret_bool HE.out.symm, _, World.drewN_drewN _ _ _⟩
          · clear he HZ
            obtain ⟨y0, hy0⟩ : ∃ z, (G k).re = z := ⟨_, rfl⟩
            obtain ⟨y1, hy1⟩ : ∃ z, (G k).im = z := ⟨_, rfl⟩
            obtain ⟨x0, hx0⟩ : ∃ z, (F k).re = z := ⟨_, rfl⟩
            obtain ⟨x1, hx1⟩ : ∃ z, (F k).im = z := ⟨_, rfl⟩
            rw [hy0] at d0 hre
            rw [hy1] at d1
            rw [hx0] at c0 hre
            rw [hx1] at c1
            clear hy0 hy1 hx0 hx1
            go_wp2_with fail
            go_quiet (fail)
            go_wp2_with fail
            go_ret
            exact ⟨ret_bool HE.out.symm, _, World.drewN_drewN _ _ _⟩
      · obtain rfl : k = n := by omega
        go_wp2_with fail
        go_ret
        exact ⟨ret_bool (Eq.symm (gausB_iff.2 ⟨rfl, HZ.out⟩)), _, rfl⟩
  · have he' : ((n : Int) != (m : Int)) = true := by simp; omega
    have HE := hide (show gausB n F m G = false from by
      rw [← Bool.not_eq_true, gausB_iff]
      exact fun h => hnm h.1)
    clear hnm hF hG
    go_enter Tryz.func42, Tryz.ntmps42
    go_wp2_with fail
    go_ret
    exact ⟨ret_bool HE.out.symm, 0, rfl⟩
def matsB (n : Nat) (L : Nat → Nat) (F : Nat → Nat → Gau) (m : Nat) (M : Nat → Nat) (G : Nat → Nat → Gau) : Bool := n == m && (List.range n).all fun i => gausB (L i) (F i) (M i) (G i)
theorem matsB_iff {n m : Nat} {L M : Nat → Nat} {F G : Nat → Nat → Gau} : matsB n L F m M G = true ↔ n = m ∧ ∀ i, i < n → L i = M i ∧ ∀ k, k < L i → F i k = G i k := by simp [matsB, gausB_iff]
end Go.Proofs.YtcdplfjegopmdaaGreat
