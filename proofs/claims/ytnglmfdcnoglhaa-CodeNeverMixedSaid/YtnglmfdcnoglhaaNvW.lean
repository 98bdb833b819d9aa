/- Lemmas: Pz, Px. -/
import Derived.Deep.DeepCutAuto
import Derived.Test.YtnglmfdcnoglhaaBk01
import Derived.Test.YtnglmfdcnoglhaaBk04
import Derived.Test.YtnglmfdcnoglhaaBk16
set_option linter.unusedVariables false
set_option linter.unusedSimpArgs false
/- CodeNeverMixed: mathematics, and the law's own rows in memory. -/
namespace Go.Proofs.Ytnglmfdcnoglhaa
open Go.RowKit Go.Shelf
/-- The buffers behind i receptions of at most 30 soft bits each. -/
structure NmI (n N i : Nat) (T K : Nat → Int) (S : Nat → Nat → Int) : Prop where
  ok : BufOk n N T K S
  cnt : ∀ j, j < n → K j ≤ (i : Int)
  le : ∀ j, j < n → ∀ p, p < N → -((i : Int) * 30000000) ≤ S j p ∧ S j p ≤ (i : Int) * 30000000
theorem NmI.begun {n N : Nat} (n0 : 0 < n) (n8 : n ≤ 8) (N1 : 1 ≤ N) (N9 : N ≤ 200) : NmI n N 0 (fun _ => -1) (fun _ => 0) (fun _ _ => 0) :=
  ⟨BufOk.begun n0 n8 N1 N9, fun _ _ => Int.le_refl _, fun _ _ _ _ => ⟨by decide, by decide⟩⟩
theorem NmI.next {n N i a l v : Nat} {t : Int} {T K : Nat → Int} {S : Nat → Nat → Int} {x : Nat → Int} (h : NmI n N i T K S) (hi : i < 12) (ha : a < n) (ht : 0 ≤ t ∧ t ≤ 1) (hl : l ≤ 30) (hx : ∀ j, j < l → -1000000 ≤ x j ∧ x j ≤ 1000000) :
    (∀ p, p < N → -1000000000 ≤ S a p + gatherF v N x l p ∧ S a p + gatherF v N x l p ≤ 1000000000) ∧ NmI n N (i + 1) (setF T a t) (behK T K a t) (behS T S a t (gatherF v N x l)) := by
  have hg : ∀ p, -30000000 ≤ gatherF v N x l p ∧ gatherF v N x l p ≤ 30000000 := fun p => by
    have := gatherF_le (v := v) (n := N) hx (Nat.le_refl l) p
    omega
  have key : ∀ p, p < N → -(((i + 1 : Nat) : Int) * 30000000) ≤ behS T S a t (gatherF v N x l) a p ∧ behS T S a t (gatherF v N x l) a p ≤ ((i + 1 : Nat) : Int) * 30000000 := fun p hp => by
    have h1 := h.le a ha p hp
    have h2 := hg p
    show _ ≤ (if a = a then (if t = T a then fun j => S a j + gatherF v N x l j else gatherF v N x l) else S a) p ∧ (if a = a then (if t = T a then fun j => S a j + gatherF v N x l j else gatherF v N x l) else S a) p ≤ _
    rw [if_pos rfl]
    split <;> (try dsimp only) <;> omega
  refine ⟨fun p hp => by have := h.le a ha p hp; have := hg p; omega, ?_, fun j hj => ?_, fun j hj p hp => ?_⟩
  · have hc := h.cnt a ha
    exact h.ok.next ht ha (by omega) fun p hp => by have := key p hp; omega
  · have hc := h.cnt j hj
    by_cases e : j = a
    · subst e
      show (if j = j then (if t = T j then K j + 1 else 1) else K j) ≤ _
      rw [if_pos rfl]
      split <;> omega
    · show (if j = a then _ else K j) ≤ _
      rw [if_neg e]; omega
  · by_cases e : j = a
    · subst e; exact key p hp
    · have := h.le j hj p hp
      show _ ≤ (if j = a then _ else S j) p ∧ (if j = a then _ else S j) p ≤ _
      rw [if_neg e]; omega
/-- Block b of the heap is as it was, for each b from lo on below hi, and the heap is no smaller. -/
def Mid (lo hi : Nat) (w w' : World) : Prop := w.heap.size ≤ w'.heap.size ∧ ∀ b, lo ≤ b → b < hi → w'.heap[b]? = w.heap[b]?
theorem Mid.refl (lo hi : Nat) (w : World) : Mid lo hi w w := ⟨Nat.le_refl _, fun _ _ _ => rfl⟩
theorem Mid.trans {lo hi : Nat} {a b c : World} (h : Mid lo hi a b) (k : Mid lo hi b c) : Mid lo hi a c := ⟨Nat.le_trans h.1 k.1, fun i h1 h2 => (k.2 i h1 h2).trans (h.2 i h1 h2)⟩
theorem Mid.below {lo hi : Nat} {w w' : World} (h : Below w.heap.size w w') (hh : hi ≤ w.heap.size) : Mid lo hi w w' := ⟨h.size, fun i _ h2 => h.block i (by omega)⟩
theorem Mid.only {lo hi g : Nat} {w w' : World} (h : Only g w w') (hh : hi ≤ w.heap.size) (hg : g < lo ∨ hi ≤ g) : Mid lo hi w w' := ⟨h.size, fun i h1 h2 => h.block i (by omega) (fun e => by injection e; omega)⟩
theorem IntsAt.mid {w w' : World} {lo n : Nat} {A : Option Addr} {F : Nat → Int} (h : IntsAt w lo A n F) (hm : Mid lo w.heap.size w w') : IntsAt w' lo A n F := fun k hk => by
  obtain ⟨b, o, e, h1, h2, h3⟩ := h k hk
  exact ⟨b, o, e, h1, Nat.lt_of_lt_of_le h2 hm.1, (World.cell?_of_block (a := ⟨b, o + k, none⟩) (hm.2 b h1 h2)).trans h3⟩
theorem ProcsAt.mid {w w' : World} {lo n : Nat} {A : Option Addr} {T K : Nat → Int} {L : Nat → Nat} {S : Nat → Nat → Int} (h : ProcsAt w lo A n T K L S) (hm : Mid lo w.heap.size w w') : ProcsAt w' lo A n T K L S := fun i hi => by
  obtain ⟨b, o, Ai, ci, e, h1, h2, h3, h4, h5, h8⟩ := h i hi
  have hb := hm.2 b h1 h2
  exact ⟨b, o, Ai, ci, e, h1, Nat.lt_of_lt_of_le h2 hm.1, (World.cell?_of_block (a := ⟨b, _, none⟩) hb).trans h3, (World.cell?_of_block (a := ⟨b, _, none⟩) hb).trans h4, (World.cell?_of_block (a := ⟨b, _, none⟩) hb).trans h5, h8.mid hm⟩
/-- The law's own rows: sums (a row for each buffer, in a block of its own) and toggles. -/
structure SumsI (gs gt n N lo : Nat) (T : Nat → Int) (R : Nat → Nat → Int) (G : Nat → Nat) (W : World) : Prop where
  sums : W.rowIs gs 24 n (fun j => .slice (some ⟨G j, 0, none⟩) N N)
  togs : W.rowIs gt 3 n (fun j => .int .i64 (T j))
  rows : ∀ j, j < n → W.rowIs (G j) 3 N (fun p => .int .i64 (R j p))
  apart : ∀ i j, i < n → j < n → i ≠ j → G i ≠ G j
  far : ∀ j, j < n → lo ≤ G j ∧ G j ≠ gs ∧ G j ≠ gt
  two : lo ≤ gs ∧ lo ≤ gt ∧ gs ≠ gt
theorem SumsI.below {gs gt n N lo : Nat} {T : Nat → Int} {R : Nat → Nat → Int} {G : Nat → Nat} {W W' : World} (h : SumsI gs gt n N lo T R G W) (hb : Below W.heap.size W W') : SumsI gs gt n N lo T R G W' :=
  ⟨rowIs_below h.sums hb, rowIs_below h.togs hb, fun j hj => rowIs_below (h.rows j hj) hb, h.apart, h.far, h.two⟩
/-- One number of a row changed. -/
theorem SumsI.add {gs gt n N lo : Nat} {T : Nat → Int} {R : Nat → Nat → Int} {G : Nat → Nat} {W : World} (h : SumsI gs gt n N lo T R G W) {a p : Nat} (ha : a < n) (x : Int) : SumsI gs gt n N lo T (fun j => if j = a then setF (R a) p x else R j) G (W.setCell ⟨G a, p, none⟩ (.int .i64 x)) := by
  have ho : Only (G a) W (W.setCell ⟨G a, p, none⟩ (.int .i64 x)) := (Only.refl (G a) W).set_ p _
  have hb : ∀ b, b < W.heap.size → b ≠ G a → (W.setCell ⟨G a, p, none⟩ (.int .i64 x)).heap[b]? = W.heap[b]? := fun b h1 h2 => ho.block b h1 (fun e => by injection e with e; exact h2 e)
  obtain ⟨f1, f2, f3⟩ := h.far a ha
  refine ⟨h.sums.of_block (hb gs h.sums.lt f2.symm), h.togs.of_block (hb gt h.togs.lt f3.symm), fun j hj => ?_, h.apart, h.far, h.two⟩
  by_cases e : j = a
  · subst e
    rw [if_pos rfl]
    refine ((h.rows j hj).set p _).congr fun q _ => ?_
    unfold setF
    by_cases hq : q = p
    · rw [if_pos hq, if_pos hq]
    · rw [if_neg hq, if_neg hq]
  · rw [if_neg e]
    exact (h.rows j hj).of_block (hb _ (h.rows j hj).lt (h.apart j a hj ha e))
/-- A row and a toggle made anew. -/
theorem SumsI.turn {gs gt n N lo : Nat} {T : Nat → Int} {R : Nat → Nat → Int} {G : Nat → Nat} {W : World} (h : SumsI gs gt n N lo T R G W) {a g : Nat} (ha : a < n) (t : Int) (hg : ∀ j, j < n → G j ≠ g) (hg2 : lo ≤ g ∧ g ≠ gs ∧ g ≠ gt) (hrow : W.rowIs g 3 N (fun _ => .int .i64 0)) :
    SumsI gs gt n N lo (setF T a t) (fun j => if j = a then fun _ => 0 else R j) (fun j => if j = a then g else G j) ((W.setCell ⟨gs, a, none⟩ (.slice (some ⟨g, 0, none⟩) N N)).setCell ⟨gt, a, none⟩ (.int .i64 t)) := by
  have hb : ∀ b, b < W.heap.size → b ≠ gs → b ≠ gt → ((W.setCell ⟨gs, a, none⟩ (.slice (some ⟨g, 0, none⟩) N N)).setCell ⟨gt, a, none⟩ (.int .i64 t)).heap[b]? = W.heap[b]? := fun b h1 h2 h3 =>
    (Below.heap_setCell _ ⟨gt, a, none⟩ _ b h3).trans (Below.heap_setCell _ ⟨gs, a, none⟩ _ b h2)
  refine ⟨?_, ?_, fun j hj => ?_, fun i j hi hj hij => ?_, fun j hj => ?_, h.two⟩
  · refine ((h.sums.set a (.slice (some ⟨g, 0, none⟩) N N)).of_block (Below.heap_setCell _ ⟨gt, a, none⟩ _ gs h.two.2.2)).congr fun j _ => ?_
    by_cases e : j = a
    · rw [if_pos e, if_pos e]
    · rw [if_neg e, if_neg e]
  · refine ((h.togs.of_block (Below.heap_setCell _ ⟨gs, a, none⟩ _ gt h.two.2.2.symm)).set a (.int .i64 t)).congr fun j _ => ?_
    unfold setF
    by_cases e : j = a
    · rw [if_pos e, if_pos e]
    · rw [if_neg e, if_neg e]
  · by_cases e : j = a
    · rw [if_pos e, if_pos e]
      exact hrow.of_block (hb g hrow.lt hg2.2.1 hg2.2.2)
    · rw [if_neg e, if_neg e]
      exact (h.rows j hj).of_block (hb _ (h.rows j hj).lt (h.far j hj).2.1 (h.far j hj).2.2)
  · by_cases e1 : i = a
    · rw [if_pos e1, if_neg (fun e => hij (e1.trans e.symm))]
      exact (hg j hj).symm
    · by_cases e2 : j = a
      · rw [if_neg e1, if_pos e2]; exact hg i hi
      · rw [if_neg e1, if_neg e2]; exact h.apart i j hi hj hij
  · by_cases e : j = a
    · rw [if_pos e]; exact hg2
    · rw [if_neg e]; exact h.far j hj
end Go.Proofs.Ytnglmfdcnoglhaa
/- CodeNeverMixed: the walk. -/
namespace Go.Proofs.Ytnglmfdcnoglhaa
open Go.RowKit Go.Shelf
/-- A slice of n receptions: numbers P, toggles Q, versions V, L soft bits X each. -/
def RecvsAt (w : World) (lo : Nat) (A : Option Addr) (n : Nat) (P Q V : Nat → Int) (L : Nat → Nat) (X : Nat → Nat → Int) : Prop :=
  ∀ i, i < n → ∃ b o Ai ci, A = some ⟨b, o, none⟩ ∧ lo ≤ b ∧ b < w.heap.size ∧ w.cell? ⟨b, o + i * 4, none⟩ = some (.int .i64 (P i)) ∧ w.cell? ⟨b, o + i * 4 + 1, none⟩ = some (.int .i64 (Q i)) ∧ w.cell? ⟨b, o + i * 4 + 2, none⟩ = some (.int .i64 (V i)) ∧ w.cell? ⟨b, o + i * 4 + 3, none⟩ = some (.slice Ai (L i) ci) ∧ IntsAt w lo Ai (L i) (X i)
theorem RecvsAt.nil_ {w : World} {lo : Nat} {A : Option Addr} {P Q V : Nat → Int} {L : Nat → Nat} {X : Nat → Nat → Int} : RecvsAt w lo A 0 P Q V L X := fun i h => absurd h (Nat.not_lt_zero i)
theorem RecvsAt.below {w w' : World} {lo n : Nat} {A : Option Addr} {P Q V : Nat → Int} {L : Nat → Nat} {X : Nat → Nat → Int} (h : RecvsAt w lo A n P Q V L X) (hb : Below w.heap.size w w') : RecvsAt w' lo A n P Q V L X := fun i hi => by
  obtain ⟨b, o, Ai, ci, e, h1, h2, h3, h4, h5, h6, h8⟩ := h i hi
  exact ⟨b, o, Ai, ci, e, h1, Nat.lt_of_lt_of_le h2 hb.size, (hb.cell (p := ⟨b, _, none⟩) h2).trans h3, (hb.cell (p := ⟨b, _, none⟩) h2).trans h4, (hb.cell (p := ⟨b, _, none⟩) h2).trans h5, (hb.cell (p := ⟨b, _, none⟩) h2).trans h6, h8.below hb⟩
theorem two_cells' {W : World} {b : Nat} {x y : Int} (bx : Box W b 60 #[.int .i64 x, .int .i64 y]) : W.cell? ⟨b, 0, none⟩ = some (.int .i64 x) ∧ W.cell? ⟨b, 1, none⟩ = some (.int .i64 y) ∧ b < W.heap.size := ⟨bx.at_ 0, bx.at_ 1, bx.lt⟩
theorem intsInfo : (Try.prog.info? 24).map (fun i => (i.zero, i.size, i.bytes)) = some (some (.slice none 0 0), 1, 24) := by kernel_rfl
/-- The law's own rows while they are laid. -/
structure LaidI (gs gt m N lo k : Nat) (G : Nat → Nat) (W : World) : Prop where
  sums : W.rowIs gs 24 m (fun j => if j < k then .slice (some ⟨G j, 0, none⟩) N N else .slice none 0 0)
  togs : W.rowIs gt 3 m (fun j => .int .i64 (if j < k then -1 else 0))
  rows : ∀ j, j < k → W.rowIs (G j) 3 N (fun _ => .int .i64 0)
  apart : ∀ i j, i < k → j < k → i ≠ j → G i ≠ G j
  far : ∀ j, j < k → lo ≤ G j ∧ G j ≠ gs ∧ G j ≠ gt
  two : lo ≤ gs ∧ lo ≤ gt ∧ gs ≠ gt
theorem LaidI.done {gs gt m N lo : Nat} {G : Nat → Nat} {W : World} (h : LaidI gs gt m N lo m G W) : SumsI gs gt m N lo (fun _ => -1) (fun _ _ => 0) G W :=
  ⟨h.sums.congr fun j hj => by rw [if_pos hj], h.togs.congr fun j hj => by rw [if_pos hj], h.rows, h.apart, h.far, h.two⟩
theorem LaidI.next {gs gt m N lo k g : Nat} {G : Nat → Nat} {W : World} (h : LaidI gs gt m N lo k G W) (hg : g = W.heap.size) (hlo : lo ≤ W.heap.size) :
    LaidI gs gt m N lo (k + 1) (fun j => if j = k then g else G j) (((W.alloc (.cells (madeCells #[.int .i64 0] N) 3)).setCell ⟨gs, k, none⟩ (.slice (some ⟨g, 0, none⟩) N N)).setCell ⟨gt, k, none⟩ (.int .i64 (-1))) := by
  subst hg
  have hs := h.sums.lt
  have ht := h.togs.lt
  have hb : ∀ b, b < (W.alloc (.cells (madeCells #[.int .i64 0] N) 3)).heap.size → b ≠ gs → b ≠ gt → (((W.alloc (.cells (madeCells #[.int .i64 0] N) 3)).setCell ⟨gs, k, none⟩ (.slice (some ⟨W.heap.size, 0, none⟩) N N)).setCell ⟨gt, k, none⟩ (.int .i64 (-1))).heap[b]? = (W.alloc (.cells (madeCells #[.int .i64 0] N) 3)).heap[b]? := fun b h1 h2 h3 =>
    (Below.heap_setCell _ ⟨gt, k, none⟩ _ b h3).trans (Below.heap_setCell _ ⟨gs, k, none⟩ _ b h2)
  have hal : Below W.heap.size W (W.alloc (.cells (madeCells #[.int .i64 0] N) 3)) := (Below.refl _ _).alloc (Nat.le_refl _) _
  refine ⟨?_, ?_, fun j hj => ?_, fun i j hi hj hij => ?_, fun j hj => ?_, h.two⟩
  · refine (((rowIs_below h.sums hal).set k (.slice (some ⟨W.heap.size, 0, none⟩) N N)).of_block (Below.heap_setCell _ ⟨gt, k, none⟩ _ gs h.two.2.2)).congr fun j _ => ?_
    by_cases e : j = k
    · rw [if_pos e, if_pos (by omega), if_pos e]
    · rw [if_neg e]
      by_cases e2 : j < k
      · rw [if_pos e2, if_pos (by omega), if_neg e]
      · rw [if_neg e2, if_neg (by omega)]
  · refine (((rowIs_below h.togs hal).of_block (Below.heap_setCell _ ⟨gs, k, none⟩ _ gt h.two.2.2.symm)).set k (.int .i64 (-1))).congr fun j _ => ?_
    by_cases e : j = k
    · rw [if_pos e, if_pos (by omega)]
    · rw [if_neg e]
      by_cases e2 : j < k
      · rw [if_pos e2, if_pos (by omega)]
      · rw [if_neg e2, if_neg (by omega)]
  · by_cases e : j = k
    · rw [if_pos e]
      exact (World.rowIs_made W (.int .i64 0) N 3).of_block (hb _ (by simp) (by omega) (by omega))
    · rw [if_neg e]
      have hr := h.rows j (by omega)
      exact (rowIs_below hr hal).of_block (hb _ (rowIs_below hr hal).lt (h.far j (by omega)).2.1 (h.far j (by omega)).2.2)
  · by_cases e1 : i = k
    · have := (h.rows j (by omega)).lt
      rw [if_pos e1, if_neg (fun e => hij (e1.trans e.symm))]
      omega
    · by_cases e2 : j = k
      · have := (h.rows i (by omega)).lt
        rw [if_neg e1, if_pos e2]; omega
      · rw [if_neg e1, if_neg e2]; exact h.apart i j (by omega) (by omega) hij
  · by_cases e : j = k
    · rw [if_pos e]; omega
    · rw [if_neg e]; exact h.far j (by omega)
theorem LaidI.begun {gs gt m N lo : Nat} {G : Nat → Nat} {W : World} (h1 : W.rowIs gs 24 m (fun _ => .slice none 0 0)) (h2 : W.rowIs gt 3 m (fun _ => .int .i64 0)) (h3 : lo ≤ gs ∧ lo ≤ gt ∧ gs ≠ gt) : LaidI gs gt m N lo 0 G W :=
  ⟨h1.congr fun j _ => by rw [if_neg (Nat.not_lt_zero j)], h2.congr fun j _ => by rw [if_neg (Nat.not_lt_zero j)], fun j h => absurd h (Nat.not_lt_zero j), fun i j h => absurd h (Nat.not_lt_zero i), fun j h => absurd h (Nat.not_lt_zero j), h3⟩
theorem two_rows {W : World} {x y : Value} {m : Nat} {s t : TypeId} : ((W.alloc (.cells (madeCells #[x] m) s)).alloc (.cells (madeCells #[y] m) t)).rowIs W.heap.size s m (fun _ => x) ∧ ((W.alloc (.cells (madeCells #[x] m) s)).alloc (.cells (madeCells #[y] m) t)).rowIs (W.heap.size + 1) t m (fun _ => y) :=
  ⟨(World.rowIs_made W x m s).alloc _, by
    have h := World.rowIs_made (W.alloc (.cells (madeCells #[x] m) s)) y m t
    rwa [show (W.alloc (.cells (madeCells #[x] m) s)).heap.size = W.heap.size + 1 from by simp] at h⟩
/-- Blocks other than the two are as they were. -/
def Keep2 (gs gt : Nat) (w w' : World) : Prop := w.heap.size ≤ w'.heap.size ∧ ∀ b, b < w.heap.size → b ≠ gs → b ≠ gt → w'.heap[b]? = w.heap[b]?
theorem Keep2.refl (gs gt : Nat) (w : World) : Keep2 gs gt w w := ⟨Nat.le_refl _, fun _ _ _ _ => rfl⟩
theorem Keep2.drew {gs gt : Nat} {w w' : World} (h : Keep2 gs gt w w') : Keep2 gs gt w w'.drew := h
theorem Keep2.drewN {gs gt : Nat} {w w' : World} (h : Keep2 gs gt w w') (q : Nat) : Keep2 gs gt w (w'.drewN q) := h
theorem Keep2.alloc {gs gt : Nat} {w w' : World} (h : Keep2 gs gt w w') (o : Obj) : Keep2 gs gt w (w'.alloc o) := ⟨Nat.le_trans h.1 (by simp), fun b hb h1 h2 => (Below.heap_alloc w' o b (Nat.lt_of_lt_of_le hb h.1)).trans (h.2 b hb h1 h2)⟩
theorem Keep2.setS {gs gt : Nat} {w w' : World} (h : Keep2 gs gt w w') (o : Nat) (v : Value) : Keep2 gs gt w (w'.setCell ⟨gs, o, none⟩ v) := ⟨Nat.le_trans h.1 ((Only.refl gs w').set_ o v).size, fun b hb h1 h2 => (Below.heap_setCell w' ⟨gs, o, none⟩ v b h1).trans (h.2 b hb h1 h2)⟩
theorem Keep2.setT {gs gt : Nat} {w w' : World} (h : Keep2 gs gt w w') (o : Nat) (v : Value) : Keep2 gs gt w (w'.setCell ⟨gt, o, none⟩ v) := ⟨Nat.le_trans h.1 ((Only.refl gt w').set_ o v).size, fun b hb h1 h2 => (Below.heap_setCell w' ⟨gt, o, none⟩ v b h2).trans (h.2 b hb h1 h2)⟩
theorem Keep2.cell {gs gt : Nat} {w w' : World} (h : Keep2 gs gt w w') {p : Addr} (hp : p.block < w.heap.size) (h1 : p.block ≠ gs) (h2 : p.block ≠ gt) : w'.cell? p = w.cell? p := World.cell?_of_block (a := p) (h.2 p.block hp h1 h2)
theorem Keep2.box {gs gt b : Nat} {t : TypeId} {cs : Array Value} {w w' : World} (h : Keep2 gs gt w w') (hx : Box w b t cs) (h1 : b ≠ gs) (h2 : b ≠ gt) : Box w' b t cs := (h.2 b hx.lt h1 h2).trans hx
theorem Mid.box {lo hi b : Nat} {t : TypeId} {cs : Array Value} {w w' : World} (h : Mid lo hi w w') (hx : Box w b t cs) (h1 : lo ≤ b) (h2 : b < hi) : Box w' b t cs := (h.2 b h1 h2).trans hx
theorem Mid.keep2 {gs gt lo : Nat} {w w' : World} (h : Keep2 gs gt w w') (h1 : gs < lo) (h2 : gt < lo) : Mid lo w.heap.size w w' := ⟨h.1, fun b hb hb2 => h.2 b hb2 (by omega) (by omega)⟩
theorem SumsI.congrR {gs gt n N lo : Nat} {T : Nat → Int} {R R' : Nat → Nat → Int} {G : Nat → Nat} {W : World} (h : SumsI gs gt n N lo T R G W) (e : ∀ j, j < n → ∀ p, p < N → R j p = R' j p) : SumsI gs gt n N lo T R' G W :=
  ⟨h.sums, h.togs, fun j hj => (h.rows j hj).congr fun p hp => by rw [e j hj p hp], h.apart, h.far, h.two⟩
theorem SumsI.congrT {gs gt n N lo : Nat} {T T' : Nat → Int} {R : Nat → Nat → Int} {G : Nat → Nat} {W : World} (h : SumsI gs gt n N lo T R G W) (e : ∀ j, j < n → T j = T' j) : SumsI gs gt n N lo T' R G W :=
  ⟨h.sums, h.togs.congr fun j hj => by rw [e j hj], h.rows, h.apart, h.far, h.two⟩
theorem SumsI.low {gs gt n N lo b : Nat} {T : Nat → Int} {R : Nat → Nat → Int} {G : Nat → Nat} {W W' : World} (h : SumsI gs gt n N lo T R G W) (ho : Only b W W') (hb : b < lo) : SumsI gs gt n N lo T R G W' := by
  have k : ∀ c, c < W.heap.size → lo ≤ c → W'.heap[c]? = W.heap[c]? := fun c h1 h2 => ho.block c h1 (fun e => by injection e; omega)
  exact ⟨h.sums.of_block (k _ h.sums.lt h.two.1), h.togs.of_block (k _ h.togs.lt h.two.2.1), fun j hj => (h.rows j hj).of_block (k _ (h.rows j hj).lt (h.far j hj).1), h.apart, h.far, h.two⟩
/-- A row and a toggle made anew, in whatever order. -/
theorem SumsI.turnG {gs gt n N lo : Nat} {T : Nat → Int} {R : Nat → Nat → Int} {G : Nat → Nat} {W W' : World} (h : SumsI gs gt n N lo T R G W) {a g : Nat} (ha : a < n) (t : Int) (hg : W.heap.size ≤ g)
    (h1 : W'.rowIs gs 24 n (fun j => if j = a then .slice (some ⟨g, 0, none⟩) N N else .slice (some ⟨G j, 0, none⟩) N N))
    (h2 : W'.rowIs gt 3 n (fun j => if j = a then .int .i64 t else .int .i64 (T j))) (h3 : W'.rowIs g 3 N (fun _ => .int .i64 0)) (hk : Keep2 gs gt W W') :
    SumsI gs gt n N lo (setF T a t) (fun j => if j = a then fun _ => 0 else R j) (fun j => if j = a then g else G j) W' := by
  have hs := h.sums.lt
  have ht := h.togs.lt
  have hlo := h.two.1
  refine ⟨?_, ?_, fun j hj => ?_, fun i j hi hj hij => ?_, fun j hj => ?_, h.two⟩
  · refine h1.congr fun j _ => ?_
    by_cases e : j = a
    · rw [if_pos e, if_pos e]
    · rw [if_neg e, if_neg e]
  · refine h2.congr fun j _ => ?_
    unfold setF
    by_cases e : j = a
    · rw [if_pos e, if_pos e]
    · rw [if_neg e, if_neg e]
  · by_cases e : j = a
    · rw [if_pos e, if_pos e]; exact h3
    · rw [if_neg e, if_neg e]
      exact (h.rows j hj).of_block (hk.2 _ (h.rows j hj).lt (h.far j hj).2.1 (h.far j hj).2.2)
  · by_cases e1 : i = a
    · have := (h.rows j hj).lt
      rw [if_pos e1, if_neg (fun e => hij (e1.trans e.symm))]; omega
    · by_cases e2 : j = a
      · have := (h.rows i hi).lt
        rw [if_neg e1, if_pos e2]; omega
      · rw [if_neg e1, if_neg e2]; exact h.apart i j hi hj hij
  · by_cases e : j = a
    · rw [if_pos e]; omega
    · rw [if_neg e]; exact h.far j hj
theorem SumsI.turn1 {gs gt n N lo : Nat} {T : Nat → Int} {R : Nat → Nat → Int} {G : Nat → Nat} {W : World} (h : SumsI gs gt n N lo T R G W) {a : Nat} (ha : a < n) (t : Int) :
    SumsI gs gt n N lo (setF T a t) (fun j => if j = a then fun _ => 0 else R j) (fun j => if j = a then W.heap.size else G j) (((W.alloc (.cells (madeCells #[.int .i64 0] N) 3)).setCell ⟨gs, a, none⟩ (.slice (some ⟨W.heap.size, 0, none⟩) N N)).setCell ⟨gt, a, none⟩ (.int .i64 t)) := by
  have hs := h.sums.lt
  have ht := h.togs.lt
  have hn := h.two.2.2
  exact h.turnG ha t (Nat.le_refl _) (((h.sums.alloc _).set a _).setOther hn _) (((h.togs.alloc _).setOther (Ne.symm hn) _).set a _) (((World.rowIs_made W (.int .i64 0) N 3).setOther (show W.heap.size ≠ gs by omega) _).setOther (show W.heap.size ≠ gt by omega) _) ((((Keep2.refl gs gt W).alloc _).setS a _).setT a _)
theorem SumsI.turn2 {gs gt n N lo : Nat} {T : Nat → Int} {R : Nat → Nat → Int} {G : Nat → Nat} {W : World} (h : SumsI gs gt n N lo T R G W) {a : Nat} (ha : a < n) (t : Int) :
    SumsI gs gt n N lo (setF T a t) (fun j => if j = a then fun _ => 0 else R j) (fun j => if j = a then W.heap.size else G j) (((W.alloc (.cells (madeCells #[.int .i64 0] N) 3)).setCell ⟨gt, a, none⟩ (.int .i64 t)).setCell ⟨gs, a, none⟩ (.slice (some ⟨W.heap.size, 0, none⟩) N N)) := by
  have hs := h.sums.lt
  have ht := h.togs.lt
  have hn := h.two.2.2
  exact h.turnG ha t (Nat.le_refl _) (((h.sums.alloc _).setOther hn _).set a _) (((h.togs.alloc _).set a _).setOther (Ne.symm hn) _) (((World.rowIs_made W (.int .i64 0) N 3).setOther (show W.heap.size ≠ gt by omega) _).setOther (show W.heap.size ≠ gs by omega) _) ((((Keep2.refl gs gt W).alloc _).setT a _).setS a _)
theorem SumsI.turn3 {gs gt n N lo : Nat} {T : Nat → Int} {R : Nat → Nat → Int} {G : Nat → Nat} {W : World} (h : SumsI gs gt n N lo T R G W) {a : Nat} (ha : a < n) (t : Int) :
    SumsI gs gt n N lo (setF T a t) (fun j => if j = a then fun _ => 0 else R j) (fun j => if j = a then W.heap.size else G j) (((W.setCell ⟨gt, a, none⟩ (.int .i64 t)).alloc (.cells (madeCells #[.int .i64 0] N) 3)).setCell ⟨gs, a, none⟩ (.slice (some ⟨W.heap.size, 0, none⟩) N N)) := by
  have hs := h.sums.lt
  have ht := h.togs.lt
  have hn := h.two.2.2
  have hz : (W.setCell ⟨gt, a, none⟩ (.int .i64 t)).heap.size = W.heap.size := by simp
  have hm := World.rowIs_made (W.setCell ⟨gt, a, none⟩ (.int .i64 t)) (.int .i64 0) N 3
  rw [hz] at hm
  exact h.turnG ha t (Nat.le_refl _) (((h.sums.setOther hn _).alloc _).set a _) (((h.togs.set a _).alloc _).setOther (Ne.symm hn) _) (hm.setOther (show W.heap.size ≠ gs by omega) _) ((((Keep2.refl gs gt W).setT a _).alloc _).setS a _)
theorem SumsI.turn4 {gs gt n N lo : Nat} {T : Nat → Int} {R : Nat → Nat → Int} {G : Nat → Nat} {W : World} (h : SumsI gs gt n N lo T R G W) {a : Nat} (ha : a < n) (t : Int) :
    SumsI gs gt n N lo (setF T a t) (fun j => if j = a then fun _ => 0 else R j) (fun j => if j = a then W.heap.size else G j) (((W.setCell ⟨gs, a, none⟩ (.slice (some ⟨W.heap.size, 0, none⟩) N N)).setCell ⟨gt, a, none⟩ (.int .i64 t)).alloc (.cells (madeCells #[.int .i64 0] N) 3)) := by
  have h1 := h.turn1 ha t
  rwa [World.setCell_alloc_past _ _ _ _ h.sums.lt, World.setCell_alloc_past _ _ _ _ (by simpa using h.togs.lt)] at h1
theorem SumsI.turn5 {gs gt n N lo : Nat} {T : Nat → Int} {R : Nat → Nat → Int} {G : Nat → Nat} {W : World} (h : SumsI gs gt n N lo T R G W) {a : Nat} (ha : a < n) (t : Int) :
    SumsI gs gt n N lo (setF T a t) (fun j => if j = a then fun _ => 0 else R j) (fun j => if j = a then W.heap.size else G j) (((W.setCell ⟨gt, a, none⟩ (.int .i64 t)).setCell ⟨gs, a, none⟩ (.slice (some ⟨W.heap.size, 0, none⟩) N N)).alloc (.cells (madeCells #[.int .i64 0] N) 3)) := by
  have h1 := h.turn2 ha t
  rwa [World.setCell_alloc_past _ _ _ _ h.togs.lt, World.setCell_alloc_past _ _ _ _ (by simpa using h.sums.lt)] at h1
/-- The state at the head of a round. -/
structure NmS (w : World) (b2 gs gt m N lo i : Nat) (D : Option Addr) (cD : Nat) (T K : Nat → Int) (S : Nat → Nat → Int) (G : Nat → Nat) (W : World) : Prop where
  bg : Box W w.heap.size 60 #[.int .i64 (N : Int), .int .i64 (m : Int)]
  bb : Box W b2 36 #[.int .i64 (N : Int), .slice D m cD]
  hP : ProcsAt W 0 D m T K (fun _ => N) S
  ok : NmI m N i T K S
  rows : SumsI gs gt m N lo T S G W
  below : Below w.heap.size w W
theorem NmS.kept {w : World} {b2 gs gt m N lo i : Nat} {D : Option Addr} {cD : Nat} {T K : Nat → Int} {S : Nat → Nat → Int} {G : Nat → Nat} {W W' : World} (h : NmS w b2 gs gt m N lo i D cD T K S G W) (hb : Below W.heap.size W W') : NmS w b2 gs gt m N lo i D cD T K S G W' :=
  ⟨h.bg.below hb, h.bb.below hb, h.hP.below hb, h.ok, h.rows.below hb, h.below.trans (hb.mono h.below.size)⟩
/-- Row a while it is summed up. -/
def nmR (S : Nat → Nat → Int) (a : Nat) (R0 g : Nat → Int) (j : Nat) : Nat → Int := if j = a then fun p => R0 p + g p else S j
theorem nmR_zero (T : Nat → Int) (S : Nat → Nat → Int) (a : Nat) (t : Int) (v N : Nat) (x : Nat → Int) (j p : Nat) : (if j = a then (if t = T a then S a else fun _ => 0) else S j) p = nmR S a (if t = T a then S a else fun _ => 0) (gatherF v N x 0) j p := by
  unfold nmR
  by_cases e : j = a
  · rw [if_pos e, if_pos e]; show _ = _ + 0; rw [Int.add_zero]
  · rw [if_neg e, if_neg e]
theorem nmR_beh (T : Nat → Int) (S : Nat → Nat → Int) (a : Nat) (t : Int) (g : Nat → Int) (j p : Nat) : nmR S a (if t = T a then S a else fun _ => 0) g j p = behS T S a t g j p := by
  unfold nmR behS
  by_cases e : j = a
  · rw [if_pos e, if_pos e]
    by_cases h : t = T a
    · rw [if_pos h, if_pos h]
    · rw [if_neg h, if_neg h]; show 0 + _ = _; rw [Int.zero_add]
  · rw [if_neg e, if_neg e]
theorem nmR_step (S : Nat → Nat → Int) (a v N y P : Nat) (R0 x : Nat → Int) (hP : P = placeN v N y) (c : Int) (hc : c = R0 P + gatherF v N x y P) (j p : Nat) : (if j = a then setF (nmR S a R0 (gatherF v N x y) a) P (c + x y) else nmR S a R0 (gatherF v N x y) j) p = nmR S a R0 (gatherF v N x (y + 1)) j p := by
  unfold nmR
  by_cases e : j = a
  · rw [if_pos e, if_pos e, if_pos rfl]
    show setF _ _ _ _ = R0 p + (if p = placeN v N y then gatherF v N x y p + x y else gatherF v N x y p)
    unfold setF
    rw [← hP]
    by_cases h : p = P
    · rw [if_pos h, if_pos h, hc, h]; omega
    · rw [if_neg h, if_neg h]
  · rw [if_neg e, if_neg e, if_neg e]
set_option maxHeartbeats 40000000 in
set_option maxRecDepth 100000 in
theorem codeNeverMixed_walk (g0 g1 : Int) (A : Option Addr) (n c : Nat) (P Q V : Nat → Int) (L : Nat → Nat) (X : Nat → Nat → Int) (w : World) (hn : n ≤ 9223372036854775807) (hI : RecvsAt w 0 A n P Q V L X) :
    Calls Try.prog 6 #[.agg #[.int .i64 g0, .int .i64 g1], .slice A n c] w fun r w' => r = .returned (.bool true) ∧ Below w.heap.size w w' := by
  have HI := hide hI
  clear hI
  go_enter Try.func6, Try.ntmps6
  go_wp2_with fail
  refine (awake_any _).mono ?_
  rintro r w1 ⟨rfl, hb1⟩
  have hB1 : Below w.heap.size w w1 := ((Below.refl _ _).alloc (Nat.le_refl _) _).trans (hb1.mono (by simp))
  have bg1 : Box w1 w.heap.size 60 #[.int .i64 g0, .int .i64 g1] := (Box.made rfl).below hb1
  clear hb1
  obtain ⟨a0, a1, hla⟩ := two_cells' bg1
  go_wp2_with fail
  refine (within_any g0 1 30 _).mono ?_
  rintro r w' ⟨rfl, rfl⟩
  cases hw0 : withinB g0 1 30
  · go_wp2_with fail
    go_ret
    exact ⟨rfl, hB1⟩
  · have HW0 := hide hw0
    clear hw0
    go_wp2_with fail
    refine (within_any g1 1 8 _).mono ?_
    rintro r w' ⟨rfl, rfl⟩
    cases hw1 : withinB g1 1 8
    · go_wp2_with fail
      go_ret
      exact ⟨rfl, hB1⟩
    · obtain ⟨x0, x9⟩ := withinB_of HW0.out
      obtain ⟨y0, y9⟩ := withinB_of hw1
      obtain ⟨N, rfl⟩ := Int.eq_ofNat_of_zero_le (show 0 ≤ g0 by omega)
      obtain ⟨m, rfl⟩ := Int.eq_ofNat_of_zero_le (show 0 ≤ g1 by omega)
      have N1 : 1 ≤ N := by omega
      have N9 : N ≤ 30 := by omega
      have m1 : 1 ≤ m := by omega
      have m9 : m ≤ 8 := by omega
      clear hw1 HW0 x0 x9 y0 y9
      by_cases h12 : 12 < n
      · have t1 : decide ((12 : Int) < (n : Int)) = true := decide_eq_true (by omega)
        have t1' : decide (12 < n) = true := decide_eq_true h12
        go_wp2_with fail
        go_ret
        exact ⟨rfl, hB1⟩
      · have t1 : decide ((12 : Int) < (n : Int)) = false := decide_eq_false (by omega)
        have t1' : decide (12 < n) = false := decide_eq_false h12
        have hn12 : n ≤ 12 := by omega
        go_wp2_with fail
        clear t1 t1' h12
        refine (Begin_ok N m _ N1 (by omega) m1 m9).mono ?_
        rintro r w2 ⟨D, cD, rfl, hP2, hb2⟩
        have bg2 := bg1.below hb2
        have hB2 := hB1.trans (hb2.mono hB1.size)
        clear bg1 hB1 hb2 a0 a1 hla
        go_upto_region 6 with fail
        obtain ⟨w3, hw3⟩ : ∃ x : World, x = w2.alloc (.cells #[.int .i64 (N : Int), .slice D m cD] 36) := ⟨_, rfl⟩
        rw [← hw3]
        have bb3 : Box w3 w2.heap.size 36 #[.int .i64 (N : Int), .slice D m cD] := by rw [hw3]; exact Box.made rfl
        have hb23 : Below w2.heap.size w2 w3 := by rw [hw3]; exact (Below.refl _ _).alloc (Nat.le_refl _) _
        have bg3 := bg2.below hb23
        have hP3 := (hP2.below hb23).weak (Nat.zero_le _)
        have hB3 := hB2.trans (hb23.mono hB2.size)
        have hwb : w.heap.size < w2.heap.size := bg2.lt
        clear hw3 hb23 bg2 hP2 hB2
        obtain ⟨a0, a1, hla⟩ := two_cells' bg3
        obtain ⟨b0, b1, hlb⟩ := bufs_cells bb3
        have tm : ((m : Int) != (m : Int)) = false := by simp
        go_wp2_with fail
        refine (buffersErrR_ok m N cD D _ _ _ _ (BufOk.begun m1 m9 N1 (by omega)) hP3).mono ?_
        rintro r w4 ⟨rfl, hb4⟩
        have bb4 := bb3.below hb4
        have bg4 := bg3.below hb4
        have hP4 := hP3.below hb4
        have hB4 := hB3.trans (hb4.mono hB3.size)
        clear bb3 bg3 hP3 hB3 hb4 a0 a1 hla b0 b1 hlb
        obtain ⟨a0, a1, hla⟩ := two_cells' bg4
        obtain ⟨b0, b1, hlb⟩ := bufs_cells bb4
        obtain ⟨i0, hi, hmi0, hmi1, hmi2⟩ := info_parts intInfo
        obtain ⟨i1, hj, hmj0, hmj1, hmj2⟩ := info_parts intsInfo
        have hmkI := fun W => run_make_row (P := Try.prog) 24 3 i0 (.int .i64 0) Try.underlying24 hi hmi0 hmi1 rfl .i64 .i64 m (by rw [hmi2]; omega) (by omega) W
        have hmkN := fun W => run_make_row (P := Try.prog) 24 3 i0 (.int .i64 0) Try.underlying24 hi hmi0 hmi1 rfl .i64 .i64 N (by rw [hmi2]; omega) (by omega) W
        have hmkS := fun W => run_make_row (P := Try.prog) 58 24 i1 (.slice none 0 0) Try.underlying58 hj hmj0 hmj1 rfl .i64 .i64 m (by rw [hmj2]; omega) (by omega) W
        clear hi hmi0 hmi1 hmi2 hj hmj0 hmj1 hmj2
        go_upto_region 8 with fail
        go_cut [7, 8] (fun s7 s8 wc => ∃ gs gt, s7 = .slice (some ⟨gs, 0, none⟩) m m ∧ s8 = .slice (some ⟨gt, 0, none⟩) m m ∧ Hid (LaidI gs gt m N w4.heap.size 0 (fun _ => 0) wc) ∧ Below w4.heap.size w4 wc)
        case first =>
          as_aux_lemma =>
            skip
            have SOF := hide (fun W' (h : Below w4.heap.size w4 W') => (⟨(h.cell (p := ⟨w.heap.size, 1, none⟩) hla).trans a1, h⟩ : W'.cell? ⟨w.heap.size, 1, none⟩ = some (.int .i64 (m : Int)) ∧ Below w4.heap.size w4 W'))
            have bb0 : Below w4.heap.size w4 w4 := Below.refl _ _
            clear a1 a0 b0 b1 hlb
            go_region_held3 (fun w' => w'.cell? ⟨w.heap.size, 1, none⟩ = some (.int .i64 (m : Int)) ∧ Below w4.heap.size w4 w')
              (first | assumption | exact SOF.out _ (by assumption) | exact SOF.out _ bb0.drew | exact SOF.out _ (below_drewN (by assumption) _) | exact SOF.out _ (ballocH (by assumption) (Nat.le_refl _) _) | exact SOF.out _ (ballocH bb0 (Nat.le_refl _) _).drew | exact SOF.out _ (ballocH (ballocH bb0.drew (Nat.le_refl _) _) (Nat.le_refl _) _))
              (first
                | (fail))
            all_goals
              go_wp2_with fail
              go_meet
              case rel =>
                first
                  | exact ⟨w4.heap.size, w4.heap.size + 1, rfl, rfl, hide (LaidI.begun (two_rows (W := w4.drew)).1 (two_rows (W := w4.drew)).2 ⟨Nat.le_refl _, by omega, by omega⟩), (bb0.drew.alloc (Nat.le_refl _) _).alloc (by simp) _⟩
                  | exact ⟨w4.heap.size + 1, w4.heap.size, rfl, rfl, hide (LaidI.begun (two_rows (W := w4.drew)).2 (two_rows (W := w4.drew)).1 ⟨by omega, Nat.le_refl _, by omega⟩), (bb0.drew.alloc (Nat.le_refl _) _).alloc (by simp) _⟩
        case rest =>
          obtain ⟨gs, gt, rfl, rfl, HL, hbc⟩ := hcut
          obtain ⟨w5, rfl⟩ : ∃ x : World, x = wc := ⟨_, rfl⟩
          clear a0 a1 hla b0 b1 hlb hmkI hmkS
          go_wp2_with fail
          go_loopw [9] (fun i wr => ∃ j : Nat, j ≤ m ∧ i = .int .i64 j ∧ Hid (∃ G, LaidI gs gt m N w4.heap.size j G wr ∧ Below w4.heap.size w4 wr)) (fun i _ => m - (intOf i).toNat)
          case atStart => exact ⟨0, Nat.zero_le _, rfl, hide ⟨_, HL.out, hbc⟩⟩
          case round =>
            obtain ⟨j, hj, rfl, HG⟩ := hrel
            obtain ⟨G, hL, hB⟩ := HG.out
            have bg := bg4.below hB
            obtain ⟨a0, a1, hla⟩ := two_cells' bg
            by_cases hjm : j < m
            · have hjmz : (j : Int) < (m : Int) := by omega
              have l1 := hL.sums.lt
              have l2 := hL.togs.lt
              have s1 := hL.sums.cell hjm
              have f1 := hL.sums.frozen j
              have s2 := hL.togs.cell hjm
              have f2 := hL.togs.frozen j
              have hne := hL.two.2.2
              have hne' : ¬ gt = gs := fun e => hne e.symm
              simp only [Nat.lt_irrefl, if_false] at s1 s2
              have HL2 := hide hL
              have HB2 := hide hB
              clear hL hB bg
              go_wp2_with fail
              have hN := HL2.out.next rfl HB2.out.size
              rw [World.setCell_alloc_past _ _ _ _ l1, World.setCell_alloc_past _ _ _ _ (by simpa using l2)] at hN
              refine ⟨⟨j + 1, by omega, by simp, hide ⟨_, hN, ?_⟩⟩, by simp [intOf]; omega⟩
              exact ((HB2.out.setCell HL2.out.two.1 _).setCell HL2.out.two.2.1 _).alloc (by have := HB2.out.size; simp; omega) _
            · obtain rfl : m = j := by omega
              have hS := hL.done
              have Z0 : NmS w w2.heap.size gs gt m N w4.heap.size 0 D cD (fun _ => -1) (fun _ => 0) (fun _ _ => 0) G wr :=
                ⟨bg, bb4.below hB, hP4.below hB, NmI.begun (by omega) m9 N1 (by omega), hS, hB4.trans (hB.mono hB4.size)⟩
              have HZ0 := hide Z0
              have hw24 := bb4.lt
              clear Z0 hS hL hB bg HG HL hbc bg4 bb4 hP4 hB4
              go_wp2_with fail
              clear a0 a1 hla
              go_loopw [10, 11, 12, 13, 14, 15, 16] (fun i _ _ _ _ _ _ wr => ∃ i' : Nat, i' ≤ n ∧ i = .int .i64 i' ∧ Hid (∃ D cD T K S G, NmS w w2.heap.size gs gt m N w4.heap.size i' D cD T K S G wr)) (fun i _ _ _ _ _ _ _ => n - (intOf i).toNat)
              case atStart => exact ⟨0, Nat.zero_le _, rfl, hide ⟨_, _, _, _, _, _, HZ0.out⟩⟩
              case round =>
                clear HZ0
                obtain ⟨i, hi, rfl, HG⟩ := hrel
                obtain ⟨wA, rfl⟩ : ∃ x : World, x = wr := ⟨_, rfl⟩
                obtain ⟨D, cD, T, K, S, G, hZ⟩ := HG.out
                clear HG
                by_cases hin : i < n
                · have hinz : (i : Int) < (n : Int) := by omega
                  have HZ := hide hZ
                  obtain ⟨vb, vo, Ai, ci, rfl, -, hvb0, h0, h1, h2, h3, hX⟩ := HI.out i hin
                  have hvb : vb < wA.heap.size := Nat.lt_of_lt_of_le hvb0 hZ.below.size
                  replace h0 := (hZ.below.cell (p := ⟨vb, _, none⟩) hvb0).trans h0
                  replace h1 := (hZ.below.cell (p := ⟨vb, _, none⟩) hvb0).trans h1
                  replace h2 := (hZ.below.cell (p := ⟨vb, _, none⟩) hvb0).trans h2
                  replace h3 := (hZ.below.cell (p := ⟨vb, _, none⟩) hvb0).trans h3
                  have HXW := hide hX
                  have HX := hide (hX.below hZ.below)
                  clear hX hZ hvb0
                  generalize P i = pI at *
                  generalize Q i = tI at *
                  generalize V i = vI at *
                  generalize L i = l at *
                  generalize X i = x at *
                  go_upto_region 17 with fail
                  obtain ⟨w6, hw6⟩ : ∃ x' : World, x' = wA.alloc (.cells #[.int .i64 pI, .int .i64 tI, .int .i64 vI, .slice Ai l ci] 51) := ⟨_, rfl⟩
                  rw [← hw6]
                  have bx6 : Box w6 wA.heap.size 51 #[.int .i64 pI, .int .i64 tI, .int .i64 vI, .slice Ai l ci] := by rw [hw6]; exact Box.made rfl
                  have hb6 : Below wA.heap.size wA w6 := by rw [hw6]; exact (Below.refl _ _).alloc (Nat.le_refl _) _
                  have HZ6 := hide (HZ.out.kept hb6)
                  have HX6 := hide (HX.out.below hb6)
                  have hr4 : w4.heap.size < wA.heap.size := by have := HZ.out.rows.two.1; have := HZ.out.rows.sums.lt; omega
                  have hgs : gs < wA.heap.size ∧ gt < wA.heap.size := ⟨HZ.out.rows.sums.lt, HZ.out.rows.togs.lt⟩
                  have HGR := hide (fun j (hj : j < m) => (HZ.out.rows.rows j hj).lt)
                  clear hw6 hb6 h0 h1 h2 h3 hvb HZ HX
                  obtain ⟨y0, y1, y2, y3, hly⟩ := recv_cells bx6
                  obtain ⟨b0, b1, hlb⟩ := bufs_cells HZ6.out.bb
                  by_cases h30 : 30 < l
                  · have t3 : decide ((30 : Int) < (l : Int)) = true := decide_eq_true (by omega)
                    have t3' : decide (30 < l) = true := decide_eq_true h30
                    go_wp2_with fail
                    go_ret
                    exact ⟨rfl, HZ6.out.below⟩
                  · have t3 : decide ((30 : Int) < (l : Int)) = false := decide_eq_false (by omega)
                    have t3' : decide (30 < l) = false := decide_eq_false h30
                    have hl30 : l ≤ 30 := by omega
                    go_wp2_with fail
                    refine (receivedErrR_any (N : Int) pI tI vI D Ai m cD l ci x _ (by omega) (by omega) HX6.out).mono ?_
                    rintro r w7 ⟨rfl, hb7⟩
                    have bx7 := bx6.below hb7
                    have HZ7 := hide (HZ6.out.kept hb7)
                    have HX7 := hide (HX6.out.below hb7)
                    have h67 := hb7.size
                    have hr7 := bx7.lt
                    clear t3 t3' h30 b0 b1 hlb y0 y1 y2 y3 hly bx6 HZ6 HX6 hb7
                    obtain ⟨R, hR⟩ : ∃ z, z = recepErrI m pI tI vI l x := ⟨_, rfl⟩
                    rw [← hR]
                    by_cases hz : R = 0
                    · subst hz
                      have tz : ((0 : Int) != 0) = false := by simp
                      obtain ⟨⟨p0, p9⟩, ht, ⟨v0, v9⟩, l0, l4, hx⟩ := recepErr_zero hR.symm
                      obtain ⟨a, rfl⟩ := Int.eq_ofNat_of_zero_le p0
                      obtain ⟨v, rfl⟩ := Int.eq_ofNat_of_zero_le v0
                      have ham : a < m := by omega
                      have hamz : (a : Int) < (m : Int) := by omega
                      have hv3 : v ≤ 3 := by omega
                      have HNX := hide (HZ7.out.ok.next (v := v) (l := l) (x := x) (show i < 12 by omega) ham ht hl30 hx)
                      have HRV := hide (fun W A' c' A2 c2 hW hW2 => Receive_ok m N l v a (a : Int) tI A' A2 c' c2 T K S x W HZ7.out.ok.ok rfl ham ht hv3 l0 l4 hx (fun _ => HNX.out.1) hW hW2)
                      have HXB := hide hx
                      have HSB := hide (HZ7.out.ok.le a ham)
                      obtain ⟨GF, hGF⟩ : ∃ z, z = gatherF v N x l := ⟨_, rfl⟩
                      rw [← hGF] at HNX HRV
                      have HGF := hide hGF
                      have HP7 := hide HZ7.out.hP
                      clear hR p0 p9 v0 v9 hx hGF
                      go_upto_region 19 with fail
                      go_cut [12, 13, 98] (fun s12 s13 _ wc => ∃ gp Dh ch, s12 = .pointer (some ⟨gp, 0, none⟩) ∧ s13 = .int .i64 0 ∧ Hid (Box wc gp 36 #[.int .i64 (N : Int), .slice Dh m ch]) ∧ Hid (ProcsAt wc w7.heap.size Dh m (setF T a tI) (behK T K a tI) (fun _ => N) (behS T S a tI GF)) ∧ w7.heap.size ≤ gp ∧ Below w7.heap.size w7 wc)
                      case first =>
                        as_aux_lemma =>
                          skip
                          obtain ⟨b0, b1, hlb⟩ := bufs_cells HZ7.out.bb
                          obtain ⟨y0, y1, y2, y3, hly⟩ := recv_cells bx7
                          have SOF := hide (fun W' (h : Below w7.heap.size w7 W') => (⟨(h.cell (p := ⟨w2.heap.size, 0, none⟩) hlb).trans b0, (h.cell (p := ⟨w2.heap.size, 1, none⟩) hlb).trans b1, (h.cell (p := ⟨wA.heap.size, 0, none⟩) hly).trans y0, (h.cell (p := ⟨wA.heap.size, 1, none⟩) hly).trans y1, (h.cell (p := ⟨wA.heap.size, 2, none⟩) hly).trans y2, (h.cell (p := ⟨wA.heap.size, 3, none⟩) hly).trans y3, h⟩ : W'.cell? ⟨w2.heap.size, 0, none⟩ = some (.int .i64 (N : Int)) ∧ W'.cell? ⟨w2.heap.size, 1, none⟩ = some (.slice D m cD) ∧ W'.cell? ⟨wA.heap.size, 0, none⟩ = some (.int .i64 (a : Int)) ∧ W'.cell? ⟨wA.heap.size, 1, none⟩ = some (.int .i64 tI) ∧ W'.cell? ⟨wA.heap.size, 2, none⟩ = some (.int .i64 (v : Int)) ∧ W'.cell? ⟨wA.heap.size, 3, none⟩ = some (.slice Ai l ci) ∧ Below w7.heap.size w7 W'))
                          have KP := hide (fun W' (h : W'.cell? ⟨w2.heap.size, 0, none⟩ = some (.int .i64 (N : Int)) ∧ W'.cell? ⟨w2.heap.size, 1, none⟩ = some (.slice D m cD) ∧ W'.cell? ⟨wA.heap.size, 0, none⟩ = some (.int .i64 (a : Int)) ∧ W'.cell? ⟨wA.heap.size, 1, none⟩ = some (.int .i64 tI) ∧ W'.cell? ⟨wA.heap.size, 2, none⟩ = some (.int .i64 (v : Int)) ∧ W'.cell? ⟨wA.heap.size, 3, none⟩ = some (.slice Ai l ci) ∧ Below w7.heap.size w7 W') => HP7.out.below h.2.2.2.2.2.2)
                          have KX := hide (fun W' (h : W'.cell? ⟨w2.heap.size, 0, none⟩ = some (.int .i64 (N : Int)) ∧ W'.cell? ⟨w2.heap.size, 1, none⟩ = some (.slice D m cD) ∧ W'.cell? ⟨wA.heap.size, 0, none⟩ = some (.int .i64 (a : Int)) ∧ W'.cell? ⟨wA.heap.size, 1, none⟩ = some (.int .i64 tI) ∧ W'.cell? ⟨wA.heap.size, 2, none⟩ = some (.int .i64 (v : Int)) ∧ W'.cell? ⟨wA.heap.size, 3, none⟩ = some (.slice Ai l ci) ∧ Below w7.heap.size w7 W') => HX7.out.below h.2.2.2.2.2.2)
                          have bb0 : Below w7.heap.size w7 w7 := Below.refl _ _
                          clear b0 b1 y0 y1 y2 y3
                          go_region_held3 (fun w' => w'.cell? ⟨w2.heap.size, 0, none⟩ = some (.int .i64 (N : Int)) ∧ w'.cell? ⟨w2.heap.size, 1, none⟩ = some (.slice D m cD) ∧ w'.cell? ⟨wA.heap.size, 0, none⟩ = some (.int .i64 (a : Int)) ∧ w'.cell? ⟨wA.heap.size, 1, none⟩ = some (.int .i64 tI) ∧ w'.cell? ⟨wA.heap.size, 2, none⟩ = some (.int .i64 (v : Int)) ∧ w'.cell? ⟨wA.heap.size, 3, none⟩ = some (.slice Ai l ci) ∧ Below w7.heap.size w7 w')
                            (first | assumption | exact SOF.out _ (by assumption) | exact SOF.out _ bb0.drew | exact SOF.out _ (below_drewN (by assumption) _) | exact SOF.out _ (ballocH (by assumption) (Nat.le_refl _) _) | exact SOF.out _ (ballocH bb0 (Nat.le_refl _) _).drew | exact SOF.out _ ((hs_wh.setCell hs_wg.size _).setCell hs_wg.size _) | exact SOF.out _ ((hs_wh.setCell hs_wf.size _).setCell hs_wf.size _) | exact SOF.out _ ((hs_wh.setCell (Nat.le_refl _) _).setCell (Nat.le_refl _) _))
                            (first
                              | (go_at_call 18; refine (copyBuffers_any (N : Int) D m cD T K (fun _ => N) S _ (by omega) (fun i _ => by omega) (KP.out _ (by assumption))).mono ?_; rintro r wf ⟨Df, cf, rfl, hPf, hbf⟩; have hs_wf : Below w7.heap.size w7 wf := bst6 hbf (by assumption) (Nat.le_refl _); (try (have bnA := (Box.made (w := w7.drew) rfl : Box _ w7.heap.size 36 #[.int .i64 0, .slice none 0 0]).below hbf)))
                              | (go_at_call 15; refine (copyInts_own Ai l ci x _ (by omega) (KX.out _ (by assumption))).mono ?_; rintro r wg ⟨vg, rfl, howng, hbg⟩; obtain ⟨Ag, cg, rfl, hncg, hIg⟩ := howng.form; have hs_wg : Below w7.heap.size w7 wg := bst6 hbg (by assumption) (Nat.le_refl _); have hPg := hide (show ProcsAt wg 0 Df m T K (fun _ => N) S from by first | exact (hPf.weak (Nat.zero_le _)).below hbg | exact ((hPf.weak (Nat.zero_le _)).alloc _).below hbg); (first | (have bnB := bnA.below hbg) | (have bnB := (Box.made (w := wf) rfl : Box _ wf.heap.size 36 #[.int .i64 0, .slice none 0 0]).below hbg) | skip))
                              | (go_at_call 17; refine (HRV.out _ Df cf Ag cg (by first | exact hPg.out | exact hPg.out.alloc _) (by first | exact hIg.weak (Nat.zero_le _) | exact (hIg.weak (Nat.zero_le _)).alloc _)).mono ?_; rintro r wh ⟨Dh, ch, rfl, hPh, hbh⟩; have hs_wh : Below w7.heap.size w7 wh := bst6 hbh (by assumption) (Nat.le_refl _); (first | (have bnC := bnB.below hbh) | (have bnC := (Box.made (w := wg) rfl : Box _ wg.heap.size 36 #[.int .i64 0, .slice none 0 0]).below hbh) | skip); (try (have n0 := bnC.at_ 0; have n1 := bnC.at_ 1; have nf0 := bnC.free 0; have nf1 := bnC.free 1; simp at n0 n1))))
                          all_goals
                            go_wp2_with fail
                            go_meet
                            case rel =>
                              first
                                | exact ⟨_, Dh, ch, rfl, rfl, hide (Box.made rfl), hide ((hPh.weak hs_wg.size).alloc _), hs_wh.size, hs_wh.alloc hs_wh.size _⟩
                                | exact ⟨_, Dh, ch, rfl, rfl, hide ((bnC.set_ 0 (.int .i64 (N : Int))).set_ 1 (.slice Dh m ch)), hide (((hPh.only bnB.lt ((Only.refl _ wh).set_ 0 _)).only bnB.lt ((Only.refl _ _).set_ 1 _)).weak hs_wg.size), hs_wf.size, (hs_wh.setCell hs_wf.size _).setCell hs_wf.size _⟩
                                | exact ⟨_, Dh, ch, rfl, rfl, hide ((bnC.set_ 0 (.int .i64 (N : Int))).set_ 1 (.slice Dh m ch)), hide (((hPh.only bnB.lt ((Only.refl _ wh).set_ 0 _)).only bnB.lt ((Only.refl _ _).set_ 1 _)).weak hs_wg.size), Nat.le_refl _, (hs_wh.setCell (Nat.le_refl _) _).setCell (Nat.le_refl _) _⟩
                                | exact ⟨_, Dh, ch, rfl, rfl, hide ((bnC.set_ 0 (.int .i64 (N : Int))).set_ 1 (.slice Dh m ch)), hide (((hPh.only (by simp) ((Only.refl _ wh).set_ 0 _)).only (by simp) ((Only.refl _ _).set_ 1 _)).weak (by have := hs_wg.size; simp; omega)), hs_wg.size, (hs_wh.setCell hs_wg.size _).setCell hs_wg.size _⟩
                      case rest =>
                        as_aux_lemma =>
                          obtain ⟨gp, Dh, ch, rfl, rfl, HBN, HPN, hgp, hbec⟩ := hcut
                          obtain ⟨wn, rfl⟩ : ∃ x : World, x = wc := ⟨_, rfl⟩
                          have bx8 := bx7.below hbec
                          have HZ8 := hide (HZ7.out.kept hbec)
                          clear bx7 HZ7 HX7 HP7 HRV hbec
                          have tN : ((N : Int) != (N : Int)) = false := by simp
                          have tM : ((m : Int) != (m : Int)) = false := by simp
                          obtain ⟨b0, b1, hlb⟩ := bufs_cells HBN.out
                          obtain ⟨a0, a1, hla⟩ := two_cells' HZ8.out.bg
                          go_wp2_with fail
                          refine (buffersErrR_ok m N ch Dh _ _ _ _ HNX.out.2.ok (HPN.out.weak (Nat.zero_le _))).mono ?_
                          rintro r wo ⟨rfl, hbo⟩
                          have bx9 := bx8.below hbo
                          have HZ9 := hide (HZ8.out.kept hbo)
                          have HBO := hide (HBN.out.below hbo)
                          have HPO := hide (HPN.out.below hbo)
                          clear a0 a1 hla b0 b1 hlb bx8 HZ8 HBN HPN hbo
                          obtain ⟨b0, b1, hlb⟩ := bufs_cells HBO.out
                          obtain ⟨a0, a1, hla⟩ := two_cells' HZ9.out.bg
                          go_upto_region 22 with fail
                          clear b0 b1 hlb
                          obtain ⟨y0, y1, y2, y3, hly⟩ := recv_cells bx9
                          have c2 := HZ9.out.rows.togs.cell ham
                          have l2 := HZ9.out.rows.togs.lt
                          go_quiet (fail)
                          have HZp := hide (HZ9.out.kept (below_drewN (Below.refl _ _) nq))
                          have bxp : Box (wo.drewN nq) wA.heap.size 51 #[.int .i64 (a : Int), .int .i64 tI, .int .i64 (v : Int), .slice Ai l ci] := bx9
                          have HBp := hide (HBO.out.drewN nq)
                          have HPp := hide (HPO.out.drewN nq)
                          clear y0 y1 y2 y3 hly c2 l2 a0 a1 hla bx9 HZ9 HBO HPO
                          generalize wo.drewN nq = wp at *
                          obtain ⟨y0, y1, y2, y3, hly⟩ := recv_cells bxp
                          obtain ⟨a0, a1, hla⟩ := two_cells' HZp.out.bg
                          have hx0 : wA.heap.size ≠ gs := by omega
                          have hx1 : wA.heap.size ≠ gt := by omega
                          have htwo := HZp.out.rows.two
                          have hw0 : w.heap.size ≠ gs := by omega
                          have hw1 : w.heap.size ≠ gt := by omega
                          go_upto_if 143 with fail
                          go_cut [143] (fun _ wx => ∃ G', Hid (SumsI gs gt m N w4.heap.size (setF T a tI) (fun j => if j = a then (if tI = T a then S a else fun _ => 0) else S j) G' wx) ∧ Hid (Keep2 gs gt wp wx) ∧ (∀ j, j < m → G' j < wA.heap.size ∨ wp.heap.size ≤ G' j) ∧ Below w.heap.size w wx)
                          case first =>
                            as_aux_lemma =>
                              by_cases hta : tI = T a
                              · have tt : (T a != tI) = false := by rw [hta]; simp
                                have HTA := hide hta
                                clear hta
                                go_wp2_with fail
                                go_meet
                                case rel =>
                                  exact ⟨G, hide ((HZp.out.rows.congrT (T' := setF T a tI) (fun j _ => by
                                    unfold setF
                                    by_cases e : j = a
                                    · rw [if_pos e, e]; exact HTA.out.symm
                                    · rw [if_neg e])).congrR (fun j _ p _ => by
                                    by_cases e : j = a
                                    · rw [if_pos e, if_pos HTA.out, e]
                                    · rw [if_neg e])), hide (Keep2.refl _ _ _), fun j hj => .inl (HGR.out j hj), HZp.out.below⟩
                              · have tt : (T a != tI) = true := by simpa using fun h => hta h.symm
                                have HTA := hide hta
                                clear hta
                                have s1 := HZp.out.rows.sums.cell ham
                                have f1 := HZp.out.rows.sums.frozen a
                                have s2 := HZp.out.rows.togs.cell ham
                                have f2 := HZp.out.rows.togs.frozen a
                                have l1 := HZp.out.rows.sums.lt
                                have l2 := HZp.out.rows.togs.lt
                                have hne := HZp.out.rows.two.2.2
                                have hne' : ¬ gt = gs := fun e => hne e.symm
                                have SOF := hide (fun W' (h : Keep2 gs gt wp W') => (⟨(h.cell (p := ⟨wA.heap.size, 0, none⟩) hly hx0 hx1).trans y0, (h.cell (p := ⟨wA.heap.size, 1, none⟩) hly hx0 hx1).trans y1, (h.cell (p := ⟨w.heap.size, 0, none⟩) hla hw0 hw1).trans a0, h⟩ : W'.cell? ⟨wA.heap.size, 0, none⟩ = some (.int .i64 (a : Int)) ∧ W'.cell? ⟨wA.heap.size, 1, none⟩ = some (.int .i64 tI) ∧ W'.cell? ⟨w.heap.size, 0, none⟩ = some (.int .i64 (N : Int)) ∧ Keep2 gs gt wp W'))
                                clear y0 y1 y2 y3 a0 a1
                                go_wp2_with fail
                                go_region_held3 (fun w' => w'.cell? ⟨wA.heap.size, 0, none⟩ = some (.int .i64 (a : Int)) ∧ w'.cell? ⟨wA.heap.size, 1, none⟩ = some (.int .i64 tI) ∧ w'.cell? ⟨w.heap.size, 0, none⟩ = some (.int .i64 (N : Int)) ∧ Keep2 gs gt wp w')
                                  (first | assumption | exact SOF.out _ (by repeat (first | exact Keep2.refl _ _ _ | refine Keep2.drew ?_ | refine Keep2.alloc ?_ _ | refine Keep2.setS ?_ _ _ | refine Keep2.setT ?_ _ _)))
                                  (first
                                    | fail)
                                all_goals
                                  go_wp2_with fail
                                  go_meet
                                  case rel =>
                                    have hRp := HZp.out.rows.below (W' := wp.drew) (Below.refl _ _).drew
                                    have hBp := HZp.out.below.drew
                                    have hwp := HZp.out.below.size
                                    first
                                      | refine ⟨_, hide ((hRp.turn4 ham tI).congrR (fun j _ p _ => ?_)), hide (Keep2.alloc (Keep2.setT (Keep2.setS (Keep2.drew (Keep2.refl _ _ _)) _ _) _ _) _), fun j hj => ?_, ((hBp.setCell (by simp; omega) _).setCell (by simp; omega) _).alloc (by simp; omega) _⟩
                                      | refine ⟨_, hide ((hRp.turn5 ham tI).congrR (fun j _ p _ => ?_)), hide (Keep2.alloc (Keep2.setS (Keep2.setT (Keep2.drew (Keep2.refl _ _ _)) _ _) _ _) _), fun j hj => ?_, ((hBp.setCell (by simp; omega) _).setCell (by simp; omega) _).alloc (by simp; omega) _⟩
                                      | refine ⟨_, hide ((hRp.turn3 ham tI).congrR (fun j _ p _ => ?_)), hide (Keep2.setS (Keep2.alloc (Keep2.setT (Keep2.drew (Keep2.refl _ _ _)) _ _) _) _ _), fun j hj => ?_, (((hBp.setCell (by simp; omega) _).alloc (by simp; omega) _).setCell (by simp; omega) _)⟩
                                    · by_cases e : j = a
                                      · rw [if_pos e, if_pos e, if_neg HTA.out]
                                      · rw [if_neg e, if_neg e]
                                    · by_cases e : j = a
                                      · rw [if_pos e]; exact .inr (Nat.le_refl _)
                                      · rw [if_neg e]; exact .inl (HGR.out j hj)
                          case rest =>
                            as_aux_lemma =>
                              obtain ⟨G', HS, HK, hG, hBx⟩ := hcut
                              obtain ⟨wq, rfl⟩ : ∃ x : World, x = wc := ⟨_, rfl⟩
                              have hGa := hG a ham
                              have hGlo := (HS.out.far a ham).1
                              have hw4p := HZp.out.below.size
                              have hgpl := HBp.out.lt
                              have hxp := bxp.lt
                              have hbp := HZp.out.bb.lt
                              have hpq := HK.out.1
                              have bgq := HK.out.box HZp.out.bg hw0 hw1
                              have bbq := HK.out.box HZp.out.bb (show w2.heap.size ≠ gs by omega) (show w2.heap.size ≠ gt by omega)
                              have bxq := HK.out.box bxp hx0 hx1
                              have HMq := hide (Mid.keep2 (lo := w7.heap.size) HK.out (by omega) (by omega))
                              clear y0 y1 y2 y3 hly a0 a1 hla bxp HZp tN tM HK hG
                              go_wp2_with fail
                              go_loopw [14, 15] (fun kk _ wk => ∃ y : Nat, y ≤ l ∧ kk = .int .i64 y ∧ Hid (SumsI gs gt m N w4.heap.size (setF T a tI) (nmR S a (if tI = T a then S a else fun _ => 0) (gatherF v N x y)) G' wk ∧ Only (G' a) wq wk)) (fun kk _ _ => l - (intOf kk).toNat)
                              case atStart => exact ⟨0, Nat.zero_le _, rfl, hide ⟨HS.out.congrR (fun j _ p _ => nmR_zero T S a tI v N x j p), Only.refl _ _⟩⟩
                              case round =>
                                clear HS
                                obtain ⟨y, hy, rfl, HL⟩ := hrel
                                obtain ⟨wB, rfl⟩ : ∃ x : World, x = wr := ⟨_, rfl⟩
                                obtain ⟨hS, hO⟩ := HL.out
                                have bgB := hO.box bgq (show w.heap.size ≠ G' a by omega)
                                have bbB := hO.box bbq (show w2.heap.size ≠ G' a by omega)
                                have bxB := hO.box bxq (show wA.heap.size ≠ G' a by omega)
                                have hBB := hBx.trans (hO.to_below (show w.heap.size ≤ G' a by omega) (by omega))
                                obtain ⟨a0, a1, hla⟩ := two_cells' bgB
                                obtain ⟨y0, y1, y2, y3, hly⟩ := recv_cells bxB
                                by_cases hyl : y < l
                                · have hylz : (y : Int) < (l : Int) := by omega
                                  obtain ⟨xb, xo, rfl, -, hxb, hxc⟩ := HXW.out.below hBB y hyl
                                  have hx6 := HXB.out y hyl
                                  obtain ⟨xy, hxy⟩ : ∃ z, z = x y := ⟨_, rfl⟩
                                  rw [← hxy] at hxc hx6
                                  obtain ⟨M, hM⟩ : ∃ M, M = v * N := ⟨_, rfl⟩
                                  have hM9 : M ≤ 90 := by have := Nat.mul_le_mul hv3 N9; omega
                                  have hPL := hide (show placeN v N y = (M / 4 + y) % N from by rw [hM]; rfl)
                                  have hmz : (v : Int) * (N : Int) = (M : Int) := by rw [hM]; simp
                                  have hpl := placeN_lt (v := v) (k := y) (show 0 < N by omega)
                                  obtain ⟨P', hP'⟩ : ∃ P', P' = placeN v N y := ⟨_, rfl⟩
                                  rw [← hP'] at hPL hpl
                                  have e1 : ((M : Int) / 4 + (y : Int)) % (N : Int) = (P' : Int) := by rw [hPL.out]; simp
                                  have hn0 : ¬ (N : Int) = 0 := by omega
                                  have hpz : (P' : Int) < (N : Int) := by omega
                                  have s1 := hS.sums.cell ham
                                  have l1 := hS.sums.lt
                                  have r1 := (hS.rows a ham).cell hpl
                                  have rf := (hS.rows a ham).frozen P'
                                  have rl := (hS.rows a ham).lt
                                  have hR0 : -360000000 ≤ (if tI = T a then S a else fun _ => 0) P' ∧ (if tI = T a then S a else fun _ => 0) P' ≤ 360000000 := by
                                    have h := HSB.out P' hpl
                                    split
                                    · omega
                                    · show -360000000 ≤ (0 : Int) ∧ (0 : Int) ≤ 360000000
                                      exact ⟨by decide, by decide⟩
                                  have hgl := gatherF_le (v := v) (n := N) HXB.out (show y ≤ l by omega) P'
                                  obtain ⟨cc, hcc⟩ : ∃ z, z = nmR S a (if tI = T a then S a else fun _ => 0) (gatherF v N x y) a P' := ⟨_, rfl⟩
                                  rw [← hcc] at r1
                                  have hcd : cc = (if tI = T a then S a else fun _ => 0) P' + gatherF v N x y P' := by rw [hcc]; unfold nmR; rw [if_pos rfl]
                                  have qk : IntKind.i64.wrap (cc + xy) = cc + xy := IntWalk.i64_in _ (by omega)
                                  have HSK := hide hS
                                  have HOK := hide hO
                                  have HQQ := hide (fun j p => nmR_step S a v N y P' (if tI = T a then S a else fun _ => 0) x hP' cc hcd j p)
                                  rw [← hxy] at HQQ
                                  clear hM hP' hS hO HL bgB bbB bxB hBB hR0 hgl hcc hcd hx6 hxy
                                  go_wp2_with fail
                                  go_still_tail 21, (by kernel_rfl)
                                  repeat still_step
                                  try refine wpStill_nil ?_
                                  go_wp2_with fail
                                  refine ⟨⟨y + 1, by omega, by simp, hide ⟨((HSK.out.below (Below.refl _ _).drew).add ham (p := P') (cc + xy)).congrR (fun j _ p _ => HQQ.out j p), HOK.out.drew.set_ P' _⟩⟩, by simp [intOf]; omega⟩
                                · obtain rfl : l = y := by omega
                                  have hSE : SumsI gs gt m N w4.heap.size (setF T a tI) (behS T S a tI GF) G' wB := hS.congrR (fun j _ p _ => by rw [HGF.out]; exact nmR_beh T S a tI _ j p)
                                  have hML := HMq.out.trans (Mid.only hO hpq (show G' a < w7.heap.size ∨ wp.heap.size ≤ G' a by omega))
                                  have hBk := hML.box HBp.out hgp hgpl
                                  have HPk := hide (HPp.out.mid hML)
                                  clear hS hO HL
                                  go_wp2_with fail
                                  clear y0 y1 y2 y3 hly
                                  obtain ⟨n0, n1, hln⟩ := bufs_cells hBk
                                  go_loopw [16] (fun jj wr => ∃ y q : Nat, y ≤ m ∧ jj = .int .i64 y ∧ wr = wB.drewN q) (fun jj _ => m - (intOf jj).toNat)
                                  case atStart => exact ⟨0, 0, Nat.zero_le _, rfl, rfl⟩
                                  case round =>
                                    as_aux_lemma =>
                                      obtain ⟨y, q, hy, rfl, rfl⟩ := hrel
                                      by_cases hym : y < m
                                      · have hymz : (y : Int) < (m : Int) := by omega
                                        obtain ⟨pb, po, Aj, cj, rfl, -, hpb, h0, -, h2, hIj⟩ := HPk.out y hym
                                        have c1 := hSE.sums.cell hym
                                        have c2 := hSE.togs.cell hym
                                        have l1 := hSE.sums.lt
                                        have l2 := hSE.togs.lt
                                        have HIj := hide (hIj.weak (Nat.zero_le _))
                                        have HJj := hide (IntsAt.of_row (hSE.rows y hym) (Nat.zero_le _))
                                        obtain ⟨F, hF⟩ : ∃ z, z = behS T S a tI GF y := ⟨_, rfl⟩
                                        rw [← hF] at HIj HJj
                                        have HQ := hide (fun W hW hW2 => ints_any Aj (some ⟨G' y, 0, none⟩) N N cj N F F W (by omega) (by omega) hW hW2)
                                        rw [show intsB N F N F = true from intsB_iff.2 ⟨rfl, fun _ _ => rfl⟩] at HQ
                                        have HSE := hide hSE
                                        generalize setF T a tI y = tv at h0 c2
                                        have tj : (tv != tv) = false := by simp
                                        clear hIj hSE hF
                                        go_wp2_with fail
                                        go_quiet ((go_at_call 22; exact quiet_add (HQ.out _ HIj.out HJj.out)))
                                        go_wp2_with fail
                                        go_roundw
                                        case rel => exact ⟨y + 1, _, by omega, by go_num, by first | rfl | exact World.drewN_drewN _ _ _⟩
                                        case measure => simp [intOf]; omega
                                      · obtain rfl : m = y := by omega
                                        have fa0 := bbB.free 0
                                        have fa1 := bbB.free 1
                                        obtain ⟨b0, b1, hlb⟩ := bufs_cells bbB
                                        have hn2 : ¬ gp = w2.heap.size := by omega
                                        have HSE := hide hSE
                                        have HBB := hide hBB
                                        have hZN : NmS w w2.heap.size gs gt m N w4.heap.size (i + 1) Dh ch (setF T a tI) (behK T K a tI) (behS T S a tI GF) G' (((wB.drewN q).setCell ⟨w2.heap.size, 0, none⟩ (.int .i64 (N : Int))).setCell ⟨w2.heap.size, 1, none⟩ (.slice Dh m ch)) := by
                                          have hOn : Only w2.heap.size (wB.drewN q) (((wB.drewN q).setCell ⟨w2.heap.size, 0, none⟩ (.int .i64 (N : Int))).setCell ⟨w2.heap.size, 1, none⟩ (.slice Dh m ch)) := ((Only.refl _ _).set_ 0 _).set_ 1 _
                                          exact ⟨hOn.box (bgB.drewN q) (show w.heap.size ≠ w2.heap.size by omega), ((bbB.drewN q).set_ 0 _).set_ 1 _, ((HPk.out.drewN q).only (show w2.heap.size < w7.heap.size by omega) hOn).weak (Nat.zero_le _), HNX.out.2, (hSE.below (below_drewN (Below.refl _ _) q)).low hOn (by omega), ((below_drewN hBB q).setCell (by simp; omega) _).setCell (by simp; omega) _⟩
                                        have HZN := hide hZN
                                        clear hSE hBB hZN
                                        go_wp2_with fail
                                        go_roundw
                                        case rel => exact ⟨i + 1, by omega, by go_num, hide ⟨_, _, _, _, _, _, HZN.out⟩⟩
                                        case measure => simp [intOf]; omega
                    · have tz : (R != 0) = true := by simpa using hz
                      clear hz hR
                      go_wp2_with fail
                      go_ret
                      exact ⟨rfl, HZ7.out.below⟩
                · obtain rfl : n = i := by omega
                  have hB9 := hZ.below
                  go_wp2_with fail
                  go_ret
                  exact ⟨rfl, hB9⟩
end Go.Proofs.Ytnglmfdcnoglhaa
