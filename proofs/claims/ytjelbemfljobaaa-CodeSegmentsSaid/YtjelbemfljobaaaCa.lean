/- Words for memory: a block known whole, only one block has turned, a slice that reads as numbers; closing lemmas for results. -/
import Derived.Test.YtjelbemfljobaaaRows
import Derived.WalkKit
import Derived.WalkSpells
import Derived.WalkLawsBesides
import Derived.Deep.QuietTactic
import Derived.BigQuiet
import Derived.Outline
import Derived.Deep.LoopGhost
import Derived.StillTailTactics
import Derived.Deep.RegionHeld3
import Derived.Deep.DeepCutAuto
import Derived.Deep.OwnRows
import Derived.Deep.MidRow
namespace Go.Proofs.Ytjelbemfljobaaa
open Go.RowKit

/-- Block b is just these cells of this type, and none is frozen. -/
def Box (w : World) (b : Nat) (t : TypeId) (cs : Array Value) : Prop := w.heap[b]? = some (.cells cs t (0, 0))

theorem Box.lt {w : World} {b : Nat} {t : TypeId} {cs : Array Value} (h : Box w b t cs) : b < w.heap.size := by
  unfold Box at h
  exact (Array.getElem?_eq_some_iff.1 h).1
theorem Box.at_ {w : World} {b : Nat} {t : TypeId} {cs : Array Value} (h : Box w b t cs) (i : Nat) : w.cell? ⟨b, i, none⟩ = cs[i]? := cell_of_row w b i cs t (0, 0) h
theorem Box.free {w : World} {b : Nat} {t : TypeId} {cs : Array Value} (h : Box w b t cs) (i : Nat) : w.frozen? ⟨b, i, none⟩ = false := by
  unfold Box at h
  simp [World.frozen?, h]
theorem Box.made {w : World} {b : Nat} {t : TypeId} {cs : Array Value} (h : b = w.heap.size) : Box (w.alloc (.cells cs t)) b t cs := by
  subst h
  exact heap_alloc_new w _
theorem Box.alloc {w : World} {b : Nat} {t : TypeId} {cs : Array Value} (h : Box w b t cs) (o : Obj) : Box (w.alloc o) b t cs := (Below.heap_alloc w o b h.lt).trans h
theorem Box.drewN {w : World} {b : Nat} {t : TypeId} {cs : Array Value} (h : Box w b t cs) (n : Nat) : Box (w.drewN n) b t cs := h
theorem Box.drew {w : World} {b : Nat} {t : TypeId} {cs : Array Value} (h : Box w b t cs) : Box w.drew b t cs := h
theorem Box.kept {w w' : World} {b B : Nat} {t : TypeId} {cs : Array Value} (h : Box w b t cs) (hb : Below B w w') (hB : b < B) : Box w' b t cs := (hb.block b hB).trans h
theorem Box.below {w w' : World} {b : Nat} {t : TypeId} {cs : Array Value} (h : Box w b t cs) (hb : Below w.heap.size w w') : Box w' b t cs := h.kept hb h.lt
theorem Box.set_ {w : World} {b : Nat} {t : TypeId} {cs : Array Value} (h : Box w b t cs) (i : Nat) (u : Value) : Box (w.setCell ⟨b, i, none⟩ u) b t (cs.setIfInBounds i u) := by
  unfold Box at h ⊢
  simp [World.setCell, Array.getElem?_modify, h]
theorem Box.other {w : World} {b : Nat} {t : TypeId} {cs : Array Value} (h : Box w b t cs) {p : Addr} (hp : b ≠ p.block) (u : Value) : Box (w.setCell p u) b t cs := (Below.heap_setCell w p u b hp).trans h

theorem bcell {W w1 : World} (hb : Below W.heap.size W w1) : (∀ b o, b < W.heap.size → w1.cell? ⟨b, o, none⟩ = W.cell? ⟨b, o, none⟩) ∧ (∀ b o, b < W.heap.size → w1.frozen? ⟨b, o, none⟩ = W.frozen? ⟨b, o, none⟩) :=
  ⟨fun b o h => hb.cell (p := ⟨b, o, none⟩) h, fun b o h => hb.frozen (p := ⟨b, o, none⟩) h⟩

theorem below_of_drew {w w1 : World} (h : Below w.drew.heap.size w.drew w1) : Below w.heap.size w w1 := ⟨h.os, h.tape, h.output, h.size, h.block⟩
theorem below_of_drewN {w w1 : World} {n : Nat} (h : Below (w.drewN n).heap.size (w.drewN n) w1) : Below w.heap.size w w1 := ⟨h.os, h.tape, h.output, h.size, h.block⟩

theorem hide {p : Prop} (h : p) : Hid p := h
theorem ret_int {k : IntKind} {a b : Int} (h : a = b) : Ending.returned (.int k a) = .returned (.int k b) := by rw [h]
theorem ret_bool {a b : Bool} (h : a = b) : Ending.returned (.bool a) = .returned (.bool b) := by rw [h]
theorem ret_val {a b : Value} (h : a = b) : Ending.returned a = .returned b := by rw [h]

theorem quiet_add_same {P : Program} {f : FuncId} {args : Array Value} {w : World} {a n : Nat} {v : Value}
    (h : Calls P f args (w.drewN (a + n)) fun e w' => e = .returned v ∧ w' = w.drewN (a + n)) :
    Calls P f args (w.drewN (a + n)) fun e w'' => e = .returned v ∧ ∃ m, w'' = w.drewN (a + m) :=
  h.mono fun _ _ ⟨he, hm⟩ => ⟨he, n, hm⟩

/-- Only block b has turned, and what is new. -/
def Only (b : Nat) (w w' : World) : Prop := w.grownBy w' (some b)
theorem Only.refl (b : Nat) (w : World) : Only b w w := ⟨rfl, rfl, rfl, Nat.le_refl _, fun _ _ _ => rfl⟩
theorem Only.trans {b : Nat} {a w w' : World} (h : Only b a w) (k : Only b w w') : Only b a w' :=
  ⟨k.os.trans h.os, k.tape.trans h.tape, k.output.trans h.output, Nat.le_trans h.size k.size, fun i hi hn => (k.block i (Nat.lt_of_lt_of_le hi h.size) hn).trans (h.block i hi hn)⟩
theorem Only.alloc {b : Nat} {a w : World} (h : Only b a w) (o : Obj) : Only b a (w.alloc o) :=
  h.trans ⟨rfl, rfl, rfl, by simp, fun i hi _ => Below.heap_alloc _ _ _ hi⟩
theorem Only.drew {b : Nat} {a w : World} (h : Only b a w) : Only b a w.drew := ⟨h.os, h.tape, h.output, h.size, h.block⟩
theorem Only.drewN {b : Nat} {a w : World} (h : Only b a w) (n : Nat) : Only b a (w.drewN n) := ⟨h.os, h.tape, h.output, h.size, h.block⟩
theorem Only.set_ {b : Nat} {a w : World} (h : Only b a w) (o : Nat) (u : Value) : Only b a (w.setCell ⟨b, o, none⟩ u) :=
  h.trans ⟨rfl, rfl, rfl, by simp [World.setCell], fun i _ hn => Below.heap_setCell _ _ _ _ (fun e => hn (by rw [e]))⟩
theorem Only.below {b : Nat} {a w w' : World} (h : Only b a w) (hb : Below w.heap.size w w') : Only b a w' :=
  h.trans ⟨hb.os, hb.tape, hb.output, hb.size, fun i hi _ => hb.block i hi⟩
theorem Only.to_below {b B : Nat} {a w : World} (h : Only b a w) (hB : B ≤ b) (hs : B ≤ a.heap.size) : Below B a w :=
  ⟨h.os, h.tape, h.output, h.size, fun i hi => h.block i (by omega) (fun e => by injection e; omega)⟩
theorem Only.box {b c : Nat} {t : TypeId} {cs : Array Value} {a w : World} (h : Only b a w) (hx : Box a c t cs) (hn : c ≠ b) : Box w c t cs :=
  (h.block c hx.lt (fun e => hn (by injection e))).trans hx
theorem rowIs_below {w w' : World} {b : Nat} {t : TypeId} {n : Nat} {f : Nat → Value} (h : w.rowIs b t n f) (hb : Below w.heap.size w w') : w'.rowIs b t n f := h.of_block (hb.block b h.lt)


/-- A slice of n numbers F, whose block is not ahead of lo. -/
def IntsAt (w : World) (lo : Nat) (A : Option Addr) (n : Nat) (F : Nat → Int) : Prop :=
  ∀ k, k < n → ∃ b o, A = some ⟨b, o, none⟩ ∧ lo ≤ b ∧ b < w.heap.size ∧ w.cell? ⟨b, o + k, none⟩ = some (.int .i64 (F k))

section
variable {w w' : World} {lo n : Nat} {A : Option Addr} {F : Nat → Int}
theorem IntsAt.nil_ : IntsAt w lo A 0 F := fun k h => absurd h (Nat.not_lt_zero k)
theorem IntsAt.below (h : IntsAt w lo A n F) (hb : Below w.heap.size w w') : IntsAt w' lo A n F := fun k hk => by
  obtain ⟨b, o, e, h1, h2, h3⟩ := h k hk
  exact ⟨b, o, e, h1, Nat.lt_of_lt_of_le h2 hb.size, (hb.cell (p := ⟨b, o + k, none⟩) h2).trans h3⟩
theorem IntsAt.kept {B : Nat} (h : IntsAt w lo A n F) (hb : Below B w w') (hB : w.heap.size ≤ B) : IntsAt w' lo A n F := fun k hk => by
  obtain ⟨b, o, e, h1, h2, h3⟩ := h k hk
  exact ⟨b, o, e, h1, Nat.lt_of_lt_of_le h2 hb.size, (hb.cell (p := ⟨b, o + k, none⟩) (Nat.lt_of_lt_of_le h2 hB)).trans h3⟩
theorem IntsAt.alloc (h : IntsAt w lo A n F) (x : Obj) : IntsAt (w.alloc x) lo A n F := h.below ((Below.refl _ _).alloc (Nat.le_refl _) _)
theorem IntsAt.drew (h : IntsAt w lo A n F) : IntsAt w.drew lo A n F := h
theorem IntsAt.drewN (h : IntsAt w lo A n F) (m : Nat) : IntsAt (w.drewN m) lo A n F := h
theorem IntsAt.other (h : IntsAt w lo A n F) {p : Addr} (hp : p.block < lo) (u : Value) : IntsAt (w.setCell p u) lo A n F := fun k hk => by
  obtain ⟨b, o, e, h1, h2, h3⟩ := h k hk
  exact ⟨b, o, e, h1, by simpa [World.setCell] using h2, (World.cell?_setCell_other w p ⟨b, o + k, none⟩ u (fun e => by subst e; simp at hp; omega)).trans h3⟩
theorem IntsAt.only {g : Nat} (h : IntsAt w lo A n F) (hg : g < lo) (ho : Only g w w') : IntsAt w' lo A n F := fun k hk => by
  obtain ⟨b, o, e, h1, h2, h3⟩ := h k hk
  refine ⟨b, o, e, h1, Nat.lt_of_lt_of_le h2 ho.size, (World.cell?_of_block (a := ⟨b, o + k, none⟩) (ho.block b h2 (fun e => by injection e; omega))).trans h3⟩
theorem IntsAt.weak {lo' : Nat} (h : IntsAt w lo A n F) (hl : lo' ≤ lo) : IntsAt w lo' A n F := fun k hk => by
  obtain ⟨b, o, e, h1, h2, h3⟩ := h k hk
  exact ⟨b, o, e, Nat.le_trans hl h1, h2, h3⟩
theorem IntsAt.congr {G : Nat → Int} (h : IntsAt w lo A n F) (e : ∀ k, k < n → F k = G k) : IntsAt w lo A n G := fun k hk => by
  obtain ⟨b, o, h0, h1, h2, h3⟩ := h k hk
  exact ⟨b, o, h0, h1, h2, by rw [h3, e k hk]⟩
theorem IntsAt.fewer {m : Nat} (h : IntsAt w lo A n F) (hm : m ≤ n) : IntsAt w lo A m F := fun k hk => h k (Nat.lt_of_lt_of_le hk hm)
theorem IntsAt.cut {b o j m : Nat} (h : IntsAt w lo (some ⟨b, o, none⟩) n F) (hm : j + m ≤ n) : IntsAt w lo (some ⟨b, o + j, none⟩) m (fun k => F (j + k)) := fun k hk => by
  obtain ⟨b', o', e, h1, h2, h3⟩ := h (j + k) (by omega)
  injection e with e
  injection e with e1 e2
  subst e1; subst e2
  exact ⟨_, _, rfl, h1, h2, by rw [Nat.add_assoc]; exact h3⟩
theorem IntsAt.of_row {g : Nat} {t : TypeId} (h : w.rowIs g t n (fun j => .int .i64 (F j))) (hl : lo ≤ g) : IntsAt w lo (some ⟨g, 0, none⟩) n F := fun k hk =>
  ⟨g, 0, rfl, hl, h.lt, by rw [Nat.zero_add]; exact h.cell hk⟩
end

/-- A function handed back a new slice of n numbers F. -/
def GaveInts (w : World) (n : Nat) (F : Nat → Int) (v : Value) (w' : World) : Prop :=
  ∃ A c, v = .slice A n c ∧ n ≤ c ∧ IntsAt w' w.heap.size A n F ∧ Below w.heap.size w w'

theorem GaveInts.of_row {w w' : World} {g n : Nat} {t : TypeId} {F : Nat → Int} (h : w'.rowIs g t n (fun j => .int .i64 (F j))) (hg : w.heap.size ≤ g) (hb : Below w.heap.size w w') : GaveInts w n F (.slice (some ⟨g, 0, none⟩) n n) w' :=
  ⟨_, _, rfl, Nat.le_refl _, IntsAt.of_row h hg, hb⟩

end Go.Proofs.Ytjelbemfljobaaa
