/- Lemmas: Ca, Cm, Cb, Cc, Cd, KCb, KCc. -/
import Derived.Test.YtcdplfjegopmdaaGreatRows
import Derived.WalkKit
import Derived.WalkSpells
import Derived.WalkLawsBesides
import Derived.Deep.QuietTactic
import Derived.BigQuiet
import Derived.Outline
import Derived.Deep.LoopGhost
import Derived.StillTailTactics
import Derived.Deep.RegionHeld3
import Derived.Deep.DeepCutAuto
import Derived.Deep.OwnRows
import Derived.Deep.MidRow
import Derived.Laws.BitsAllLaws
import Derived.Laws.BitsLemmas
import Derived.IntWalk
import Derived.Shelf.Abstract
import Derived.Maps.AppendAt
set_option linter.unusedVariables false
set_option linter.unusedSimpArgs false
/- Words for memory: a block known whole, only one block has turned, a slice that reads as numbers; closing lemmas for results. -/
namespace Go.Proofs.YtcdplfjegopmdaaGreat
open Go.RowKit

/-- Block b is just these cells of this type, and none is frozen. -/
def Box (w : World) (b : Nat) (t : TypeId) (cs : Array Value) : Prop := w.heap[b]? = some (.cells cs t (0, 0))

theorem Box.lt {w : World} {b : Nat} {t : TypeId} {cs : Array Value} (h : Box w b t cs) : b < w.heap.size := by
  unfold Box at h
  exact (Array.getElem?_eq_some_iff.1 h).1
theorem Box.at_ {w : World} {b : Nat} {t : TypeId} {cs : Array Value} (h : Box w b t cs) (i : Nat) : w.cell? ⟨b, i, none⟩ = cs[i]? := cell_of_row w b i cs t (0, 0) h
theorem Box.free {w : World} {b : Nat} {t : TypeId} {cs : Array Value} (h : Box w b t cs) (i : Nat) : w.frozen? ⟨b, i, none⟩ = false := by
  unfold Box at h
  simp [World.frozen?, h]
theorem Box.made {w : World} {b : Nat} {t : TypeId} {cs : Array Value} (h : b = w.heap.size) : Box (w.alloc (.cells cs t)) b t cs := by
  subst h
  exact heap_alloc_new w _
theorem Box.alloc {w : World} {b : Nat} {t : TypeId} {cs : Array Value} (h : Box w b t cs) (o : Obj) : Box (w.alloc o) b t cs := (Below.heap_alloc w o b h.lt).trans h
theorem Box.drewN {w : World} {b : Nat} {t : TypeId} {cs : Array Value} (h : Box w b t cs) (n : Nat) : Box (w.drewN n) b t cs := h
theorem Box.drew {w : World} {b : Nat} {t : TypeId} {cs : Array Value} (h : Box w b t cs) : Box w.drew b t cs := h
theorem Box.kept {w w' : World} {b B : Nat} {t : TypeId} {cs : Array Value} (h : Box w b t cs) (hb : Below B w w') (hB : b < B) : Box w' b t cs := (hb.block b hB).trans h
theorem Box.below {w w' : World} {b : Nat} {t : TypeId} {cs : Array Value} (h : Box w b t cs) (hb : Below w.heap.size w w') : Box w' b t cs := h.kept hb h.lt
theorem Box.set_ {w : World} {b : Nat} {t : TypeId} {cs : Array Value} (h : Box w b t cs) (i : Nat) (u : Value) : Box (w.setCell ⟨b, i, none⟩ u) b t (cs.setIfInBounds i u) := by
  unfold Box at h ⊢
  simp [World.setCell, Array.getElem?_modify, h]
theorem Box.other {w : World} {b : Nat} {t : TypeId} {cs : Array Value} (h : Box w b t cs) {p : Addr} (hp : b ≠ p.block) (u : Value) : Box (w.setCell p u) b t cs := (Below.heap_setCell w p u b hp).trans h

theorem bcell {W w1 : World} (hb : Below W.heap.size W w1) : (∀ b o, b < W.heap.size → w1.cell? ⟨b, o, none⟩ = W.cell? ⟨b, o, none⟩) ∧ (∀ b o, b < W.heap.size → w1.frozen? ⟨b, o, none⟩ = W.frozen? ⟨b, o, none⟩) :=
  ⟨fun b o h => hb.cell (p := ⟨b, o, none⟩) h, fun b o h => hb.frozen (p := ⟨b, o, none⟩) h⟩

theorem below_of_drew {w w1 : World} (h : Below w.drew.heap.size w.drew w1) : Below w.heap.size w w1 := ⟨h.os, h.tape, h.output, h.size, h.block⟩
theorem below_of_drewN {w w1 : World} {n : Nat} (h : Below (w.drewN n).heap.size (w.drewN n) w1) : Below w.heap.size w w1 := ⟨h.os, h.tape, h.output, h.size, h.block⟩

theorem hide {p : Prop} (h : p) : Hid p := h
theorem ret_int {k : IntKind} {a b : Int} (h : a = b) : Ending.returned (.int k a) = .returned (.int k b) := by rw [h]
theorem ret_bool {a b : Bool} (h : a = b) : Ending.returned (.bool a) = .returned (.bool b) := by rw [h]
theorem ret_val {a b : Value} (h : a = b) : Ending.returned a = .returned b := by rw [h]

theorem quiet_add_same {P : Program} {f : FuncId} {args : Array Value} {w : World} {a n : Nat} {v : Value}
    (h : Calls P f args (w.drewN (a + n)) fun e w' => e = .returned v ∧ w' = w.drewN (a + n)) :
    Calls P f args (w.drewN (a + n)) fun e w'' => e = .returned v ∧ ∃ m, w'' = w.drewN (a + m) :=
  h.mono fun _ _ ⟨he, hm⟩ => ⟨he, n, hm⟩

/-- Only block b has turned, and what is new. -/
def Only (b : Nat) (w w' : World) : Prop := w.grownBy w' (some b)
theorem Only.refl (b : Nat) (w : World) : Only b w w := ⟨rfl, rfl, rfl, Nat.le_refl _, fun _ _ _ => rfl⟩
theorem Only.trans {b : Nat} {a w w' : World} (h : Only b a w) (k : Only b w w') : Only b a w' :=
  ⟨k.os.trans h.os, k.tape.trans h.tape, k.output.trans h.output, Nat.le_trans h.size k.size, fun i hi hn => (k.block i (Nat.lt_of_lt_of_le hi h.size) hn).trans (h.block i hi hn)⟩
theorem Only.alloc {b : Nat} {a w : World} (h : Only b a w) (o : Obj) : Only b a (w.alloc o) :=
  h.trans ⟨rfl, rfl, rfl, by simp, fun i hi _ => Below.heap_alloc _ _ _ hi⟩
theorem Only.drew {b : Nat} {a w : World} (h : Only b a w) : Only b a w.drew := ⟨h.os, h.tape, h.output, h.size, h.block⟩
theorem Only.drewN {b : Nat} {a w : World} (h : Only b a w) (n : Nat) : Only b a (w.drewN n) := ⟨h.os, h.tape, h.output, h.size, h.block⟩
theorem Only.set_ {b : Nat} {a w : World} (h : Only b a w) (o : Nat) (u : Value) : Only b a (w.setCell ⟨b, o, none⟩ u) :=
  h.trans ⟨rfl, rfl, rfl, by simp [World.setCell], fun i _ hn => Below.heap_setCell _ _ _ _ (fun e => hn (by rw [e]))⟩
theorem Only.below {b : Nat} {a w w' : World} (h : Only b a w) (hb : Below w.heap.size w w') : Only b a w' :=
  h.trans ⟨hb.os, hb.tape, hb.output, hb.size, fun i hi _ => hb.block i hi⟩
theorem Only.to_below {b B : Nat} {a w : World} (h : Only b a w) (hB : B ≤ b) (hs : B ≤ a.heap.size) : Below B a w :=
  ⟨h.os, h.tape, h.output, h.size, fun i hi => h.block i (by omega) (fun e => by injection e; omega)⟩
theorem Only.box {b c : Nat} {t : TypeId} {cs : Array Value} {a w : World} (h : Only b a w) (hx : Box a c t cs) (hn : c ≠ b) : Box w c t cs :=
  (h.block c hx.lt (fun e => hn (by injection e))).trans hx
theorem rowIs_below {w w' : World} {b : Nat} {t : TypeId} {n : Nat} {f : Nat → Value} (h : w.rowIs b t n f) (hb : Below w.heap.size w w') : w'.rowIs b t n f := h.of_block (hb.block b h.lt)


/-- A slice of n numbers F, whose block is not ahead of lo. -/
def IntsAt (w : World) (lo : Nat) (A : Option Addr) (n : Nat) (F : Nat → Int) : Prop :=
  ∀ k, k < n → ∃ b o, A = some ⟨b, o, none⟩ ∧ lo ≤ b ∧ b < w.heap.size ∧ w.cell? ⟨b, o + k, none⟩ = some (.int .i64 (F k))

section
variable {w w' : World} {lo n : Nat} {A : Option Addr} {F : Nat → Int}
theorem IntsAt.nil_ : IntsAt w lo A 0 F := fun k h => absurd h (Nat.not_lt_zero k)
theorem IntsAt.below (h : IntsAt w lo A n F) (hb : Below w.heap.size w w') : IntsAt w' lo A n F := fun k hk => by
  obtain ⟨b, o, e, h1, h2, h3⟩ := h k hk
  exact ⟨b, o, e, h1, Nat.lt_of_lt_of_le h2 hb.size, (hb.cell (p := ⟨b, o + k, none⟩) h2).trans h3⟩
theorem IntsAt.kept {B : Nat} (h : IntsAt w lo A n F) (hb : Below B w w') (hB : w.heap.size ≤ B) : IntsAt w' lo A n F := fun k hk => by
  obtain ⟨b, o, e, h1, h2, h3⟩ := h k hk
  exact ⟨b, o, e, h1, Nat.lt_of_lt_of_le h2 hb.size, (hb.cell (p := ⟨b, o + k, none⟩) (Nat.lt_of_lt_of_le h2 hB)).trans h3⟩
theorem IntsAt.alloc (h : IntsAt w lo A n F) (x : Obj) : IntsAt (w.alloc x) lo A n F := h.below ((Below.refl _ _).alloc (Nat.le_refl _) _)
theorem IntsAt.drew (h : IntsAt w lo A n F) : IntsAt w.drew lo A n F := h
theorem IntsAt.drewN (h : IntsAt w lo A n F) (m : Nat) : IntsAt (w.drewN m) lo A n F := h
theorem IntsAt.other (h : IntsAt w lo A n F) {p : Addr} (hp : p.block < lo) (u : Value) : IntsAt (w.setCell p u) lo A n F := fun k hk => by
  obtain ⟨b, o, e, h1, h2, h3⟩ := h k hk
  exact ⟨b, o, e, h1, by simpa [World.setCell] using h2, (World.cell?_setCell_other w p ⟨b, o + k, none⟩ u (fun e => by subst e; simp at hp; omega)).trans h3⟩
theorem IntsAt.only {g : Nat} (h : IntsAt w lo A n F) (hg : g < lo) (ho : Only g w w') : IntsAt w' lo A n F := fun k hk => by
  obtain ⟨b, o, e, h1, h2, h3⟩ := h k hk
  refine ⟨b, o, e, h1, Nat.lt_of_lt_of_le h2 ho.size, (World.cell?_of_block (a := ⟨b, o + k, none⟩) (ho.block b h2 (fun e => by injection e; omega))).trans h3⟩
theorem IntsAt.weak {lo' : Nat} (h : IntsAt w lo A n F) (hl : lo' ≤ lo) : IntsAt w lo' A n F := fun k hk => by
  obtain ⟨b, o, e, h1, h2, h3⟩ := h k hk
  exact ⟨b, o, e, Nat.le_trans hl h1, h2, h3⟩
theorem IntsAt.congr {G : Nat → Int} (h : IntsAt w lo A n F) (e : ∀ k, k < n → F k = G k) : IntsAt w lo A n G := fun k hk => by
  obtain ⟨b, o, h0, h1, h2, h3⟩ := h k hk
  exact ⟨b, o, h0, h1, h2, by rw [h3, e k hk]⟩
theorem IntsAt.fewer {m : Nat} (h : IntsAt w lo A n F) (hm : m ≤ n) : IntsAt w lo A m F := fun k hk => h k (Nat.lt_of_lt_of_le hk hm)
theorem IntsAt.cut {b o j m : Nat} (h : IntsAt w lo (some ⟨b, o, none⟩) n F) (hm : j + m ≤ n) : IntsAt w lo (some ⟨b, o + j, none⟩) m (fun k => F (j + k)) := fun k hk => by
  obtain ⟨b', o', e, h1, h2, h3⟩ := h (j + k) (by omega)
  injection e with e
  injection e with e1 e2
  subst e1; subst e2
  exact ⟨_, _, rfl, h1, h2, by rw [Nat.add_assoc]; exact h3⟩
theorem IntsAt.of_row {g : Nat} {t : TypeId} (h : w.rowIs g t n (fun j => .int .i64 (F j))) (hl : lo ≤ g) : IntsAt w lo (some ⟨g, 0, none⟩) n F := fun k hk =>
  ⟨g, 0, rfl, hl, h.lt, by rw [Nat.zero_add]; exact h.cell hk⟩
end

/-- A function handed back a new slice of n numbers F. -/
def GaveInts (w : World) (n : Nat) (F : Nat → Int) (v : Value) (w' : World) : Prop :=
  ∃ A c, v = .slice A n c ∧ n ≤ c ∧ IntsAt w' w.heap.size A n F ∧ Below w.heap.size w w'

theorem GaveInts.of_row {w w' : World} {g n : Nat} {t : TypeId} {F : Nat → Int} (h : w'.rowIs g t n (fun j => .int .i64 (F j))) (hg : w.heap.size ≤ g) (hb : Below w.heap.size w w') : GaveInts w n F (.slice (some ⟨g, 0, none⟩) n n) w' :=
  ⟨_, _, rfl, Nat.le_refl _, IntsAt.of_row h hg, hb⟩

end Go.Proofs.YtcdplfjegopmdaaGreat
/- Plain functions of chapter 2: what words, decoding, remainders and versions are, on functions of the place. -/
namespace Go.Proofs.YtcdplfjegopmdaaGreat

/-- Bits of two numbers that are not below 0, at int. -/
theorem ofInt_small (a : Nat) (h : a < 2 ^ 63) : (BitVec.ofInt 64 (a : Int)).toNat = a := by
  rw [BitVec.ofInt_natCast, BitVec.toNat_ofNat]
  exact Nat.mod_eq_of_lt (by omega)
theorem wrap_small (x : Nat) (h : x < 2 ^ 63) : IntKind.i64.wrap (x : Int) = x := by
  rw [IntKind.wrap_i64]; omega
theorem andI (a b : Nat) (ha : a < 2 ^ 63) (hb : b < 2 ^ 63) : bits .and .i64 (a : Int) (b : Int) = ((a &&& b : Nat) : Int) := by
  have hx : a &&& b < 2 ^ 63 := Nat.and_lt_two_pow _ hb
  show IntKind.i64.wrap ((BitVec.ofInt 64 (a : Int) &&& BitVec.ofInt 64 (b : Int)).toNat : Int) = _
  rw [BitVec.toNat_and, ofInt_small a ha, ofInt_small b hb, wrap_small _ hx]
theorem xorI (a b : Nat) (ha : a < 2 ^ 63) (hb : b < 2 ^ 63) : bits .xor .i64 (a : Int) (b : Int) = ((a ^^^ b : Nat) : Int) := by
  have hx : a ^^^ b < 2 ^ 63 := Nat.xor_lt_two_pow ha hb
  show IntKind.i64.wrap ((BitVec.ofInt 64 (a : Int) ^^^ BitVec.ofInt 64 (b : Int)).toNat : Int) = _
  rw [BitVec.toNat_xor, ofInt_small a ha, ofInt_small b hb, wrap_small _ hx]

/-- A number is a bit. -/
def IsBit (x : Int) : Prop := x = 0 ∨ x = 1
instance (x : Int) : Decidable (IsBit x) := by unfold IsBit; exact inferInstance
theorem IsBit.le {x : Int} (h : IsBit x) : 0 ≤ x ∧ x ≤ 1 := by rcases h with h | h <;> omega
theorem isBit_iff {x : Int} : IsBit x ↔ 0 ≤ x ∧ x ≤ 1 := ⟨IsBit.le, fun h => by unfold IsBit; omega⟩

/-- The sum of two bits, modulo 2. -/
def xor1 (a b : Int) : Int := (a + b) % 2
theorem xor1_bit (a b : Int) : IsBit (xor1 a b) := by unfold xor1 IsBit; omega
theorem xor1_bits {a b : Int} (ha : IsBit a) (hb : IsBit b) : bits .xor .i64 a b = xor1 a b := by
  rcases ha with rfl | rfl <;> rcases hb with rfl | rfl <;> decide

/-- The bit j of a word, of the first i positions. -/
def wsum (U : Nat → Int) (j : Nat) : Nat → Int
  | 0 => 0
  | i + 1 => if i &&& j = j then xor1 (wsum U j i) (U i) else wsum U j i
theorem wsum_bit (U : Nat → Int) (j : Nat) : ∀ i, IsBit (wsum U j i)
  | 0 => .inl rfl
  | i + 1 => by
    unfold wsum
    split
    · exact xor1_bit _ _
    · exact wsum_bit U j i
def wordF (n : Nat) (U : Nat → Int) (j : Nat) : Int := wsum U j n
theorem wordF_bit (n : Nat) (U : Nat → Int) (j : Nat) : IsBit (wordF n U j) := wsum_bit U j n
theorem wsum_congr {U V : Nat → Int} {j : Nat} : ∀ {i : Nat}, (∀ k, k < i → U k = V k) → wsum U j i = wsum V j i
  | 0, _ => rfl
  | i + 1, h => by
    unfold wsum
    rw [wsum_congr (i := i) (fun k hk => h k (by omega)), h i (by omega)]

/-- The size of a number. -/
def sizeI (a : Int) : Int := max a (-a)
/-- The lesser size of two, with the sign of the product. -/
def lesserI (a b : Int) : Int := if decide (a < 0) = decide (b < 0) then min (sizeI a) (sizeI b) else -min (sizeI a) (sizeI b)
theorem lesserI_le {a b M : Int} (ha : -M ≤ a ∧ a ≤ M) (hb : -M ≤ b ∧ b ≤ M) : -M ≤ lesserI a b ∧ lesserI a b ≤ M := by
  unfold lesserI sizeI; split <;> omega

/-- What the second half is found from. -/
def farF (v a b : Int) : Int := if v = 1 then b - a else b + a
/-- Successive cancellation, of 2 to the power k soft bits. -/
def cancelF : Nat → (Nat → Bool) → (Nat → Int) → Nat → Int
  | 0, I, S, _ => if I 0 = true ∧ S 0 < 0 then 1 else 0
  | k + 1, I, S, j =>
    let first := cancelF k I (fun i => lesserI (S i) (S (2 ^ k + i)))
    if j < 2 ^ k then first j
    else cancelF k (fun i => I (2 ^ k + i)) (fun i => farF (wordF (2 ^ k) first i) (S i) (S (2 ^ k + i))) (j - 2 ^ k)
theorem cancelF_bit : ∀ (k : Nat) (I : Nat → Bool) (S : Nat → Int) (j : Nat), IsBit (cancelF k I S j)
  | 0, I, S, j => by unfold cancelF; split; exact .inr rfl; exact .inl rfl
  | k + 1, I, S, j => by
    unfold cancelF
    simp only
    split
    · exact cancelF_bit k _ _ _
    · exact cancelF_bit k _ _ _

/-- The remainder's register behind a further bit. -/
def remStep (d taps rest b : Nat) : Nat :=
  if (rest >>> (d - 1)) ^^^ b = 1 then ((2 * rest) % 2 ^ d) ^^^ taps else (2 * rest) % 2 ^ d
def remF (d taps : Nat) (F : Nat → Int) : Nat → Nat
  | 0 => 0
  | k + 1 => remStep d taps (remF d taps F k) (F k).toNat
theorem remStep_lt {d taps rest b : Nat} (ht : taps < 2 ^ d) : remStep d taps rest b < 2 ^ d := by
  unfold remStep
  have h : (2 * rest) % 2 ^ d < 2 ^ d := Nat.mod_lt _ (Nat.two_pow_pos d)
  split
  · exact Nat.xor_lt_two_pow h ht
  · exact h
theorem remF_lt {d taps : Nat} (F : Nat → Int) (ht : taps < 2 ^ d) : ∀ k, remF d taps F k < 2 ^ d
  | 0 => Nat.two_pow_pos d
  | _ + 1 => remStep_lt ht
/-- The bits of the remainder of n bits. -/
def remB (d taps n : Nat) (F : Nat → Int) (j : Nat) : Int := ((remF d taps F n >>> (d - 1 - j) &&& 1 : Nat) : Int)
theorem remB_bit (d taps n : Nat) (F : Nat → Int) (j : Nat) : IsBit (remB d taps n F j) := by
  unfold remB
  rw [Nat.and_one_is_mod]
  unfold IsBit; omega

/-- The place of a bit that is sent. -/
def placeN (v n k : Nat) : Nat := (v * n / 4 + k) % n
theorem placeN_lt {v n k : Nat} (hn : 0 < n) : placeN v n k < n := Nat.mod_lt _ hn
theorem placeN_zero {v n : Nat} (hv : v < 4) (hn : 0 < n) : placeN v n 0 = v * n / 4 := by
  unfold placeN
  have : v * n / 4 < n := by
    rw [Nat.div_lt_iff_lt_mul (by decide), Nat.mul_comm n 4]
    exact Nat.mul_lt_mul_of_pos_right hv hn
  rw [Nat.add_zero, Nat.mod_eq_of_lt this]
theorem placeN_succ (v n k : Nat) : placeN v n (k + 1) = (placeN v n k + 1) % n := by
  unfold placeN
  rw [Nat.mod_add_mod, Nat.add_assoc]

end Go.Proofs.YtcdplfjegopmdaaGreat
/- code: isWithin, unless, firstError, maskOf, CheckPoly, countedError. -/
namespace Go.Proofs.YtcdplfjegopmdaaGreat
open Go.RowKit

def withinB (n lo hi : Int) : Bool := decide (lo ≤ n) && decide (n ≤ hi)
theorem withinB_yes {n lo hi : Int} (h : lo ≤ n ∧ n ≤ hi) : withinB n lo hi = true := by simp [withinB, h.1, h.2]
theorem withinB_no {n lo hi : Int} (h : ¬ (lo ≤ n ∧ n ≤ hi)) : withinB n lo hi = false := by
  cases e : withinB n lo hi with
  | false => rfl
  | true => exact absurd (by simpa [withinB] using e) h

set_option maxHeartbeats 400000 in
theorem isWithin_any (n lo hi : Int) (w : World) :
    Calls Tryz.prog 63 #[.int .i64 n, .int .i64 lo, .int .i64 hi] w fun e w' => e = .returned (.bool (withinB n lo hi)) ∧ w = w' := by
  go_enter Tryz.func63, Tryz.ntmps63
  go_wp2
  · have h : lo ≤ n := by assumption
    go_ret
    exact ⟨ret_bool (by simp [withinB, h]), rfl⟩
  · have h : n < lo := by assumption
    go_ret
    exact ⟨ret_bool (by simp [withinB]; omega), rfl⟩

set_option maxHeartbeats 400000 in
theorem within_any (n lo hi : Int) (w : World) :
    Calls Tryz.prog 27 #[.int .i64 n, .int .i64 lo, .int .i64 hi] w fun e w' => e = .returned (.bool (withinB n lo hi)) ∧ w = w' := by
  go_enter Tryz.func27, Tryz.ntmps27
  go_wp2
  · have h : lo ≤ n := by assumption
    go_ret
    exact ⟨ret_bool (by simp [withinB, h]), rfl⟩
  · have h : n < lo := by assumption
    go_ret
    exact ⟨ret_bool (by simp [withinB]; omega), rfl⟩

def unI (b : Bool) (e : Int) : Int := if b = true then 0 else e
def firstE : List Int → Int
  | [] => 0
  | e :: r => if e = 0 then firstE r else e
theorem firstE_drop {es : List Int} {k : Nat} (h : ∀ j, j < k → es.getD j 0 = 0) : firstE es = firstE (es.drop k) := by
  induction k generalizing es with
  | zero => rfl
  | succ k ih =>
    cases es with
    | nil => rfl
    | cons e r =>
      have h0 : e = 0 := h 0 (by omega)
      rw [firstE, if_pos h0, List.drop_succ_cons]
      exact ih fun j hj => h (j + 1) (by omega)
theorem firstE_at {es : List Int} {k : Nat} (h : ∀ j, j < k → es.getD j 0 = 0) (hk : k < es.length) (hne : es.getD k 0 ≠ 0) : firstE es = es.getD k 0 := by
  rw [firstE_drop h, List.drop_eq_getElem_cons hk, firstE]
  have : es.getD k 0 = es[k] := by simp [hk]
  rw [this] at hne ⊢
  rw [if_neg hne]
theorem firstE_zero : ∀ {es : List Int}, (∀ e ∈ es, e = 0) → firstE es = 0
  | [], _ => rfl
  | e :: r, h => by
    rw [firstE, if_pos (h e List.mem_cons_self)]
    exact firstE_zero fun x hx => h x (List.mem_cons_of_mem _ hx)

def polyV (d t : Int) : Value := .agg #[.int .i64 d, .int .i64 t]
def polyErrI (d t : Int) : Int := if 1 ≤ d ∧ d ≤ 16 then (if 1 ≤ t ∧ t ≤ 2 ^ d.toNat - 1 then (if t % 2 = 0 then 3 else 0) else 2) else 2

theorem pow2_le (d : Nat) (h : d ≤ 16) : 1 ≤ (2 : Int) ^ d ∧ (2 : Int) ^ d ≤ 65536 := by
  have h1 : 2 ^ d ≤ 2 ^ 16 := Nat.pow_le_pow_right (by decide) h
  have h0 : 0 < 2 ^ d := Nat.two_pow_pos d
  have e : ((2 ^ d : Nat) : Int) = (2 : Int) ^ d := by simp
  omega

end Go.Proofs.YtcdplfjegopmdaaGreat
/- code: slices.IndexFunc, ContainsFunc at numbers; areBits, areWithin. -/
namespace Go.Proofs.YtcdplfjegopmdaaGreat
open Go.RowKit

def anyN (n : Nat) (p : Nat → Bool) : Bool := (List.range n).any p
theorem anyN_iff {n : Nat} {p : Nat → Bool} : anyN n p = true ↔ ∃ j, j < n ∧ p j = true := by simp [anyN]

set_option maxHeartbeats 2000000 in
theorem indexFunc_any (g : Nat) (lb : Array Value) (eg : ∀ args w, (callFunc g args).run Tryz.prog w = .ok (.enter g args) w) (p : Int → Bool) (A : Option Addr) (n c : Nat) (F : Nat → Int) (w : World)
    (hn : n ≤ 100000) (hI : IntsAt w 0 A n F) (hp : ∀ x W, Below w.heap.size w W → Calls Tryz.prog g (#[.int .i64 x] ++ lb) W fun e w' => e = .returned (.bool (p x)) ∧ ∃ q, w' = W.drewN q) :
    Calls Tryz.prog 125 #[.slice A n c, .func (.func g) #[] lb] w fun e w' => ∃ r : Int, e = .returned (.int .i64 r) ∧ (0 ≤ r ↔ ∃ j, j < n ∧ p (F j) = true) ∧ ∃ q, w' = w.drewN q := by
  have HP := hide (fun (x : Int) (q : Nat) => hp x (w.drewN q) (Go.below_drewN (Below.refl _ _) q))
  have HI := hide hI
  clear hp hI
  go_enter Tryz.func125, Tryz.ntmps125
  go_wp2
  go_loopg [8] n (fun gg s8 wr => ∃ k q : Nat, k ≤ n ∧ n - k ≤ gg ∧ s8 = .int .i64 k ∧ wr = w.drewN q ∧ Hid (∀ j, j < k → p (F j) = false))
  case atStart => exact ⟨0, 0, Nat.zero_le _, by omega, rfl, rfl, hide fun j h => absurd h (Nat.not_lt_zero _)⟩
  case round =>
    obtain ⟨k, q, hk, hg, rfl, rfl, HZ⟩ := hrel
    by_cases hlt : k < n
    · have hltz : (k : Int) < (n : Int) := by omega
      obtain ⟨b, o, rfl, -, hb, hcell⟩ := HI.out k hlt
      have hcall := HP.out (F k)
      have HF := hide (rfl : F k = F k)
      generalize hx : F k = x at hcell hcall
      have HX := hide hx
      clear hx HF
      cases hq : p x with
      | true =>
        rw [hq] at hcall
        go_wp2_with (go_at_fn g; refine (hcall _).mono ?_; rintro e w' ⟨rfl, q', rfl⟩)
        go_ret
        exact ⟨(k : Int), rfl, ⟨fun _ => ⟨k, hlt, by rw [HX.out]; exact hq⟩, fun _ => by omega⟩, _, rfl⟩
      | false =>
        rw [hq] at hcall
        go_wp2_with (go_at_fn g; refine (hcall _).mono ?_; rintro e w' ⟨rfl, q', rfl⟩)
        go_roundg (n - (k + 1))
        case measure => omega
        case rel =>
          refine ⟨k + 1, _, by omega, by omega, by go_num, rfl, hide fun j hj => ?_⟩
          rcases Nat.lt_or_ge j k with h | h
          · exact HZ.out j h
          · obtain rfl : j = k := by omega
            rw [HX.out]; exact hq
    · have hltz : ¬ (k : Int) < (n : Int) := by omega
      obtain rfl : k = n := by omega
      go_wp2
      go_ret
      exact ⟨-1, rfl, ⟨fun h => absurd h (by decide), fun ⟨j, hj, ht⟩ => by rw [HZ.out j hj] at ht; cases ht⟩, q, rfl⟩

set_option maxHeartbeats 1000000 in
theorem containsFunc_any (g : Nat) (lb : Array Value) (eg : ∀ args w, (callFunc g args).run Tryz.prog w = .ok (.enter g args) w) (p : Int → Bool) (A : Option Addr) (n c : Nat) (F : Nat → Int) (w : World)
    (hn : n ≤ 100000) (hI : IntsAt w 0 A n F) (hp : ∀ x W, Below w.heap.size w W → Calls Tryz.prog g (#[.int .i64 x] ++ lb) W fun e w' => e = .returned (.bool (p x)) ∧ ∃ q, w' = W.drewN q) :
    Calls Tryz.prog 113 #[.slice A n c, .func (.func g) #[] lb] w fun e w' => e = .returned (.bool (anyN n fun j => p (F j))) ∧ ∃ q, w' = w.drewN q := by
  have HX := hide (indexFunc_any g lb eg p A n c F w hn hI hp)
  clear hp hI
  go_enter Tryz.func113, Tryz.ntmps113
  go_wp2_with (go_at_call 125; refine HX.out.mono ?_; rintro e w' ⟨r, rfl, hr, q, rfl⟩)
  go_ret
  refine ⟨ret_bool ?_, q, rfl⟩
  rw [Bool.eq_iff_iff, anyN_iff]
  exact decide_eq_true_iff

def notBit (x : Int) : Bool := x != 0 && x != 1

set_option maxHeartbeats 400000 in
theorem areBits1_any (x : Int) (w : World) : Calls Tryz.prog 117 #[.int .i64 x] w fun e w' => e = .returned (.bool (notBit x)) ∧ ∃ q, w' = w.drewN q := by
  unfold notBit
  go_enter Tryz.func117, Tryz.ntmps117
  go_wp2
  all_goals
    go_ret
    refine ⟨ret_bool ?_, 0, rfl⟩
    simp_all

def bitsB (n : Nat) (F : Nat → Int) : Bool := !anyN n fun j => notBit (F j)
theorem bitsB_iff {n : Nat} {F : Nat → Int} : bitsB n F = true ↔ ∀ j, j < n → IsBit (F j) := by
  unfold bitsB
  rw [Bool.not_eq_true', ← Bool.not_eq_true, anyN_iff]
  constructor
  · intro h j hj
    rcases Decidable.em (IsBit (F j)) with hb | hb
    · exact hb
    · exact absurd ⟨j, hj, by unfold notBit; unfold IsBit at hb; simp; omega⟩ h
  · rintro h ⟨j, hj, hb⟩
    have := h j hj
    unfold notBit at hb
    unfold IsBit at this
    simp at hb
    omega

set_option maxHeartbeats 400000 in
theorem areBits_any (A : Option Addr) (n c : Nat) (F : Nat → Int) (w : World) (hn : n ≤ 100000) (hI : IntsAt w 0 A n F) :
    Calls Tryz.prog 93 #[.slice A n c] w fun e w' => e = .returned (.bool (bitsB n F)) ∧ ∃ q, w' = w.drewN q := by
  have HX := hide (containsFunc_any 117 #[] (enters_of Tryz.func117 (by kernel_rfl) rfl) notBit A n c F w hn hI (fun x W _ => areBits1_any x W))
  clear hI
  go_enter Tryz.func93, Tryz.ntmps93
  go_wp2_with (go_at_call 113; refine HX.out.mono ?_; rintro e w' ⟨rfl, q, rfl⟩)
  go_ret
  exact ⟨rfl, q, rfl⟩

end Go.Proofs.YtcdplfjegopmdaaGreat
/- A row of numbers that the call made: appended to. base: Ints, CopyInts, AreBits. -/
namespace Go.Proofs.YtcdplfjegopmdaaGreat
open Go.RowKit

def intCells (n : Nat) (F : Nat → Int) : List Value := (List.range n).map fun j => Value.int .i64 (F j)
theorem intCells_len (n : Nat) (F : Nat → Int) : (intCells n F).length = n := by simp [intCells]
theorem intCells_get (n : Nat) (F : Nat → Int) (j : Nat) : (intCells n F)[j]? = if j < n then some (.int .i64 (F j)) else none := by
  unfold intCells
  by_cases h : j < n <;> simp [h]
theorem intCells_congr {n : Nat} {F G : Nat → Int} (h : ∀ j, j < n → F j = G j) : intCells n F = intCells n G := by
  unfold intCells
  exact List.map_congr_left fun j hj => by rw [h j (List.mem_range.1 hj)]
/-- F, and then G. -/
def catF (n : Nat) (F G : Nat → Int) : Nat → Int := fun j => if j < n then F j else G (j - n)
theorem intCells_cat (n m : Nat) (F G : Nat → Int) : intCells n F ++ intCells m G = intCells (n + m) (catF n F G) := by
  apply List.ext_getElem?
  intro j
  rw [List.getElem?_append, intCells_len, intCells_get, intCells_get, intCells_get]
  unfold catF
  by_cases h1 : j < n
  · rw [if_pos h1, if_pos h1, if_pos (by omega), if_pos h1]
  · rw [if_neg h1]
    by_cases h2 : j - n < m
    · rw [if_pos h2, if_pos (by omega), if_neg h1]
    · rw [if_neg h2, if_neg (by omega)]

/-- A slice of the call's own, of n numbers F, in a block that is not ahead of base. -/
def OwnInts (w : World) (base : Nat) (v : Value) (n : Nat) (F : Nat → Int) : Prop := w.ownsRow base 3 1 v n (intCells n F)
theorem OwnInts.nil_ (w : World) (base : Nat) (F : Nat → Int) : OwnInts w base (.slice none 0 0) 0 F := World.ownsRow_nil _ _ _ _
theorem OwnInts.form {w : World} {base n : Nat} {v : Value} {F : Nat → Int} (h : OwnInts w base v n F) : ∃ A c, v = .slice A n c ∧ n ≤ c ∧ IntsAt w base A n F := by
  rcases h.2 with ⟨rfl, hx⟩ | ⟨g, cap, cur, rfl, hb, hg, hnc, hm, hsz, htake⟩
  · subst hx
    exact ⟨_, _, rfl, Nat.le_refl _, IntsAt.nil_⟩
  · refine ⟨_, _, rfl, hnc, fun k hk => ⟨g, 0, rfl, hb, (Array.getElem?_eq_some_iff.1 hg).1, ?_⟩⟩
    have := World.ownsRow.cells h (g := g) rfl k (Value.int .i64 (F k)) (by rw [intCells_get, if_pos hk])
    rw [Addr.add_lit] at this
    exact this
theorem OwnInts.drew {w : World} {base n : Nat} {v : Value} {F : Nat → Int} (h : OwnInts w base v n F) : OwnInts w.drew base v n F := h
theorem OwnInts.drewN {w : World} {base n : Nat} {v : Value} {F : Nat → Int} (h : OwnInts w base v n F) (q : Nat) : OwnInts (w.drewN q) base v n F := h
theorem OwnInts.alloc {w : World} {base n : Nat} {v : Value} {F : Nat → Int} (h : OwnInts w base v n F) (o : Obj) : OwnInts (w.alloc o) base v n F := World.ownsRow.alloc h o
theorem OwnInts.below {w w' : World} {base n : Nat} {v : Value} {F : Nat → Int} (h : OwnInts w base v n F) (hb : Below w.heap.size w w') : OwnInts w' base v n F :=
  World.ownsRow.kept h (row := none) ⟨hb.os, hb.tape, hb.output, hb.size, fun k hk _ => hb.block k hk⟩ (by cases v.ownBlock <;> simp)
theorem OwnInts.congr {w : World} {base n : Nat} {v : Value} {F G : Nat → Int} (h : OwnInts w base v n F) (e : ∀ j, j < n → F j = G j) : OwnInts w base v n G := by
  unfold OwnInts at h ⊢
  rwa [← intCells_congr e]
theorem OwnInts.gave {w w' : World} {n : Nat} {v : Value} {F : Nat → Int} (h : OwnInts w' w.heap.size v n F) (hb : Below w.heap.size w w') : GaveInts w n F v w' := by
  obtain ⟨A, c, rfl, hc, hI⟩ := h.form
  exact ⟨A, c, rfl, hc, hI, hb⟩

theorem intInfo : (Tryz.prog.info? 3).map (fun i => (i.zero, i.size, i.bytes)) = some (some (.int .i64 0), 1, 8) := by kernel_rfl

set_option maxRecDepth 100000 in
theorem run_append_ints (w : World) (ty : TypeId) (base lo : Nat) (v : Value) (n : Nat) (F : Nat → Int) (hown : OwnInts w base v n F)
    (A : Option Addr) (m c : Nat) (G : Nat → Int) (hr : IntsAt w lo A m G) (hnm : n + m ≤ 1000000000) (hbase : base ≤ w.heap.size) :
    ∃ v' w', (Builtin.append_ #[24, 24] ty #[v, .slice A m c]).run Tryz.prog w = .ok v' w' ∧ OwnInts w' base v' (n + m) (catF n F G) ∧ Below base w w' := by
  obtain ⟨i0, hi, hz0, hz1, hz2⟩ := info_parts intInfo
  cases A with
  | none =>
    have hm : m = 0 := by
      rcases Nat.eq_zero_or_pos m with h0 | h0
      · exact h0
      · obtain ⟨b, o, e, -⟩ := hr 0 h0
        cases e
    subst hm
    have hrun : (Builtin.append_ #[24, 24] ty #[v, .slice none 0 c]).run Tryz.prog w = .ok v w := by
      rcases hown.2 with ⟨rfl, -⟩ | ⟨g, cap, cur, rfl, -, -, hnc, -⟩
      · simp [Builtin.append_, run_underlying Tryz.underlying24, sizeOf, typeInfo, hi, Builtin.lenOf, Builtin.firstCells]
      · simp [Builtin.append_, run_underlying Tryz.underlying24, sizeOf, typeInfo, hi, Builtin.lenOf, Builtin.firstCells, hnc, storeCells]
    exact ⟨v, w, hrun, OwnInts.congr (F := F) hown fun j hj => by unfold catF; rw [if_pos (show j < n by omega)], Below.refl _ _⟩
  | some ad =>
    obtain ⟨v', w', hrun, hown', hg, -, -⟩ := run_append_own_at (P := Tryz.prog) w base 24 ty 3 i0 (.int .i64 0) 1 8 Tryz.underlying24 hi hz0 hz1 hz2 rfl (by decide) v n _ hown ad m c (intCells m G) (by rw [intCells_len, Nat.mul_one])
      (fun j u hu => by
        rw [intCells_get] at hu
        split at hu
        · rename_i hj
          obtain ⟨b, o, e, -, -, hc⟩ := hr j hj
          injection e with e
          subst e
          injection hu with hu
          subst hu
          rw [Addr.add_lit]
          exact hc
        · cases hu)
      (fun u hu => by
        obtain ⟨j, -, rfl⟩ := List.mem_map.1 hu
        rfl) (by unfold maxLen; omega) (by omega) hbase
    rw [intCells_cat] at hown'
    exact ⟨v', w', hrun, hown', (Below.refl _ _).grown hg hbase (fun k hk => (World.ownsRow.lt hown k hk).1)⟩

theorem wp_append_ints {o : Oper} {a : Act} {K : Act → World → Prop} {Q : Exit → Act → World → Prop} (w : World) (s x : Operand)
    (ho : o.op = .call { callee := .builtin .append, args := #[s, x], argTypes := #[24, 24] })
    (base lo : Nat) (v : Value) (n : Nat) (F : Nat → Int) (hs : a.eval s = v) (hown : OwnInts w base v n F)
    (A : Option Addr) (m c : Nat) (G : Nat → Int) (hx : a.eval x = .slice A m c) (hr : IntsAt w lo A m G) (hnm : n + m ≤ 1000000000) (hbase : base ≤ w.heap.size)
    (h : ∀ v' w', OwnInts w' base v' (n + m) (catF n F G) → Below base w w' → K (a.put o.dst v') w') : o.wp Tryz.prog a w K Q := by
  obtain ⟨v', w', hrun, h1, h2⟩ := run_append_ints w o.type base lo v n F hown A m c G hr hnm hbase
  unfold Oper.wp execOp
  simp only [ho, resolve, invoke, builtin, Sem.run_bind, Sem.run_pure, Result.andThen_ok, List.map_toArray, List.map_cons, List.map_nil, hs, hx, hrun]
  exact h v' w' h1 h2

theorem wpList_append_ints {ops : Array Oper} {rest : List Oper} {o : Oper} {a : Act} {Q : Exit → Act → World → Prop} (w : World) (hgd : o.guard = none) (s x : Operand)
    (ho : o.op = .call { callee := .builtin .append, args := #[s, x], argTypes := #[24, 24] })
    (base lo : Nat) (v : Value) (n : Nat) (F : Nat → Int) (hs : a.eval s = v) (hown : OwnInts w base v n F)
    (A : Option Addr) (m c : Nat) (G : Nat → Int) (hx : a.eval x = .slice A m c) (hr : IntsAt w lo A m G) (hnm : n + m ≤ 1000000000) (hbase : base ≤ w.heap.size)
    (h : ∀ v' w', OwnInts w' base v' (n + m) (catF n F G) → Below base w w' → wpList Tryz.prog ops Q rest (a.put o.dst v') w') : wpList Tryz.prog ops Q (o :: rest) a w :=
  wpList_plain hgd fun _ hK => wp_append_ints w s x ho base lo v n F hs hown A m c G hx hr hnm hbase fun v' w' h1 h2 => hK _ _ (h v' w' h1 h2)

theorem step_append_ints {ops : Array Oper} {o : Oper} {a : Act} {K : Act → World → Prop} {Q : Exit → Act → World → Prop} {E : Prop} (w : World) (hgd : o.guard = none) (s x : Operand)
    (ho : o.op = .call { callee := .builtin .append, args := #[s, x], argTypes := #[24, 24] })
    (base lo : Nat) (v : Value) (n : Nat) (F : Nat → Int) (hs : a.eval s = v) (hown : OwnInts w base v n F)
    (A : Option Addr) (m c : Nat) (G : Nat → Int) (hx : a.eval x = .slice A m c) (hr : IntsAt w lo A m G) (hnm : n + m ≤ 1000000000) (hbase : base ≤ w.heap.size)
    (h : ∀ v' w', OwnInts w' base v' (n + m) (catF n F G) → Below base w w' → K (a.put o.dst v') w') :
    if Region.wanted o (yielded ops a.tmps) = true then Oper.wp Tryz.prog o a w K Q else E := by
  have hw : Region.wanted o (yielded ops a.tmps) = true := by simp [Region.wanted, hgd]
  rw [if_pos hw]
  exact wp_append_ints w s x ho base lo v n F hs hown A m c G hx hr hnm hbase h

/-- One new number behind a new block of one cell. -/
theorem IntsAt.one (w : World) (lo : Nat) (x : Int) (t : TypeId) (h : lo ≤ w.heap.size) : IntsAt (w.alloc (.cells #[.int .i64 x] t)) lo (some ⟨w.heap.size, 0, none⟩) 1 (fun _ => x) := fun k hk => by
  have hb : Box (w.alloc (.cells #[.int .i64 x] t)) w.heap.size t #[.int .i64 x] := Box.made rfl
  obtain rfl : k = 0 := by omega
  exact ⟨_, _, rfl, h, hb.lt, hb.at_ 0⟩

def intsB (n : Nat) (F : Nat → Int) (m : Nat) (G : Nat → Int) : Bool := n == m && (List.range n).all fun k => F k == G k
theorem intsB_iff {n m : Nat} {F G : Nat → Int} : intsB n F m G = true ↔ n = m ∧ ∀ k, k < n → F k = G k := by simp [intsB]

set_option maxHeartbeats 1000000 in
theorem ints_any (A C : Option Addr) (n m c d : Nat) (F G : Nat → Int) (w : World) (hn : n ≤ 100000) (hm : m ≤ 100000) (hF : IntsAt w 0 A n F) (hG : IntsAt w 0 C m G) :
    Calls Tryz.prog 39 #[.slice A n c, .slice C m d] w fun e w' => e = .returned (.bool (intsB n F m G)) ∧ ∃ q, w' = w.drewN q := by
  by_cases hnm : n = m
  · subst hnm
    have HF := hide hF
    have HG := hide hG
    clear hF hG
    go_enter Tryz.func39, Tryz.ntmps39
    go_wp2
    go_loopw [5] (fun i wr => ∃ k q : Nat, k ≤ n ∧ i = .int .i64 k ∧ wr = w.drewN q ∧ Hid (∀ j, j < k → F j = G j)) (fun i _ => n - (Go.RowKit.intOf i).toNat)
    case atStart => exact ⟨0, 0, Nat.zero_le _, rfl, rfl, hide fun j h => absurd h (Nat.not_lt_zero _)⟩
    case round =>
      obtain ⟨k, q, hk, rfl, rfl, HZ⟩ := hrel
      by_cases hlt : k < n
      · obtain ⟨b, o, rfl, -, hb, hcell⟩ := HF.out k hlt
        obtain ⟨b', o', rfl, -, hb', hcell'⟩ := HG.out k hlt
        have hltz : (k : Int) < (n : Int) := by omega
        by_cases he : F k = G k
        · have HE := hide he
          rw [he] at hcell
          clear he
          go_wp2
          go_quiet (fail)
          go_wp2
          go_roundw
          case rel =>
            exact ⟨k + 1, _, by omega, by go_num, rfl, hide fun j hj => by
              rcases Nat.lt_or_ge j k with h | h
              · exact HZ.out j h
              · obtain rfl : j = k := by omega
                exact HE.out⟩
          case measure => simp [Go.RowKit.intOf]; omega
        · have he' : (F k != G k) = true := by simpa using he
          have HE := hide (show intsB n F n G = false from by
            rw [← Bool.not_eq_true, intsB_iff]
            exact fun h => he (h.2 k hlt))
          clear he
          go_wp2
          go_quiet (fail)
          go_wp2
          go_ret
          exact ⟨ret_bool HE.out.symm, _, World.drewN_drewN _ _ _⟩
      · obtain rfl : k = n := by omega
        go_wp2
        go_ret
        exact ⟨ret_bool (Eq.symm (intsB_iff.2 ⟨rfl, HZ.out⟩)), _, rfl⟩
  · have he' : ((n : Int) != (m : Int)) = true := by simp; omega
    have HE := hide (show intsB n F m G = false from by
      rw [← Bool.not_eq_true, intsB_iff]
      exact fun h => hnm h.1)
    clear hnm hF hG
    go_enter Tryz.func39, Tryz.ntmps39
    go_wp2
    go_ret
    exact ⟨ret_bool HE.out.symm, 0, rfl⟩

end Go.Proofs.YtcdplfjegopmdaaGreat
/- Cb of chapter 02, in a namespace of its own. -/
namespace Go.Proofs.YtcdplfjegopmdaaGreat.K
open Go.RowKit
set_option maxHeartbeats 400000 in
theorem isWithin_any (n lo hi : Int) (w : World) :
    Calls Tryz.prog 88 #[.int .i64 n, .int .i64 lo, .int .i64 hi] w fun e w' => e = .returned (.bool (withinB n lo hi)) ∧ w = w' := by
  go_enter Tryz.func88, Tryz.ntmps88
  go_wp2
  · have h : lo ≤ n := by assumption
    go_ret
    exact ⟨ret_bool (by simp [withinB, h]), rfl⟩
  · have h : n < lo := by assumption
    go_ret
    exact ⟨ret_bool (by simp [withinB]; omega), rfl⟩

set_option maxHeartbeats 400000 in
theorem unless_any (b : Bool) (e : Int) (w : World) :
    Calls Tryz.prog 49 #[.bool b, .int .i64 e] w fun x w' => x = .returned (.int .i64 (unI b e)) ∧ w = w' := by
  cases b
  all_goals
    go_enter Tryz.func49, Tryz.ntmps49
    go_wp2
    go_ret
    exact ⟨rfl, rfl⟩

set_option maxHeartbeats 400000 in
theorem firstError_any (b c : Nat) (es : List Int) (n : Nat) (w : World) (hn : es.length = n) (h9 : n ≤ 100) (hc : ∀ j, j < es.length → w.cell? ⟨b, j, none⟩ = some (.int .i64 (es.getD j 0))) :
    Calls Tryz.prog 46 #[.slice (some ⟨b, 0, none⟩) n c] w fun x w' => x = .returned (.int .i64 (firstE es)) ∧ w = w' := by
  subst hn
  have h9' : (es.length : Int) ≤ 100 := by omega
  have HC := hide hc
  clear hc
  go_enter Tryz.func46, Tryz.ntmps46
  go_wp2_with fail
  go_loop [7] (fun i => ∃ k : Nat, k ≤ es.length ∧ i = .int .i64 k ∧ ∀ j, j < k → es.getD j 0 = 0) (fun i => es.length - (Go.RowKit.intOf i).toNat)
  case atStart => exact ⟨0, Nat.zero_le _, rfl, fun j h => absurd h (Nat.not_lt_zero _)⟩
  case round =>
    obtain ⟨k, hk, rfl, hz⟩ := hrel
    have HZ := hide hz
    clear hz
    by_cases hlt : k < es.length
    · have hcell := HC.out k hlt
      by_cases he : es.getD k 0 = 0
      · have HE := hide he
        rw [he] at hcell
        clear he
        go_wp2
        go_round
        case rel =>
          exact ⟨k + 1, by omega, by go_num, fun j hj => by
            rcases Nat.lt_or_ge j k with h | h
            · exact HZ.out j h
            · obtain rfl : j = k := by omega
              exact HE.out⟩
        case measure => simp [Go.RowKit.intOf]; omega
      · have HE := hide (firstE_at HZ.out hlt he)
        have he' : (es.getD k 0 != 0) = true := by simpa using he
        generalize es.getD k 0 = x at *
        clear he
        go_wp2
        go_ret
        exact ⟨ret_int HE.out.symm, rfl⟩
    · obtain rfl : k = es.length := by omega
      have HE := hide (show firstE es = 0 from firstE_zero fun e he => by
        obtain ⟨j, hj, rfl⟩ := List.getElem_of_mem he
        have := HZ.out j hj
        simpa [hj] using this)
      go_wp2
      go_ret
      exact ⟨ret_int HE.out.symm, rfl⟩

theorem firstError_laid (es : List Int) (n : Nat) (t : TypeId) (W : World) (hn : es.length = n) (h9 : n ≤ 100) :
    Calls Tryz.prog 46 #[.slice (some ⟨W.heap.size, 0, none⟩) n n] (W.alloc (.cells (es.map (Value.int .i64)).toArray t)) fun x w' => x = .returned (.int .i64 (firstE es)) ∧ W.alloc (.cells (es.map (Value.int .i64)).toArray t) = w' :=
  firstError_any W.heap.size n es n _ hn h9 fun j hj => by
    have hb : Box (W.alloc (.cells (es.map (Value.int .i64)).toArray t)) W.heap.size t (es.map (Value.int .i64)).toArray := Box.made rfl
    have := hb.at_ j
    rw [this, List.getElem?_toArray, List.getElem?_map, List.getElem?_eq_getElem hj]
    simp [hj]

set_option maxHeartbeats 400000 in
theorem maskOf_any (d : Nat) (t : Int) (w : World) (h : d ≤ 16) :
    Calls Tryz.prog 112 #[.agg #[.int .i64 (d : Int), .int .i64 t]] w fun e w' => e = .returned (.int .i64 (2 ^ d - 1)) ∧ Below w.heap.size w w' := by
  obtain ⟨h1, h2⟩ := pow2_le d h
  go_enter Tryz.func112, Tryz.ntmps112
  go_wp2
  go_ret
  exact ⟨rfl, by (repeat (first | (with_reducible exact Below.refl _ _) | (with_reducible refine Go.below_drewN ?_ _) | (with_reducible refine Below.drew ?_) | (with_reducible refine Below.alloc ?_ (by first | exact Nat.le_refl _ | (simp; done) | (simp; omega) | omega) _) | (with_reducible refine Below.setCell ?_ (by first | exact Nat.le_refl _ | (simp; done) | (simp; omega) | omega) _)))⟩

end Go.Proofs.YtcdplfjegopmdaaGreat.K
/- Cc of chapter 02, in a namespace of its own. -/
namespace Go.Proofs.YtcdplfjegopmdaaGreat.K
open Go.RowKit
set_option maxHeartbeats 400000 in
theorem areBits1_any (x : Int) (w : World) : Calls Tryz.prog 114 #[.int .i64 x] w fun e w' => e = .returned (.bool (notBit x)) ∧ ∃ q, w' = w.drewN q := by
  unfold notBit
  go_enter Tryz.func114, Tryz.ntmps114
  go_wp2
  all_goals
    go_ret
    refine ⟨ret_bool ?_, 0, rfl⟩
    simp_all

set_option maxHeartbeats 400000 in
theorem areBits_any (A : Option Addr) (n c : Nat) (F : Nat → Int) (w : World) (hn : n ≤ 100000) (hI : IntsAt w 0 A n F) :
    Calls Tryz.prog 87 #[.slice A n c] w fun e w' => e = .returned (.bool (bitsB n F)) ∧ ∃ q, w' = w.drewN q := by
  have HX := hide (containsFunc_any 114 #[] (enters_of Tryz.func114 (by kernel_rfl) rfl) notBit A n c F w hn hI (fun x W _ => areBits1_any x W))
  clear hI
  go_enter Tryz.func87, Tryz.ntmps87
  go_wp2_with (go_at_call 113; refine HX.out.mono ?_; rintro e w' ⟨rfl, q, rfl⟩)
  go_ret
  exact ⟨rfl, q, rfl⟩

end Go.Proofs.YtcdplfjegopmdaaGreat.K
