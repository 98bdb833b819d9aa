/- Lemmas: H0, Sa, H1. -/
import Derived.Shelf.Abstract
import Derived.Laws.MakeOwn
import Derived.Test.YtcndeegfkgfnkaaBy03
import Derived.Test.YtcndeegfkgfnkaaBy04
import Derived.Test.YtcndeegfkgfnkaaBy06
import Derived.Test.YtcndeegfkgfnkaaBy10
set_option linter.unusedVariables false
set_option linter.unusedSimpArgs false
/- Lists of lists of numbers: read, made by appending (the part of Ma of chapter 2 that needs no polynomials). -/
namespace Go.Proofs.Ytcndeegfkgfnkaa
open Go.RowKit Go.Shelf
/-- A slice of n slices; the slice i has L i numbers F i. -/
def ListsAt (w : World) (lo : Nat) (A : Option Addr) (n : Nat) (L : Nat → Nat) (F : Nat → Nat → Int) : Prop :=
  ∀ i, i < n → ∃ b o Ai ci, A = some ⟨b, o, none⟩ ∧ lo ≤ b ∧ b < w.heap.size ∧ w.cell? ⟨b, o + i, none⟩ = some (.slice Ai (L i) ci) ∧ L i ≤ ci ∧ ci ≤ 9223372036854775807 ∧ IntsAt w lo Ai (L i) (F i)
section
variable {w w' : World} {lo n : Nat} {A : Option Addr} {L : Nat → Nat} {F : Nat → Nat → Int}
theorem ListsAt.nil_ : ListsAt w lo A 0 L F := fun i h => absurd h (Nat.not_lt_zero i)
theorem ListsAt.below (h : ListsAt w lo A n L F) (hb : Below w.heap.size w w') : ListsAt w' lo A n L F := fun i hi => by
  obtain ⟨b, o, Ai, ci, e, h1, h2, h3, h4, h5, h6⟩ := h i hi
  exact ⟨b, o, Ai, ci, e, h1, Nat.lt_of_lt_of_le h2 hb.size, (hb.cell (p := ⟨b, o + i, none⟩) h2).trans h3, h4, h5, h6.below hb⟩
theorem ListsAt.alloc (h : ListsAt w lo A n L F) (x : Obj) : ListsAt (w.alloc x) lo A n L F := h.below ((Below.refl _ _).alloc (Nat.le_refl _) _)
theorem ListsAt.drewN (h : ListsAt w lo A n L F) (m : Nat) : ListsAt (w.drewN m) lo A n L F := h
theorem ListsAt.weak {lo' : Nat} (h : ListsAt w lo A n L F) (hl : lo' ≤ lo) : ListsAt w lo' A n L F := fun i hi => by
  obtain ⟨b, o, Ai, ci, e, h1, h2, h3, h4, h5, h6⟩ := h i hi
  exact ⟨b, o, Ai, ci, e, Nat.le_trans hl h1, h2, h3, h4, h5, h6.weak hl⟩
theorem IntsAt.block {b o k : Nat} {G : Nat → Int} (h : IntsAt w lo (some ⟨b, o, none⟩) n G) (hk : k < n) : lo ≤ b ∧ b < w.heap.size := by
  obtain ⟨b', o', e, h1, h2, -⟩ := h k hk
  injection e with e; injection e with e1 e2; subst e1
  exact ⟨h1, h2⟩
end
theorem OwnInts.block {w : World} {base n c b o : Nat} {m : Option Nat} {F : Nat → Int} (h : OwnInts w base (.slice (some ⟨b, o, none⟩) n c) n F) : base ≤ b ∧ b < w.heap.size := by
  rcases h.2 with ⟨h1, -⟩ | ⟨g, cap, cur, h1, hb, hg, -⟩
  · simp at h1
  · injection h1 with e1; injection e1 with e1; injection e1 with e1; subst e1
    exact ⟨hb, (Array.getElem?_eq_some_iff.1 hg).1⟩
/-- A slice of slices of the call's own: its row, and rows of numbers in other blocks. -/
def OwnLists (w : World) (base : Nat) (v : Value) (n : Nat) (L : Nat → Nat) (F : Nat → Nat → Int) : Prop :=
  ∃ xs : List Value, w.ownsRow base 22 1 v n xs ∧ ∀ i, i < n → ∃ Ai ci, xs[i]? = some (.slice Ai (L i) ci) ∧ L i ≤ ci ∧ ci ≤ 9223372036854775807 ∧ IntsAt w base Ai (L i) (F i) ∧ ∀ b o, Ai = some ⟨b, o, none⟩ → v.ownBlock ≠ some b ∧ b < w.heap.size
section
variable {w w' : World} {base n : Nat} {v : Value} {L : Nat → Nat} {F : Nat → Nat → Int}
theorem OwnLists.nil_ (w : World) (base : Nat) (L : Nat → Nat) (F : Nat → Nat → Int) : OwnLists w base (.slice none 0 0) 0 L F := ⟨[], World.ownsRow_nil _ _ _ _, fun i h => absurd h (Nat.not_lt_zero i)⟩
theorem OwnLists.below (h : OwnLists w base v n L F) (hb : Below w.heap.size w w') : OwnLists w' base v n L F := by
  obtain ⟨xs, h1, h2⟩ := h
  refine ⟨xs, World.ownsRow.kept h1 (row := none) ⟨hb.os, hb.tape, hb.output, hb.size, fun k hk _ => hb.block k hk⟩ (by cases v.ownBlock <;> simp), fun i hi => ?_⟩
  obtain ⟨Ai, ci, e, h3, h4, h5, h6⟩ := h2 i hi
  exact ⟨Ai, ci, e, h3, h4, h5.below hb, fun b o e => ⟨(h6 b o e).1, Nat.lt_of_lt_of_le (h6 b o e).2 hb.size⟩⟩
theorem OwnLists.alloc (h : OwnLists w base v n L F) (o : Obj) : OwnLists (w.alloc o) base v n L F := h.below ((Below.refl _ _).alloc (Nat.le_refl _) _)
theorem OwnLists.drew (h : OwnLists w base v n L F) : OwnLists w.drew base v n L F := h
theorem OwnLists.drewN (h : OwnLists w base v n L F) (q : Nat) : OwnLists (w.drewN q) base v n L F := h
theorem OwnLists.congr {L' : Nat → Nat} {F' : Nat → Nat → Int} (h : OwnLists w base v n L F) (e : ∀ i, i < n → L i = L' i ∧ ∀ k, k < L i → F i k = F' i k) : OwnLists w base v n L' F' := by
  obtain ⟨xs, h1, h2⟩ := h
  refine ⟨xs, h1, fun i hi => ?_⟩
  obtain ⟨Ai, ci, g, h3, h4, h5, h6⟩ := h2 i hi
  obtain ⟨e1, e2⟩ := e i hi
  exact ⟨Ai, ci, by rw [← e1]; exact g, by omega, h4, by rw [← e1]; exact h5.congr e2, h6⟩
theorem OwnLists.form (h : OwnLists w base v n L F) : ∃ A c, v = .slice A n c ∧ n ≤ c ∧ c ≤ 9223372036854775807 ∧ ListsAt w base A n L F := by
  obtain ⟨xs, h1, h2⟩ := h
  have hm9 : maxLen ≤ 9223372036854775807 := by decide
  rcases h1.2 with ⟨rfl, rfl⟩ | ⟨g, cap, cur, rfl, hb, hg, hnc, hm, -⟩
  · exact ⟨_, _, rfl, Nat.le_refl _, by decide, ListsAt.nil_⟩
  · refine ⟨_, _, rfl, hnc, by omega, fun i hi => ?_⟩
    obtain ⟨Ai, ci, e, h3, h4, h5, h6⟩ := h2 i hi
    have hc := World.ownsRow.cells h1 (g := g) rfl i _ e
    rw [Addr.add_lit] at hc
    exact ⟨g, 0, Ai, ci, rfl, hb, (Array.getElem?_eq_some_iff.1 hg).1, hc, h3, h4, h5⟩
theorem OwnLists.lt (h : OwnLists w base v n L F) {k : Nat} (hk : v.ownBlock = some k) : base ≤ k ∧ k < w.heap.size := by
  obtain ⟨xs, h1, -⟩ := h
  exact World.ownsRow.lt h1 k hk
end
theorem IntsAt.grown {w w' : World} {lo n : Nat} {A : Option Addr} {G : Nat → Int} {row : Option Nat} (h : IntsAt w lo A n G) (hg : w.grownBy w' row) (ha : ∀ b o, A = some ⟨b, o, none⟩ → row ≠ some b) : IntsAt w' lo A n G := fun k hk => by
  obtain ⟨b, o, e, h1, h2, h3⟩ := h k hk
  exact ⟨b, o, e, h1, Nat.lt_of_lt_of_le h2 hg.size, (World.cell?_of_block (a := ⟨b, o + k, none⟩) (hg.block b h2 (fun x => ha b o e x.symm))).trans h3⟩
def snocN (n : Nat) (L : Nat → Nat) (m : Nat) (i : Nat) : Nat := if i < n then L i else m
def snocF (n : Nat) (F : Nat → Nat → Int) (G : Nat → Int) (i : Nat) : Nat → Int := if i < n then F i else G
theorem listInfo : (Try.prog.info? 22).map (fun i => (i.zero, i.size, i.bytes)) = some (some (.slice none 0 0), 1, 24) := by kernel_rfl
set_option maxRecDepth 100000 in
theorem run_append_list (w : World) (ty : TypeId) (base : Nat) (v : Value) (n : Nat) (L : Nat → Nat) (F : Nat → Nat → Int) (hown : OwnLists w base v n L F)
    (g1 : Nat) (A : Option Addr) (m c : Nat) (G : Nat → Int) (hc : w.cell? ⟨g1, 0, none⟩ = some (.slice A m c)) (hmc : m ≤ c) (hc9 : c ≤ 9223372036854775807) (hr : IntsAt w base A m G) (ha : ∀ b o, A = some ⟨b, o, none⟩ → v.ownBlock ≠ some b ∧ b < w.heap.size) (hn : n ≤ 1000000) (hbase : base ≤ w.heap.size) :
    ∃ v' w', (Builtin.append_ #[62, 62] ty #[v, .slice (some ⟨g1, 0, none⟩) 1 1]).run Try.prog w = .ok v' w' ∧ OwnLists w' base v' (n + 1) (snocN n L m) (snocF n F G) ∧ Below base w w' ∧ w.grownBy w' v.ownBlock := by
  obtain ⟨i0, hi, hz0, hz1, hz2⟩ := info_parts listInfo
  obtain ⟨xs, h1, h2⟩ := hown
  have hlen : xs.length = n := by rw [h1.1, Nat.mul_one]
  obtain ⟨v', w', hrun, hown', hg, -, hblk⟩ := run_append_own_at (P := Try.prog) w base 62 ty 22 i0 (.slice none 0 0) 1 24 Try.underlying62 hi hz0 hz1 hz2 rfl (by decide) v n xs h1 ⟨g1, 0, none⟩ 1 1 [.slice A m c] rfl
    (fun j u hu => by
      match j, hu with
      | 0, hu =>
        simp at hu
        subst hu
        exact hc
      | j + 1, hu => simp at hu)
    (fun u hu => by
      simp at hu
      subst hu
      rfl) (by unfold maxLen; omega) (by omega) hbase
  have hb : Below base w w' := (Below.refl _ _).grown hg hbase (fun k hk => (World.ownsRow.lt h1 k hk).1)
  refine ⟨v', w', hrun, ⟨_, hown', fun i hi => ?_⟩, hb, hg⟩
  have apart : ∀ (B : Option Addr), (∀ b o, B = some ⟨b, o, none⟩ → v.ownBlock ≠ some b ∧ b < w.heap.size) → ∀ b o, B = some ⟨b, o, none⟩ → v'.ownBlock ≠ some b ∧ b < w'.heap.size := fun B hB b o e => by
    obtain ⟨x1, x2⟩ := hB b o e
    refine ⟨?_, Nat.lt_of_lt_of_le x2 hg.size⟩
    rcases hblk with y | y
    · rw [y]; exact x1
    · rw [y]; intro z; injection z with z; omega
  by_cases hin : i < n
  · obtain ⟨Ai, ci, e, h3, h4, h5, h6⟩ := h2 i hin
    unfold snocN snocF
    rw [if_pos hin, if_pos hin]
    exact ⟨Ai, ci, by rw [List.getElem?_append_left (by omega)]; exact e, h3, h4, h5.grown hg (fun b o e => (h6 b o e).1), apart Ai h6⟩
  · have hi' : i = n := by omega
    unfold snocN snocF
    rw [if_neg hin, if_neg hin]
    refine ⟨A, c, ?_, hmc, hc9, hr.grown hg (fun b o e => (ha b o e).1), apart A ha⟩
    rw [List.getElem?_append_right (by omega), hlen, hi', Nat.sub_self]
    rfl
theorem wp_append_list {o : Oper} {a : Act} {K : Act → World → Prop} {Q : Exit → Act → World → Prop} (w : World) (s x : Operand)
    (ho : o.op = .call { callee := .builtin .append, args := #[s, x], argTypes := #[62, 62] })
    (base : Nat) (v : Value) (n : Nat) (L : Nat → Nat) (F : Nat → Nat → Int) (hs : a.eval s = v) (hown : OwnLists w base v n L F)
    (g1 : Nat) (A : Option Addr) (m c : Nat) (G : Nat → Int) (hx : a.eval x = .slice (some ⟨g1, 0, none⟩) 1 1) (hc : w.cell? ⟨g1, 0, none⟩ = some (.slice A m c)) (hmc : m ≤ c) (hc9 : c ≤ 9223372036854775807) (hr : IntsAt w base A m G) (ha : ∀ b o, A = some ⟨b, o, none⟩ → v.ownBlock ≠ some b ∧ b < w.heap.size) (hn : n ≤ 1000000) (hbase : base ≤ w.heap.size)
    (h : ∀ v' w', OwnLists w' base v' (n + 1) (snocN n L m) (snocF n F G) → Below base w w' → K (a.put o.dst v') w') : o.wp Try.prog a w K Q := by
  obtain ⟨v', w', hrun, h1, h2, -⟩ := run_append_list w o.type base v n L F hown g1 A m c G hc hmc hc9 hr ha hn hbase
  unfold Oper.wp execOp
  simp only [ho, resolve, invoke, builtin, Sem.run_bind, Sem.run_pure, Result.andThen_ok, List.map_toArray, List.map_cons, List.map_nil, hs, hx, hrun]
  exact h v' w' h1 h2
theorem wpList_append_list {ops : Array Oper} {rest : List Oper} {o : Oper} {a : Act} {Q : Exit → Act → World → Prop} (w : World) (hgd : o.guard = none) (s x : Operand)
    (ho : o.op = .call { callee := .builtin .append, args := #[s, x], argTypes := #[62, 62] })
    (base : Nat) (v : Value) (n : Nat) (L : Nat → Nat) (F : Nat → Nat → Int) (hs : a.eval s = v) (hown : OwnLists w base v n L F)
    (g1 : Nat) (A : Option Addr) (m c : Nat) (G : Nat → Int) (hx : a.eval x = .slice (some ⟨g1, 0, none⟩) 1 1) (hc : w.cell? ⟨g1, 0, none⟩ = some (.slice A m c)) (hmc : m ≤ c) (hc9 : c ≤ 9223372036854775807) (hr : IntsAt w base A m G) (ha : ∀ b o, A = some ⟨b, o, none⟩ → v.ownBlock ≠ some b ∧ b < w.heap.size) (hn : n ≤ 1000000) (hbase : base ≤ w.heap.size)
    (h : ∀ v' w', OwnLists w' base v' (n + 1) (snocN n L m) (snocF n F G) → Below base w w' → wpList Try.prog ops Q rest (a.put o.dst v') w') : wpList Try.prog ops Q (o :: rest) a w :=
  wpList_plain hgd fun _ hK => wp_append_list w s x ho base v n L F hs hown g1 A m c G hx hc hmc hc9 hr ha hn hbase fun v' w' h1 h2 => hK _ _ (h v' w' h1 h2)
theorem step_append_list {ops : Array Oper} {o : Oper} {a : Act} {K : Act → World → Prop} {Q : Exit → Act → World → Prop} {E : Prop} (w : World) (hgd : o.guard = none) (s x : Operand)
    (ho : o.op = .call { callee := .builtin .append, args := #[s, x], argTypes := #[62, 62] })
    (base : Nat) (v : Value) (n : Nat) (L : Nat → Nat) (F : Nat → Nat → Int) (hs : a.eval s = v) (hown : OwnLists w base v n L F)
    (g1 : Nat) (A : Option Addr) (m c : Nat) (G : Nat → Int) (hx : a.eval x = .slice (some ⟨g1, 0, none⟩) 1 1) (hc : w.cell? ⟨g1, 0, none⟩ = some (.slice A m c)) (hmc : m ≤ c) (hc9 : c ≤ 9223372036854775807) (hr : IntsAt w base A m G) (ha : ∀ b o, A = some ⟨b, o, none⟩ → v.ownBlock ≠ some b ∧ b < w.heap.size) (hn : n ≤ 1000000) (hbase : base ≤ w.heap.size)
    (h : ∀ v' w', OwnLists w' base v' (n + 1) (snocN n L m) (snocF n F G) → Below base w w' → K (a.put o.dst v') w') :
    if Region.wanted o (yielded ops a.tmps) = true then Oper.wp Try.prog o a w K Q else E := by
  have hw : Region.wanted o (yielded ops a.tmps) = true := by simp [Region.wanted, hgd]
  rw [if_pos hw]
  exact wp_append_list w s x ho base v n L F hs hown g1 A m c G hx hc hmc hc9 hr ha hn hbase h
end Go.Proofs.Ytcndeegfkgfnkaa
/- valueWithin, firstWrong, itemsError of ints, receivedError, correlation, CorrelationOf, Shifts of the code. -/
namespace Go.Proofs.Ytcndeegfkgfnkaa
open Go.RowKit
def valE (x : Int) : Int := unI (withinB x (-100000) 100000) 2
def valsE (n : Nat) (F : Nat → Int) : Int := badE (fun j => valE (F j)) n
def recE (n : Nat) (F : Nat → Int) : Int := firstE [unI (decide ((n : Int) ≤ 120)) 8, valsE n F]
set_option maxHeartbeats 1000000 in
theorem valueWithin1_any (x : Int) (b : Nat) (w : World) (hm : w.cell? ⟨b, 0, none⟩ = some (.int .i64 100000)) :
    Calls Try.prog 63 #[.int .i64 x, .pointer (some ⟨b, 0, none⟩)] w fun e w' => e = .returned (.int .i64 (valE x)) ∧ Below w.heap.size w w' := by
  have HP := hide (fun W A (h : IntsAt W 0 A 1 (fun _ => x)) => (show Calls Try.prog 56 #[.int .i64 100000, .slice A 1 1] W fun e w' => e = .returned (.int .i64 (valE x)) ∧ W = w' from by
    have h1 := partsError_any 100000 A 1 1 (fun _ => x) W (by decide) (by decide) h
    rw [show sizeE 100000 (fun _ => x) 1 = valE x from by unfold sizeE badE badE; rw [if_pos rfl]; rfl] at h1
    exact h1))
  generalize valE x = v at *
  go_enter Try.func63, Try.ntmps63
  go_wp2_with fail
  refine (HP.out _ _ (IntsAt.one _ _ _ _ (Nat.zero_le _))).mono ?_
  rintro e w1 ⟨rfl, rfl⟩
  go_wp2_with fail
  go_ret
  exact ⟨rfl, by (repeat (first | (with_reducible exact Below.refl _ _) | (with_reducible refine Go.below_drewN ?_ _) | (with_reducible refine Below.drew ?_) | (with_reducible refine Below.alloc ?_ (by first | exact Nat.le_refl _ | (simp; done) | (simp; omega) | omega) _) | (with_reducible refine Below.setCell ?_ (by first | exact Nat.le_refl _ | (simp; done) | (simp; omega) | omega) _)))⟩
set_option maxHeartbeats 1000000 in
theorem valueWithin_any (w : World) :
    Calls Try.prog 48 #[.int .i64 100000] w fun e w' => e = .returned (.func (.func 63) #[] #[.pointer (some ⟨w.heap.size, 0, none⟩)]) ∧ w.alloc (.cells #[.int .i64 100000] 3) = w' := by
  go_enter Try.func48, Try.ntmps48
  go_wp2_with fail
  go_ret
  exact ⟨rfl, rfl⟩
set_option maxHeartbeats 2000000 in
theorem firstWrong_ints (g : Nat) (lb : Array Value) (eg : ∀ args w, (callFunc g args).run Try.prog w = .ok (.enter g args) w) (p : Int → Int) (A : Option Addr) (n c : Nat) (F : Nat → Int) (w : World)
    (hn : n ≤ 100000) (hI : IntsAt w 0 A n F) (hp : ∀ (x : Int) W, Below w.heap.size w W → Calls Try.prog g (#[.int .i64 x] ++ lb) W fun e w' => e = .returned (.int .i64 (p x)) ∧ Below W.heap.size W w') :
    Calls Try.prog 62 #[.slice A n c, .func (.func g) #[] lb] w fun e w' => e = .returned (.tuple #[.int .i64 (badI (fun j => p (F j)) n : Nat), .int .i64 (badE (fun j => p (F j)) n)]) ∧ Below w.heap.size w w' := by
  have HP := hide hp
  have HI := hide hI
  clear hp hI
  go_enter Try.func62, Try.ntmps62
  go_wp2_with fail
  go_loopg [11] n (fun gg s wr => ∃ k : Nat, k ≤ n ∧ n - k ≤ gg ∧ s = .int .i64 (k : Int) ∧ Hid (badE (fun j => p (F j)) k = 0) ∧ Below w.heap.size w wr)
  case atStart => exact ⟨0, Nat.zero_le _, by omega, rfl, hide rfl, Below.refl _ _⟩
  case round =>
    obtain ⟨k, hk, hg, rfl, HZ, hB⟩ := hrel
    obtain ⟨wA, rfl⟩ : ∃ x : World, x = wr := ⟨_, rfl⟩
    have hBs := hB.size
    by_cases hlt : k < n
    · have hltz : (k : Int) < (n : Int) := by omega
      obtain ⟨b, o, rfl, -, hb, c0⟩ := (HI.out.below hB) k hlt
      have HQ := hide (show p (F k) ≠ 0 → badE (fun j => p (F j)) n = p (F k) ∧ badI (fun j => p (F j)) n = k from fun h => ⟨badE_at (g := fun j => p (F j)) HZ.out h n hlt, badI_at (g := fun j => p (F j)) HZ.out h n hlt⟩)
      have HN := hide (show p (F k) = 0 → badE (fun j => p (F j)) (k + 1) = 0 from fun h => by rw [badE_succ HZ.out]; exact h)
      generalize F k = x at *
      have HC := hide (fun W hW => HP.out x W hW)
      generalize p x = r at *
      have hcall := HC.out wA hB
      by_cases hr : r = 0
      · have HN2 := hide (HN.out hr)
        subst hr
        clear HQ HN
        go_wp2_with (go_at_fn g; refine hcall.mono ?_; rintro e w2 ⟨rfl, hb2⟩)
        go_roundg (n - (k + 1))
        case measure => omega
        case rel => exact ⟨k + 1, by omega, by omega, by go_num, HN2, hB.trans (hb2.mono hB.size)⟩
      · have t1 : (r != 0) = true := by simpa using hr
        have HQ2 := hide (HQ.out hr)
        clear HQ HN hr
        go_wp2_with (go_at_fn g; refine hcall.mono ?_; rintro e w2 ⟨rfl, hb2⟩)
        go_ret2
        exact ⟨by rw [HQ2.out.1, HQ2.out.2]; rfl, hB.trans (hb2.mono hB.size)⟩
    · obtain rfl : k = n := by omega
      go_wp2_with fail
      go_ret2
      exact ⟨by rw [HZ.out, badI_zero HZ.out]; rfl, hB⟩
set_option maxHeartbeats 1000000 in
theorem itemsError_ints (A : Option Addr) (n c b : Nat) (F : Nat → Int) (w : World) (hn : n ≤ 100000) (hI : IntsAt w 0 A n F) (hm : w.cell? ⟨b, 0, none⟩ = some (.int .i64 100000)) :
    Calls Try.prog 47 #[.slice A n c, .func (.func 63) #[] #[.pointer (some ⟨b, 0, none⟩)]] w fun e w' => e = .returned (.int .i64 (valsE n F)) ∧ Below w.heap.size w w' := by
  have hb := World.block_lt_of_cell? w _ hm
  simp only at hb
  have HX := hide (firstWrong_ints 63 #[.pointer (some ⟨b, 0, none⟩)] (enters_of Try.func63 (by kernel_rfl) rfl) valE A n c F w hn hI (fun x W hW => valueWithin1_any x b W ((hW.cell (p := ⟨b, 0, none⟩) hb).trans hm)))
  clear hI hm hb
  go_enter Try.func47, Try.ntmps47
  go_wp2_with (go_at_call 62; refine HX.out.mono ?_; rintro e w' ⟨rfl, hb1⟩)
  go_ret
  exact ⟨rfl, hb1⟩
set_option maxHeartbeats 1000000 in
theorem receivedError_any (A : Option Addr) (n c : Nat) (F : Nat → Int) (w : World) (hn : n ≤ 100000) (hI : IntsAt w 0 A n F) :
    Calls Try.prog 21 #[.slice A n c] w fun e w' => e = .returned (.int .i64 (recE n F)) ∧ Below w.heap.size w w' := by
  have HI := hide hI
  have HE := hide (show firstE [unI (decide ((n : Int) ≤ 120)) 8, valsE n F] = recE n F from rfl)
  generalize recE n F = v at *
  clear hI
  go_enter Try.func21, Try.ntmps21
  go_wp2_with (go_at_call 22; refine (unless_any _ _ _).mono ?_; rintro e w' ⟨rfl, rfl⟩)
  refine (valueWithin_any _).mono ?_
  rintro e w1 ⟨rfl, hw1⟩
  have hc : w1.cell? ⟨w.heap.size, 0, none⟩ = some (.int .i64 100000) := by rw [← hw1]; exact (Box.made rfl : Box _ w.heap.size 3 #[.int .i64 100000]).at_ 0
  have hB1 : Below w.heap.size w w1 := by rw [← hw1]; exact (Below.refl _ _).alloc (Nat.le_refl _) _
  clear hw1
  go_wp2_with fail
  refine (itemsError_ints A n c w.heap.size F _ hn (HI.out.below hB1) hc).mono ?_
  rintro e w2 ⟨rfl, hb2⟩
  have hB2 := hB1.trans (hb2.mono hB1.size)
  clear hc hB1 hb2
  go_wp2_with fail
  refine (firstError_laid [unI (decide ((n : Int) ≤ 120)) 8, valsE n F] 2 _ _ rfl (by decide)).mono ?_
  rintro e w3 ⟨rfl, hw3⟩
  rw [HE.out]
  have hB3 : Below w.heap.size w w3 := by rw [← hw3]; exact hB2.alloc hB2.size _
  clear hw3 hB2
  go_wp2_with fail
  go_ret
  exact ⟨rfl, hB3⟩
/-- The sum of products of the first k values. -/
def corS (F G : Nat → Int) : Nat → Int
  | 0 => 0
  | k + 1 => corS F G k + F k * G k
theorem corS_le {F G : Nat → Int} : ∀ {k : Nat}, (∀ j, j < k → IsSign (F j) ∧ -100000 ≤ G j ∧ G j ≤ 100000) → -(k * 100000 : Int) ≤ corS F G k ∧ corS F G k ≤ k * 100000
  | 0, _ => by show -(((0 : Nat) : Int) * 100000) ≤ 0 ∧ (0 : Int) ≤ ((0 : Nat) : Int) * 100000; omega
  | k + 1, h => by
    have h1 := corS_le (k := k) fun j hj => h j (by omega)
    obtain ⟨hf, hg⟩ := h k (Nat.lt_succ_self k)
    show _ ≤ corS F G k + F k * G k ∧ corS F G k + F k * G k ≤ _
    rcases hf with e | e <;> rw [e] <;> omega
set_option maxHeartbeats 1000000 in
theorem correlation_any (A B : Option Addr) (n c m d : Nat) (F G : Nat → Int) (w : World) (hn : n ≤ 1000) (hnm : n ≤ m) (hI : IntsAt w 0 A n F) (hJ : IntsAt w 0 B m G) (hb : ∀ j, j < n → IsSign (F j) ∧ -100000 ≤ G j ∧ G j ≤ 100000) :
    Calls Try.prog 64 #[.slice A n c, .slice B m d] w fun e w' => e = .returned (.int .i64 (corS F G n)) ∧ w = w' := by
  have HI := hide hI
  have HJ := hide hJ
  have HB := hide hb
  clear hI hJ hb
  go_enter Try.func64, Try.ntmps64
  go_wp2_with fail
  go_loopw [5, 10] (fun s i wr => ∃ k : Nat, k ≤ n ∧ s = .int .i64 (corS F G k) ∧ i = .int .i64 (k : Int) ∧ w = wr) (fun _ i _ => n - (Go.RowKit.intOf i).toNat)
  case atStart => exact ⟨0, Nat.zero_le _, rfl, rfl, rfl⟩
  case round =>
    obtain ⟨k, hk, rfl, rfl, rfl⟩ := hrel
    have hs := corS_le (F := F) (G := G) (k := k) fun j hj => HB.out j (by omega)
    have HS := hide (show corS F G (k + 1) = corS F G k + F k * G k from rfl)
    obtain ⟨s, hs'⟩ : ∃ s, s = corS F G k := ⟨_, rfl⟩
    rw [← hs'] at hs HS
    rw [← hs']
    by_cases hlt : k < n
    · have hltz : (k : Int) < (n : Int) := by omega
      have hltm : (k : Int) < (m : Int) := by omega
      obtain ⟨b, o, rfl, -, -, x0⟩ := HI.out k hlt
      obtain ⟨b', o', rfl, -, -, y0⟩ := HJ.out k (by omega)
      obtain ⟨hf, hg⟩ := HB.out k hlt
      generalize F k = p at *
      generalize G k = q at *
      have hpq : -100000 ≤ p * q ∧ p * q ≤ 100000 := by rcases hf with e | e <;> rw [e] <;> omega
      obtain ⟨r, hr⟩ : ∃ r, r = p * q := ⟨_, rfl⟩
      have q1 : IntKind.i64.wrap (p * q) = r := by rw [IntWalk.i64_in _ (by omega), hr]
      rw [← hr] at HS hpq
      have q2 : IntKind.i64.wrap (s + r) = s + r := IntWalk.i64_in _ (by omega)
      clear hf hg hpq hr hs hs'
      go_wp2_with fail
      go_roundw
      case rel => exact ⟨k + 1, by omega, by rw [HS.out], by go_num, by first | rfl | trivial⟩
      case measure => simp [Go.RowKit.intOf]; omega
    · obtain rfl : k = n := by omega
      go_wp2_with fail
      go_ret
      exact ⟨by rw [← hs']; rfl, rfl⟩
end Go.Proofs.Ytcndeegfkgfnkaa
/- The first half with the greatest correlation: bestOf of the code. -/
namespace Go.Proofs.Ytcndeegfkgfnkaa
open Go.RowKit Go.Great
/-- The greatest of the numbers K 0 and those below n, and the first place that has it. -/
def bsC (K : Nat → Int) : Nat → Int
  | 0 => K 0
  | i + 1 => if bsC K i < K i then K i else bsC K i
def bsN (K : Nat → Int) : Nat → Nat
  | 0 => 0
  | i + 1 => if bsC K i < K i then i else bsN K i
theorem bsC_le {K : Nat → Int} {M : Int} (h : ∀ i, -M ≤ K i ∧ K i ≤ M) : ∀ n, -M ≤ bsC K n ∧ bsC K n ≤ M
  | 0 => h 0
  | n + 1 => by
    show -M ≤ (if _ then _ else _) ∧ (if _ then _ else _) ≤ M
    split
    · exact h n
    · exact bsC_le h n
theorem bsN_lt {K : Nat → Int} : ∀ n, bsN K n ≤ n
  | 0 => Nat.le_refl _
  | n + 1 => by
    show (if _ then _ else _) ≤ n + 1
    have := bsN_lt (K := K) n
    split <;> omega
theorem bsN_below {K : Nat → Int} : ∀ n, 0 < n → bsN K n < n
  | 0, h => absurd h (Nat.lt_irrefl 0)
  | n + 1, _ => by
    show (if _ then _ else _) < n + 1
    have := bsN_lt (K := K) n
    split <;> omega
set_option maxHeartbeats 2000000 in
set_option maxRecDepth 100000 in
theorem bestOf_any (A B : Option Addr) (n c d : Nat) (F : Nat → Nat → Int) (G : Nat → Int) (w : World) (h0 : 0 < n) (hn : n ≤ 1000) (hL : ListsAt w 0 A n (fun _ => 31) F) (hJ : IntsAt w 0 B 31 G) (hG : ∀ j, j < 31 → -100000 ≤ G j ∧ G j ≤ 100000) (hF : ∀ i, i < n → ∀ j, j < 31 → IsSign (F i j)) :
    Calls Try.prog 49 #[.slice A n c, .slice B 31 d] w fun e w' => e = .returned (.tuple #[.int .i64 (bsN (fun i => corS (F i) G 31) n : Int), .int .i64 (bsC (fun i => corS (F i) G 31) n)]) ∧ w = w' := by
  have HC := hide (fun i (hi : i < n) Ai ci (h : IntsAt w 0 Ai 31 (F i)) => correlation_any Ai B 31 ci 31 d (F i) G w (by decide) (by decide) h hJ (fun j hj => ⟨hF i hi j hj, hG j hj⟩))
  obtain ⟨K, hK⟩ : ∃ z : Nat → Int, (fun i => corS (F i) G 31) = z := ⟨_, rfl⟩
  have hKn := fun i => congrFun hK i
  try simp only at hKn
  simp only [hKn] at HC
  rw [hK]
  have HL := hide hL
  clear hK hKn hJ hG hF hL
  obtain ⟨b, o, A0, c0, hA, -, -, x0, -, -, y0⟩ := HL.out 0 h0
  have HC0 := hide (HC.out 0 h0 A0 c0 y0)
  obtain ⟨s0, hs0⟩ : ∃ z, K 0 = z := ⟨_, rfl⟩
  have HS0 := hide (show bsC K 0 = s0 from hs0)
  rw [hs0] at HC0
  have h0z : (0 : Int) < (n : Int) := by omega
  subst hA
  simp only [Nat.add_zero] at x0
  clear hs0 y0
  go_enter Try.func49, Try.ntmps49
  go_wp2_with fail
  refine HC0.out.mono ?_
  rintro e w1 ⟨rfl, rfl⟩
  go_wp2_with fail
  clear x0 HC0
  go_loopw [6, 7, 18] (fun p q i wr => ∃ k : Nat, k ≤ n ∧ p = .int .i64 (bsN K k : Int) ∧ q = .int .i64 (bsC K k) ∧ i = .int .i64 (k : Int) ∧ w = wr) (fun _ _ i _ => n - (Go.RowKit.intOf i).toNat)
  case atStart => exact ⟨0, Nat.zero_le _, rfl, by rw [HS0.out], rfl, rfl⟩
  case round =>
    clear HS0
    obtain ⟨k, hk, rfl, rfl, rfl, rfl⟩ := hrel
    by_cases hlt : k < n
    · have hltz : (k : Int) < (n : Int) := by omega
      have HN := hide (show bsN K (k + 1) = if bsC K k < K k then k else bsN K k from rfl)
      have HM := hide (show bsC K (k + 1) = if bsC K k < K k then K k else bsC K k from rfl)
      obtain ⟨b', o', Ak, ck, hA, -, -, xk, -, -, yk⟩ := HL.out k hlt
      injection hA with hA
      injection hA with hb ho
      subst hb
      subst ho
      have HCk := hide (HC.out k hlt Ak ck yk)
      obtain ⟨u, hu⟩ : ∃ z, K k = z := ⟨_, rfl⟩
      obtain ⟨v, hv⟩ : ∃ z, bsC K k = z := ⟨_, rfl⟩
      obtain ⟨m, hm⟩ : ∃ z, bsN K k = z := ⟨_, rfl⟩
      rw [hu] at HCk
      simp only [hu, hv, hm] at HN HM
      try simp only [hv, hm]
      clear hu hv hm yk
      go_wp2_with fail
      refine HCk.out.mono ?_
      rintro e w1 ⟨rfl, rfl⟩
      clear xk HCk
      by_cases hvu : v < u
      · have t1 : decide (v < u) = true := by simpa using hvu
        rw [if_pos hvu] at HN HM
        clear hvu
        go_wp2_with fail
        go_roundw
        case rel => exact ⟨k + 1, by omega, by rw [HN.out], by rw [HM.out], by go_num, by first | rfl | trivial⟩
        case measure => simp [Go.RowKit.intOf]; omega
      · have t1 : decide (v < u) = false := by simpa using hvu
        rw [if_neg hvu] at HN HM
        clear hvu
        go_wp2_with fail
        go_roundw
        case rel => exact ⟨k + 1, by omega, by rw [HN.out], by rw [HM.out], by go_num, by first | rfl | trivial⟩
        case measure => simp [Go.RowKit.intOf]; omega
    · obtain rfl : k = n := by omega
      go_wp2_with fail
      refine bodyPost_ret (v := .tuple #[.int .i64 (bsN K k : Int), .int .i64 (bsC K k)]) (by simp [results, Try.results49, go_sem]) rfl ⟨rfl, rfl⟩
end Go.Proofs.Ytcndeegfkgfnkaa
