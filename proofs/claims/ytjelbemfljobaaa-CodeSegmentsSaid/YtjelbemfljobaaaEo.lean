/- code: placesOf and its iterator. -/
import Derived.Test.YtjelbemfljobaaaCd
import Derived.RangeFuncNested
import Derived.RangeFuncBound
import Derived.RangeFuncCalls
import Derived.RangeFuncLeaves
import Derived.Shelf.Abstract
import Derived.Shelf.RegionOpen
import Derived.OwnWalkIn
import Derived.TacticsInMore
import Derived.LoopNIn
import Derived.LoopIn
namespace Go.Proofs.Ytjelbemfljobaaa
open Go.RowKit Go.Shelf
attribute [local go_sem] Oper.semAt_some

set_option maxHeartbeats 400000 in
theorem placesOf_any (v n c : Int) (w : World) :
    Calls Try.prog 105 #[.int .i64 v, .int .i64 n, .int .i64 c] w fun e w' =>
      e = .returned (.func (.func 124) #[] #[.pointer (some ⟨w.heap.size, 0, none⟩), .pointer (some ⟨w.heap.size + 1, 0, none⟩), .pointer (some ⟨w.heap.size + 1 + 1, 0, none⟩)]) ∧
        ((w.alloc (.cells #[.int .i64 v] 3)).alloc (.cells #[.int .i64 n] 3)).alloc (.cells #[.int .i64 c] 3) = w' := by
  go_enter Try.func105, Try.ntmps105
  go_wp2
  go_ret
  exact ⟨rfl, rfl⟩

/-- The numbers from 0 on. -/
def seqTo (C : Nat) : Nat → List (Fin C)
  | 0 => []
  | j + 1 => if h : j < C then seqTo C j ++ [⟨j, h⟩] else seqTo C j
theorem seqTo_succ {C j : Nat} (h : j < C) : seqTo C (j + 1) = seqTo C j ++ [⟨j, h⟩] := by rw [seqTo, dif_pos h]
theorem seqTo_len (C : Nat) : ∀ j, (seqTo C j).length ≤ j
  | 0 => Nat.le_refl _
  | j + 1 => by
    have := seqTo_len C j
    rw [seqTo]
    split
    · rw [List.length_append]; simp; omega
    · omega
theorem seqTo_mem {C : Nat} : ∀ {j : Nat} (x : Fin C), x.1 < j → x ∈ seqTo C j
  | 0, _, h => absurd h (Nat.not_lt_zero _)
  | j + 1, x, h => by
    have hx := x.2
    by_cases hj : j < C
    · rw [seqTo_succ hj, List.mem_append]
      rcases Nat.lt_or_ge x.1 j with h1 | h1
      · exact .inl (seqTo_mem x h1)
      · exact .inr (List.mem_singleton.2 (Fin.ext (by show x.1 = j; omega)))
    · rw [seqTo, dif_neg hj]
      exact seqTo_mem x (by omega)
theorem grown_of_below {w w' : World} (h : Below w.heap.size w w') : w.grownBy w' none := ⟨h.os, h.tape, h.output, h.size, fun k hk _ => h.block k hk⟩

/-- Three blocks stay as they are. -/
def K3 (a : Nat) (A B : World) : Prop := A.heap.size ≤ B.heap.size ∧ B.heap[a]? = A.heap[a]? ∧ B.heap[a + 1]? = A.heap[a + 1]? ∧ B.heap[a + 1 + 1]? = A.heap[a + 1 + 1]?
theorem K3.refl (a : Nat) (A : World) : K3 a A A := ⟨Nat.le_refl _, rfl, rfl, rfl⟩
theorem K3.trans {a : Nat} {A B C : World} (h : K3 a A B) (k : K3 a B C) : K3 a A C := ⟨Nat.le_trans h.1 k.1, k.2.1.trans h.2.1, k.2.2.1.trans h.2.2.1, k.2.2.2.trans h.2.2.2⟩
theorem K3.of_below {a : Nat} {A B : World} (h : Below A.heap.size A B) (hk : a + 1 + 1 < A.heap.size) : K3 a A B := ⟨h.size, h.block _ (by omega), h.block _ (by omega), h.block _ hk⟩
theorem K3.of_only {a b : Nat} {A B : World} (h : Only b A B) (hk : a + 1 + 1 < A.heap.size) (h1 : b < a ∨ a + 1 + 1 < b) : K3 a A B :=
  ⟨h.size, h.block _ (by omega) (fun e => by injection e; omega), h.block _ (by omega) (fun e => by injection e; omega), h.block _ hk (fun e => by injection e; omega)⟩
theorem K3.put {a l : Nat} {W : World} {o' : Obj} (h1 : l < a ∨ a + 1 + 1 < l) : K3 a W (W.putObj l o') :=
  ⟨by simp, World.putObj_heap_other (by omega), World.putObj_heap_other (by omega), World.putObj_heap_other (by omega)⟩

/-- What the iterator hands to a round. -/
def encP (v n C : Nat) (x : Fin C) : Array Value := #[.int .i64 ((x.1 : Nat) : Int), .int .i64 ((placeN v n x.1 : Nat) : Int)]

set_option maxHeartbeats 2000000 in
set_option maxRecDepth 100000 in
theorem places_stops (g : Nat) (a v n C : Nat) (w : World)
    (bv : Box w a 3 #[.int .i64 (v : Int)]) (bn : Box w (a + 1) 3 #[.int .i64 (n : Int)]) (bc : Box w (a + 1 + 1) 3 #[.int .i64 (C : Int)])
    (hv : v ≤ 3) (hn : 1 ≤ n) (hn9 : n ≤ 1000) (hC : C ≤ 1000) :
    SeqStopsK Fence.wide g Try.prog 124 #[.pointer (some ⟨a, 0, none⟩), .pointer (some ⟨a + 1, 0, none⟩), .pointer (some ⟨a + 1 + 1, 0, none⟩)] (encP v n C) (K3 a)
      (fun xs => xs = seqTo C C) (fun _ => True) C w := by
  intro l J Jx W hW hJ hJx hY h0
  have cv := bv.below hW
  have cn := bn.below hW
  have cc := bc.below hW
  clear bv bn bc hW
  have z0 := cv.at_ 0
  have z1 := cn.at_ 0
  have z2 := cc.at_ 0
  simp only [List.getElem?_toArray] at z0 z1 z2
  obtain ⟨m, hm⟩ : ∃ m, m = v * n := ⟨_, rfl⟩
  have hvn : m ≤ 3000 := by rw [hm]; exact Nat.le_trans (Nat.mul_le_mul hv hn9) (by decide)
  have hcm : (v : Int) * (n : Int) = (m : Int) := by rw [hm]; simp
  have HP0 := hide (show placeN v n 0 = m / 4 from by rw [hm]; exact placeN_zero (by omega) hn)
  have hn0 : ¬ (n : Int) = 0 := by omega
  clear hm
  refine callsIn_of_wp Try.func124 rfl trivial ?_ rfl
  simp only [Try.ntmps124, List.size_toArray, List.length_cons, List.length_nil, Nat.reduceAdd, Nat.reduceSub, Array.replicate_succ, Array.replicate_zero, List.push_toArray, List.append_toArray, List.nil_append, List.cons_append]
  gi_wp2_with fail
  clear hcm z0
  gi_loopw [5, 12] (fun p i wr => ∃ j : Nat, j ≤ C ∧ i = .int .i64 j ∧ p = .int .i64 (placeN v n j : Nat) ∧ J (seqTo C j) wr ∧ K3 a W wr) (fun _ i _ => C - (intOf i).toNat)
  case atStart => exact ⟨0, Nat.zero_le _, rfl, by rw [HP0.out]; go_num, h0, K3.refl _ _⟩
  case round =>
    obtain ⟨j, hj, rfl, rfl, hJs, hnx⟩ := hrel
    have dn : Box wr (a + 1) _ _ := hnx.2.2.1.trans cn
    have x1 := dn.at_ 0
    simp only [List.getElem?_toArray] at x1
    have hpl := placeN_lt (v := v) (k := j) (show 0 < n by omega)
    have HPS := hide (placeN_succ v n j)
    by_cases hlt : j < C
    · have hltz : (j : Int) < (C : Int) := by omega
      obtain ⟨fn', tmps, assign, body, hy, hR⟩ := hY (seqTo C j) ⟨j, hlt⟩ wr hJs (Nat.lt_of_le_of_lt (seqTo_len _ _) hlt)
      dsimp only [encP] at hy
      generalize placeN v n j = p at *
      gi_wp2_with fail
      refine ⟨fun h => by simp [Fence.wide] at h, hR.mono ?_⟩
      rintro e w3 (⟨rfl, hJ3, hk3⟩ | ⟨rfl, hJx3⟩)
      · have hn3 := hnx.trans hk3
        have d3 : Box w3 (a + 1) _ _ := hn3.2.2.1.trans cn
        have y1 := d3.at_ 0
        simp only [List.getElem?_toArray] at y1
        clear x1
        gi_wp2_with fail
        go_roundw
        case rel =>
          exact ⟨j + 1, by omega, by go_num, by rw [HPS.out]; go_num, by rw [seqTo_succ hlt]; exact hJ3, hn3⟩
        case measure => simp [intOf]; omega
      · gi_wp2_with fail
        refine bodyPost_ret (results_none rfl _ _ _) rfl ?_
        exact ⟨⟨_, rfl⟩, .inr ⟨_, trivial, hJx3⟩⟩
    · obtain rfl : j = C := by omega
      gi_wp2_with fail
      go_end0
      exact ⟨⟨_, rfl⟩, .inl ⟨_, rfl, hJs⟩⟩
end Go.Proofs.Ytjelbemfljobaaa
