/- slices.Chunk of a list that has some times as many numbers. -/
import Derived.Test.YtjelbemfljobaaaEo
import Derived.Test.YtjelbemfljobaaaMa
namespace Go.Proofs.Ytjelbemfljobaaa
open Go.RowKit Go.Shelf
attribute [local go_sem] Oper.semAt_some
set_option maxHeartbeats 400000 in
theorem chunk_any (A : Option Addr) (n c k : Nat) (w : World) (hk : 1 ≤ k) :
    Calls Try.prog 93 #[.slice A n c, .int .i64 (k : Int)] w fun e w' =>
      e = .returned (.func (.func 119) #[] #[.pointer (some ⟨w.heap.size, 0, none⟩), .pointer (some ⟨w.heap.size + 1, 0, none⟩)]) ∧
        (w.alloc (.cells #[.slice A n c] 24)).alloc (.cells #[.int .i64 (k : Int)] 3) = w' := by
  have t1 : decide ((k : Int) < 1) = false := by simp; omega
  go_enter Try.func93, Try.ntmps93
  go_wp2
  go_ret
  exact ⟨rfl, rfl⟩
/-- Two blocks stay as they are. -/
def K2 (a : Nat) (A B : World) : Prop := A.heap.size ≤ B.heap.size ∧ B.heap[a]? = A.heap[a]? ∧ B.heap[a + 1]? = A.heap[a + 1]?
theorem K2.refl (a : Nat) (A : World) : K2 a A A := ⟨Nat.le_refl _, rfl, rfl⟩
theorem K2.trans {a : Nat} {A B C : World} (h : K2 a A B) (k : K2 a B C) : K2 a A C := ⟨Nat.le_trans h.1 k.1, k.2.1.trans h.2.1, k.2.2.trans h.2.2⟩
theorem K2.of_below {a B0 : Nat} {A B : World} (h : Below B0 A B) (hk : a + 1 < B0) : K2 a A B := ⟨h.size, h.block _ (by omega), h.block _ hk⟩
theorem K2.put {a l : Nat} {W : World} {o' : Obj} (h1 : l < a ∨ a + 1 < l) : K2 a W (W.putObj l o') :=
  ⟨by simp, World.putObj_heap_other (by omega), World.putObj_heap_other (by omega)⟩
/-- What the iterator hands to a round: the piece of a numbers. -/
def encC (g a C : Nat) (x : Fin C) : Array Value := #[.slice (some ⟨g, x.1 * a, none⟩) a a]
set_option maxHeartbeats 2000000 in
set_option maxRecDepth 100000 in
theorem chunk_stops (fu : Nat) (b g a C s cap : Nat) (w : World)
    (bs : Box w b 24 #[.slice (some ⟨g, 0, none⟩) s cap]) (bn : Box w (b + 1) 3 #[.int .i64 (a : Int)])
    (ha : 1 ≤ a) (hs : s = C * a) (hs9 : s ≤ 100000) (hcap : s ≤ cap) (hcap9 : cap ≤ 9223372036854775807) :
    SeqStopsK Fence.wide fu Try.prog 119 #[.pointer (some ⟨b, 0, none⟩), .pointer (some ⟨b + 1, 0, none⟩)] (encC g a C) (K2 b)
      (fun xs => xs = seqTo C C) (fun _ => True) C w := by
  intro l J Jx W hW hJ hJx hY h0
  have cs := bs.below hW
  have cn := bn.below hW
  clear bs bn hW
  have z0 := cs.at_ 0
  have z1 := cn.at_ 0
  simp only [List.getElem?_toArray] at z0 z1
  have HS := hide hs
  clear hs
  refine callsIn_of_wp Try.func119 rfl trivial ?_ rfl
  simp only [Try.ntmps119, List.size_toArray, List.length_cons, List.length_nil, Nat.reduceAdd, Nat.reduceSub, Array.replicate_succ, Array.replicate_zero, List.push_toArray, List.append_toArray, List.nil_append, List.cons_append]
  gi_wp2_with fail
  gi_loopw [4] (fun i wr => ∃ j : Nat, j ≤ C ∧ i = .int .i64 ((j * a : Nat) : Int) ∧ J (seqTo C j) wr ∧ K2 b W wr) (fun i _ => s - (intOf i).toNat)
  case atStart => exact ⟨0, Nat.zero_le _, by rw [Nat.zero_mul]; rfl, h0, K2.refl _ _⟩
  case round =>
    obtain ⟨j, hj, rfl, hJs, hnx⟩ := hrel
    have ds : Box wr b _ _ := hnx.2.1.trans cs
    have dn : Box wr (b + 1) _ _ := hnx.2.2.trans cn
    have x0 := ds.at_ 0
    have x1 := dn.at_ 0
    simp only [List.getElem?_toArray] at x0 x1
    obtain ⟨u, hu⟩ : ∃ u : Nat, u = j * a := ⟨_, rfl⟩
    rw [← hu]
    by_cases hlt : j < C
    · have hmul : (j + 1) * a ≤ C * a := Nat.mul_le_mul_right a hlt
      rw [← HS.out, Nat.add_mul, Nat.one_mul, ← hu] at hmul
      obtain ⟨z, hz⟩ : ∃ z : Nat, z = u + a := ⟨_, rfl⟩
      have hus : (u : Int) < (s : Int) := by omega
      have hus2 : u < s := by omega
      have hus3 : (u : Int) ≤ (s : Int) := by omega
      have hucap : (u : Int) ≤ (cap : Int) := by omega
      have hne : ¬ cap = u := by omega
      have hmn : ¬ ((s - u : Nat) : Int) < (a : Int) := by omega
      have hmn2 : ¬ s - u < a := by omega
      have q5 : IntKind.i64.wrap ((u : Int) + (a : Int)) = (z : Int) := by rw [IntWalk.i64_in _ (by omega)]; omega
      have huz : (u : Int) ≤ (z : Int) := by omega
      have huz2 : u ≤ z := by omega
      have hzc : (z : Int) ≤ (cap : Int) := by omega
      have hzs : (z : Int) ≤ (s : Int) := by omega
      have hsub : z - u = a := by omega
      have hne2 : ¬ z = u := by omega
      have hne3 : ¬ a = 0 := by omega
      have hJd : J (seqTo C j) wr.drew := hJ _ _ _ _ hJs (grown_of_below ((Below.refl _ _).drew)) (fun r e => by cases e)
      obtain ⟨fn', tmps, assign, body, hy, hR⟩ := hY (seqTo C j) ⟨j, hlt⟩ wr.drew hJd (Nat.lt_of_le_of_lt (seqTo_len _ _) hlt)
      dsimp only [encC] at hy
      rw [← hu] at hy
      have HZ := hide (show z = (j + 1) * a from by rw [hz, hu, Nat.add_mul, Nat.one_mul])
      have HU := hide hu
      have HZA := hide hz
      clear hu hz hmul
      gi_wp2_with fail
      gi_region
      gi_wp2_with fail
      refine ⟨fun h => by simp [Fence.wide] at h, hR.mono ?_⟩
      rintro e w3 (⟨rfl, hJ3, hk3⟩ | ⟨rfl, hJx3⟩)
      · have hn3 : K2 b W w3 := hnx.trans hk3
        have d3 : Box w3 (b + 1) _ _ := hn3.2.2.trans cn
        have y1 := d3.at_ 0
        simp only [List.getElem?_toArray] at y1
        clear x1 x0
        gi_wp2_with fail
        go_roundw
        case rel => exact ⟨j + 1, by omega, by rw [← HZ.out], by rw [seqTo_succ hlt]; exact hJ3, hn3⟩
        case measure => simp [intOf]; omega
      · gi_wp2_with fail
        refine bodyPost_ret (results_none rfl _ _ _) rfl ?_
        exact ⟨⟨_, rfl⟩, .inr ⟨_, trivial, hJx3⟩⟩
    · obtain rfl : j = C := by omega
      rw [← HS.out] at hu
      subst hu
      gi_wp2_with fail
      go_end0
      exact ⟨⟨_, rfl⟩, .inl ⟨_, rfl, hJs⟩⟩
end Go.Proofs.Ytjelbemfljobaaa
