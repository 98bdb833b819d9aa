/- place, Match and Gathered of the reference. -/
import Derived.Test.YtjelbemfljobaaaHc
import Derived.Test.YtjelbemfljobaaaEr
namespace Go.Proofs.Ytjelbemfljobaaa
open Go.RowKit Go.Shelf
set_option maxHeartbeats 1000000 in
theorem place_any (n v k : Nat) (w : World) (hv : v ≤ 3) (hn : 1 ≤ n) (hn9 : n ≤ 1000) (hk : k ≤ 1000) :
    Calls Try.prog 106 #[.int .i64 (n : Int), .int .i64 (v : Int), .int .i64 (k : Int)] w fun e w' => e = .returned (.int .i64 ((placeN v n k : Nat) : Int)) ∧ w = w' := by
  obtain ⟨m, hm⟩ : ∃ m, m = v * n := ⟨_, rfl⟩
  have hm9 : m ≤ 3000 := by
    have := Nat.mul_le_mul hv hn9
    omega
  have HP := hide (show placeN v n k = (m / 4 + k) % n from by rw [hm]; rfl)
  have hmz : (v : Int) * (n : Int) = (m : Int) := by rw [hm]; simp
  have hn0 : ¬ (n : Int) = 0 := by omega
  clear hm
  go_enter Try.func106, Try.ntmps106
  go_wp2_with fail
  go_ret
  exact ⟨ret_int (by rw [HP.out]; simp), rfl⟩
/-- What is gathered at a place behind k soft bits. -/
def gatherF (v n : Nat) (S : Nat → Int) : Nat → Nat → Int
  | 0, _ => 0
  | k + 1, p => if p = placeN v n k then gatherF v n S k p + S k else gatherF v n S k p
theorem gatherF_le {v n : Nat} {S : Nat → Int} {C : Nat} (hS : ∀ k, k < C → -1000000 ≤ S k ∧ S k ≤ 1000000) : ∀ {k}, k ≤ C → ∀ p, -((k : Int) * 1000000) ≤ gatherF v n S k p ∧ gatherF v n S k p ≤ (k : Int) * 1000000
  | 0, _, p => by simp [gatherF]
  | k + 1, hk, p => by
    have h := gatherF_le (v := v) (n := n) hS (show k ≤ C by omega) p
    have h2 := hS k (by omega)
    unfold gatherF
    split
    · omega
    · omega
set_option maxHeartbeats 2000000 in
theorem gatheredR_any (A : Option Addr) (C c v n : Nat) (S : Nat → Int) (w : World) (hI : IntsAt w 0 A C S) (hS : ∀ k, k < C → -1000000 ≤ S k ∧ S k ≤ 1000000) (hv : v ≤ 3) (hn : 1 ≤ n) (hn9 : n ≤ 1000) (hC : C ≤ 1000) :
    Calls Try.prog 86 #[.slice A C c, .int .i64 (v : Int), .int .i64 (n : Int)] w fun e w' => ∃ x, e = .returned x ∧ GaveInts w n (gatherF v n S C) x w' := by
  obtain ⟨i0, hi, hz0, hz1, hz2⟩ := info_parts intInfo
  have hmk := fun W => run_make_row (P := Try.prog) 24 3 i0 (.int .i64 0) Try.underlying24 hi hz0 hz1 rfl .i64 .i64 n (by rw [hz2]; omega) (by omega) W
  have HI := hide hI
  have HS := hide hS
  clear hI hS hi hz0 hz1 hz2
  go_enter Try.func86, Try.ntmps86
  go_wp2_with fail
  clear hmk
  go_loopw [8, 9] (fun i x wr => ∃ k : Nat, k ≤ C ∧ i = .int .i64 k ∧ wr.rowIs w.heap.size 3 n (fun p => .int .i64 (gatherF v n S k p)) ∧ Below w.heap.size w wr) (fun i _ _ => C - (intOf i).toNat)
  case atStart => exact ⟨0, Nat.zero_le _, rfl, (World.rowIs_made w (.int .i64 0) n 3).congr (fun _ _ => rfl), by (repeat (first | (with_reducible exact Below.refl _ _) | (with_reducible refine below_drewN ?_ _) | (with_reducible refine Below.drew ?_) | (with_reducible refine Below.alloc ?_ (by first | exact Nat.le_refl _ | (simp; done) | (simp; omega) | omega) _) | (with_reducible refine Below.setCell ?_ (by first | exact Nat.le_refl _ | (simp; done) | (simp; omega) | omega) _)))⟩
  case round =>
    obtain ⟨k, hk, rfl, hR, hB⟩ := hrel
    by_cases hlt : k < C
    · have hltz : (k : Int) < (C : Int) := by omega
      have hI := HI.out.below hB
      obtain ⟨b, o, rfl, -, hb, hcell⟩ := hI k hlt
      go_wp2_with fail
      refine (place_any n v k _ hv hn hn9 (by omega)).mono ?_
      rintro e w' ⟨rfl, rfl⟩
      have hpl := placeN_lt (v := v) (k := k) (show 0 < n by omega)
      have HN := hide (show ∀ p, gatherF v n S (k + 1) p = if p = placeN v n k then gatherF v n S k p + S k else gatherF v n S k p from fun _ => rfl)
      have hg9 := gatherF_le (v := v) (n := n) HS.out hk (placeN v n k)
      have hs9 := HS.out k hlt
      have hc := hR.cell hpl
      have hf := hR.frozen (placeN v n k)
      have HG := hide (show gatherF v n S k (placeN v n k) = gatherF v n S k (placeN v n k) from rfl)
      obtain ⟨p, hp⟩ : ∃ p, p = placeN v n k := ⟨_, rfl⟩
      rw [← hp] at hpl HN hg9 hc hf ⊢
      obtain ⟨y, hy⟩ : ∃ y, y = gatherF v n S k p := ⟨_, rfl⟩
      rw [← hy] at hg9 hc
      have HY := hide hy
      clear hp hy HG
      have hpz : (p : Int) < (n : Int) := by omega
      have q1 : IntKind.i64.wrap (y + S k) = y + S k := IntWalk.i64_in _ (by omega)
      go_wp2_with fail
      go_region
      go_wp2_with fail
      refine ⟨⟨k + 1, by omega, by simp, (hR.set p _).congr (fun j _ => ?_), (hB.setCell (by simp) _).drew⟩, by simp [intOf]; omega⟩
      show (if j = p then _ else _) = _
      rw [HN.out j]
      by_cases e : j = p
      · subst e; rw [if_pos rfl, if_pos rfl, HY.out]
      · rw [if_neg e, if_neg e]
    · obtain rfl : k = C := by omega
      go_wp2_with fail
      go_ret
      exact ⟨_, rfl, GaveInts.of_row hR (Nat.le_refl _) hB⟩
set_option maxHeartbeats 2000000 in
theorem matchR_any (A : Option Addr) (n c v C : Nat) (B : Nat → Int) (w : World) (hI : IntsAt w 0 A n B) (hv : v ≤ 3) (hn : 1 ≤ n) (hn9 : n ≤ 1000) (hC : C ≤ 1000) :
    Calls Try.prog 69 #[.slice A n c, .int .i64 (v : Int), .int .i64 (C : Int)] w fun e w' => ∃ x, e = .returned x ∧ OwnInts w' w.heap.size x C (fun k => B (placeN v n k)) ∧ Below w.heap.size w w' := by
  have HI := hide hI
  clear hI
  go_enter Try.func69, Try.ntmps69
  go_wp2_with fail
  go_loopw [7, 8] (fun x i wr => ∃ k : Nat, k ≤ C ∧ i = .int .i64 k ∧ OwnInts wr w.heap.size x k (fun k => B (placeN v n k)) ∧ Below w.heap.size w wr) (fun _ i _ => C - (intOf i).toNat)
  case atStart => exact ⟨0, Nat.zero_le _, rfl, OwnInts.nil_ _ _ _, Below.refl _ _⟩
  case round =>
    obtain ⟨k, hk, rfl, hown, hB⟩ := hrel
    by_cases hlt : k < C
    · obtain ⟨As, cs, rfl, hcs, hIs⟩ := hown.form
      have hBs := hB.size
      have hltz : (k : Int) < (C : Int) := by omega
      have hpl := placeN_lt (v := v) (k := k) (show 0 < n by omega)
      have hI := HI.out.below hB
      obtain ⟨b, o, rfl, -, hb, hcell⟩ := hI _ hpl
      have HP := hide (show ∀ j, catF k (fun k => B (placeN v n k)) (fun _ => B (placeN v n k)) j = if j < k then B (placeN v n j) else B (placeN v n k) from fun _ => rfl)
      go_wp2_with fail
      refine (place_any n v k _ hv hn hn9 (by omega)).mono ?_
      rintro e w' ⟨rfl, rfl⟩
      have hpz : ((placeN v n k : Nat) : Int) < (n : Int) := by omega
      obtain ⟨p, hp⟩ : ∃ p, p = placeN v n k := ⟨_, rfl⟩
      rw [← hp] at hpl hcell hpz ⊢
      obtain ⟨u, hu⟩ : ∃ u, u = B p := ⟨_, rfl⟩
      rw [← hu] at hcell
      have HU := hide (show u = B (placeN v n k) from by rw [hu, hp])
      clear hp hu
      go_wp2_with (at_builtin; refine wpList_append_ints _ rfl (.tmp 14) (.tmp 23) rfl w.heap.size 0 (.slice As k cs) k _ rfl (hown.alloc _) (some ⟨wr.heap.size, 0, none⟩) 1 1 (fun _ => u) rfl (IntsAt.one wr 0 u 3 (Nat.zero_le _)) (by omega) (by simp; omega) ?_; intro v' w' h1 hb2)
      refine ⟨⟨k + 1, by omega, by simp, h1.congr (fun j hj => ?_), (hB.alloc hBs _).trans hb2⟩, by simp [intOf]; omega⟩
      unfold catF
      by_cases e : j < k
      · rw [if_pos e]
      · rw [if_neg e, HU.out, show j = k by omega]
    · obtain rfl : k = C := by omega
      go_wp2_with fail
      go_ret
      exact ⟨_, rfl, hown, hB⟩
end Go.Proofs.Ytjelbemfljobaaa
