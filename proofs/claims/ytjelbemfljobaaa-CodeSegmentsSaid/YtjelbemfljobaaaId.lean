/- The reference's Checked and IsRight. -/
import Derived.Test.YtjelbemfljobaaaIc
namespace Go.Proofs.Ytjelbemfljobaaa
open Go.RowKit Go.Shelf
theorem OwnInts.weak {w : World} {base base' n : Nat} {v : Value} {F : Nat → Int} (h : OwnInts w base v n F) (hb : base' ≤ base) : OwnInts w base' v n F :=
  ⟨h.1, h.2.elim Or.inl (fun ⟨g, cap, cur, hv, hg, r⟩ => Or.inr ⟨g, cap, cur, hv, Nat.le_trans hb hg, r⟩)⟩
set_option maxRecDepth 100000 in
set_option maxHeartbeats 2000000 in
theorem checkedR_any (d t : Nat) (A : Option Addr) (n c : Nat) (F : Nat → Int) (w : World) (h0 : 1 ≤ d) (h1 : d ≤ 16) (t1 : t < 2 ^ d) (n0 : 0 < n) (hn : n ≤ 1000) (hI : IntsAt w 0 A n F) (hb : ∀ k, k < n → IsBit (F k)) :
    Calls Try.prog 71 #[.agg #[.int .i64 (d : Int), .int .i64 (t : Int)], .slice A n c] w fun e w' => ∃ v, e = .returned v ∧ OwnInts w' w.heap.size v (n + d) (catF n F (remB d t n F)) ∧ Below w.heap.size w w' := by
  have HI := hide hI
  have HB := hide hb
  clear hI hb
  go_enter Try.func71, Try.ntmps71
  go_wp2_with fail
  generalize hW : World.alloc w _ = W
  have bx : Box W w.heap.size 23 #[.int .i64 (d : Int), .int .i64 (t : Int)] := by rw [← hW]; exact Box.made rfl
  have hB : Below w.heap.size w W := by rw [← hW]; exact (Below.refl _ _).alloc (Nat.le_refl _) _
  clear hW
  have x0 : W.cell? ⟨w.heap.size, 0, none⟩ = some (.int .i64 (d : Int)) := bx.at_ 0
  have x1 : W.cell? ⟨w.heap.size, 1, none⟩ = some (.int .i64 (t : Int)) := bx.at_ 1
  have hlt0 := bx.lt
  have SOF := hide (fun W' (h : Below W.heap.size W W') => (⟨(h.cell (p := ⟨w.heap.size, 0, none⟩) hlt0).trans x0, (h.cell (p := ⟨w.heap.size, 1, none⟩) hlt0).trans x1, h⟩ :
    W'.cell? ⟨w.heap.size, 0, none⟩ = some (.int .i64 (d : Int)) ∧ W'.cell? ⟨w.heap.size, 1, none⟩ = some (.int .i64 (t : Int)) ∧ Below W.heap.size W W'))
  have KI := hide (fun W' (h : W'.cell? ⟨w.heap.size, 0, none⟩ = some (.int .i64 (d : Int)) ∧ W'.cell? ⟨w.heap.size, 1, none⟩ = some (.int .i64 (t : Int)) ∧ Below W.heap.size W W') => HI.out.below (hB.trans (h.2.2.mono hB.size)))
  have bb0 : Below W.heap.size W W := Below.refl _ _
  have HBB := hide hB
  clear x0 x1 hB
  go_region_held3 (fun w' => w'.cell? ⟨w.heap.size, 0, none⟩ = some (.int .i64 (d : Int)) ∧ w'.cell? ⟨w.heap.size, 1, none⟩ = some (.int .i64 (t : Int)) ∧ Below W.heap.size W w')
      (first | assumption | exact SOF.out _ (by assumption) | exact SOF.out _ bb0.drew | exact SOF.out _ (balloc' (by assumption) (Nat.le_refl _) _))
      (first
        | (go_at_call 15; refine (copyInts_own A n c F _ (by omega) (KI.out _ (by assumption))).mono ?_; rintro e w4 ⟨v4, rfl, hown4, hb4⟩; have hs4 : Below W.heap.size W w4 := bstep2 hb4 (by assumption) (Nat.le_refl _))
        | (go_at_call 108; refine (remainderR_any d t A n c F _ h0 h1 t1 n0 hn (KI.out _ (by assumption)) HB.out).mono ?_; rintro e w5 ⟨v5, rfl, A5, c5, rfl, hc5, hI5, hb5⟩; have hs5 : Below W.heap.size W w5 := bstep2 hb5 (by assumption) (Nat.le_refl _); have hown5 := hown4.below hb5)
        | (refine step_append_ints _ (by rfl) _ _ (by rfl) W.heap.size 0 v4 n F (by rfl) hown5 A5 d c5 (remB d t n F) (by rfl) (hI5.weak (Nat.zero_le _)) (by omega) hs5.size ?_; intro v6 w6 hown6 hb6; have hs6 := hs5.trans hb6))
  go_wp2_with fail
  go_ret
  have hBs := HBB.out.size
  exact ⟨_, rfl, hown6.weak hBs, HBB.out.trans (hs6.mono hBs)⟩
set_option maxRecDepth 100000 in
set_option maxHeartbeats 2000000 in
theorem isRightR_any (d t : Nat) (b o n c : Nat) (F : Nat → Int) (w : World) (h0 : 1 ≤ d) (h1 : d ≤ 16) (t1 : t < 2 ^ d) (hdn : d < n) (hn : n ≤ 1000) (hnc : n ≤ c) (hc : c ≤ 9223372036854775807) (hI : IntsAt w 0 (some ⟨b, o, none⟩) n F) (hb : ∀ k, k < n → IsBit (F k)) :
    Calls Try.prog 78 #[.agg #[.int .i64 (d : Int), .int .i64 (t : Int)], .slice (some ⟨b, o, none⟩) n c] w fun e w' => e = .returned (.bool (intsB d (fun j => F (n - d + j)) d (remB d t (n - d) F))) ∧ Below w.heap.size w w' := by
  obtain ⟨m, hm⟩ : ∃ m : Nat, m = n - d := ⟨_, rfl⟩
  rw [← hm]
  have q1 : IntKind.i64.wrap ((n : Int) - (d : Int)) = (m : Int) := by rw [IntWalk.i64_in _ (by omega)]; omega
  have hmn : m ≤ n := by omega
  have hmnz : (m : Int) ≤ (n : Int) := by omega
  have hmcz : (m : Int) ≤ (c : Int) := by omega
  have hd : n - m = d := by omega
  have hm0 : 0 < m := by omega
  have HI := hide hI
  have HB := hide hb
  have HM := hide hm
  clear hI hb hm
  go_enter Try.func78, Try.ntmps78
  go_wp2_with fail
  generalize hW : World.alloc w _ = W
  have bx : Box W w.heap.size 23 #[.int .i64 (d : Int), .int .i64 (t : Int)] := by rw [← hW]; exact Box.made rfl
  have hB : Below w.heap.size w W := by rw [← hW]; exact (Below.refl _ _).alloc (Nat.le_refl _) _
  clear hW
  have x0 : W.cell? ⟨w.heap.size, 0, none⟩ = some (.int .i64 (d : Int)) := bx.at_ 0
  have x1 : W.cell? ⟨w.heap.size, 1, none⟩ = some (.int .i64 (t : Int)) := bx.at_ 1
  have hz : w.heap.size + 1 ≤ W.heap.size := bx.lt
  have SOF := hide (fun W' (h : Below (w.heap.size + 1) W W') => (⟨(h.cell (p := ⟨w.heap.size, 0, none⟩) (by simp)).trans x0, (h.cell (p := ⟨w.heap.size, 1, none⟩) (by simp)).trans x1, h⟩ :
     W'.cell? ⟨w.heap.size, 0, none⟩ = some (.int .i64 (d : Int)) ∧ W'.cell? ⟨w.heap.size, 1, none⟩ = some (.int .i64 (t : Int)) ∧ Below (w.heap.size + 1) W W'))
  have KI := hide (fun W' (h : W'.cell? ⟨w.heap.size, 0, none⟩ = some (.int .i64 (d : Int)) ∧ W'.cell? ⟨w.heap.size, 1, none⟩ = some (.int .i64 (t : Int)) ∧ Below (w.heap.size + 1) W W') => HI.out.below (hB.trans (h.2.2.mono (by omega))))
  have bb0 : Below (w.heap.size + 1) W W := Below.refl _ _
  have HBB := hide hB
  clear x0 x1 hB
  go_region_held3 (fun w' => w'.cell? ⟨w.heap.size, 0, none⟩ = some (.int .i64 (d : Int)) ∧ w'.cell? ⟨w.heap.size, 1, none⟩ = some (.int .i64 (t : Int)) ∧ Below (w.heap.size + 1) W w')
      (first | assumption | exact SOF.out _ (by assumption) | exact SOF.out _ bb0.drew | exact SOF.out _ (below_drewN (by assumption) _) | exact SOF.out _ (balloc' (by assumption) hz _))
      (first
        | (go_at_call 108; refine (remainderR_any d t (some ⟨b, o, none⟩) m c F _ h0 h1 t1 hm0 (by omega) ((KI.out _ (by assumption)).fewer hmn) (fun k hk => HB.out k (by omega))).mono ?_; rintro e w2 ⟨v2, rfl, A2, c2, rfl, hc2, hI2, hb2⟩; have hs2 : Below (w.heap.size + 1) W w2 := bstep2 hb2 (by assumption) hz)
        | (go_at_call 19; refine (ints_any (some ⟨b, o + m, none⟩) A2 d d (c - m) c2 (fun k => F (m + k)) (remB d t m F) _ (by omega) (by omega) ((KI.out _ (by assumption)).cut (by omega)) (hI2.weak (Nat.zero_le _))).mono ?_; rintro e w3 ⟨rfl, q3, rfl⟩))
  go_wp2_with fail
  go_ret
  exact ⟨rfl, below_drewN (HBB.out.trans (hs2.mono (by omega))) _⟩
end Go.Proofs.Ytjelbemfljobaaa
