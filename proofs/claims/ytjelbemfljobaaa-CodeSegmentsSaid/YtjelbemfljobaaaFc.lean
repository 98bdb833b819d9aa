/- awake: the document's examples. -/
import Derived.Test.YtjelbemfljobaaaFa
import Derived.Test.YtjelbemfljobaaaFb
namespace Go.Proofs.Ytjelbemfljobaaa
open Go.RowKit Go.Shelf
theorem polarOk_doc : PolarOk 2 3 (getL [1, 2, 3]) := ⟨by decide, by decide, fun k hk => by match k, hk with | 0, _ => decide | 1, _ => decide | 2, _ => decide, fun k hk => by match k, hk with | 0, _ => decide | 1, _ => decide⟩
theorem isBits_doc (l : List Int) (n : Nat) (h : ((List.range n).all fun k => decide (IsBit (getL l k))) = true) : ∀ k, k < n → IsBit (getL l k) := fun k hk => by
  rw [List.all_eq_true] at h
  simpa using h k (List.mem_range.2 hk)
theorem ints_b (A C : Option Addr) (n m c d : Nat) (F G : Nat → Int) (w : World) (hn : n ≤ 100000) (hm : m ≤ 100000) (hF : IntsAt w 0 A n F) (hG : IntsAt w 0 C m G) :
    Calls Try.prog 19 #[.slice A n c, .slice C m d] w fun e w' => e = .returned (.bool (intsB n F m G)) ∧ Below w.heap.size w w' :=
  (ints_any A C n m c d F G w hn hm hF hG).mono fun _ _ ⟨h, q, hq⟩ => ⟨h, by rw [hq]; exact below_drewN (Below.refl _ _) q⟩
set_option maxHeartbeats 8000000 in
set_option maxRecDepth 100000 in
theorem awake_any (w : World) : Calls Try.prog 10 #[] w fun e w' => e = .returned (.bool true) ∧ Below w.heap.size w w' := by
  go_enter Try.func10, Try.ntmps10
  go_wp2_with fail
  refine (Poly_any _).mono ?_
  rintro e w1 ⟨rfl, hb1⟩
  go_wp2_with fail
  refine (Remainder_ok 3 3 (some ⟨w1.heap.size, 0, none⟩) 1 1 (getL [1]) _ (by decide) (by decide) (by decide) (by decide) (by decide) (by decide) (IntsAt.of_box [1] 1 rfl (Box.made rfl) (Nat.zero_le _)) (isBits_doc _ _ (by decide))).mono ?_
  rintro e w2 ⟨v2, rfl, A2, c2, rfl, hc2, hI2, hb2⟩
  have hB2 : Below w.heap.size w w2 := hb1.trans ((below_of_alloc hb2).mono hb1.size)
  clear hb1 hb2
  go_wp2_with fail
  refine (Polar_any _).mono ?_
  rintro e w3 ⟨g3, rfl, hP3, hb3⟩
  have hB3 : Below w.heap.size w w3 := hB2.trans (hb3.mono hB2.size)
  have hI3 := hI2.below hb3
  clear hb3 hB2 hI2
  go_wp2_with fail
  refine (Encode_ok 2 (some ⟨g3, 0, none⟩) (some ⟨w3.heap.size, 0, none⟩) 3 3 3 (getL [1, 2, 3]) (getL [1, 0, 1]) _ polarOk_doc (by decide) ((hP3.weak (Nat.zero_le _)).alloc _) (IntsAt.of_box [1, 0, 1] 3 rfl (Box.made rfl) (Nat.zero_le _)) (isBits_doc _ _ (by decide))).mono ?_
  rintro e w4 ⟨v4, rfl, A4, c4, rfl, hc4, hI4, hb4⟩
  have hB4 : Below w.heap.size w w4 := hB3.trans ((below_of_alloc hb4).mono hB3.size)
  have hJ4 := hI3.below (below_of_alloc hb4)
  clear hb4 hB3 hI3 hP3
  go_wp2_with fail
  refine (Polar_any _).mono ?_
  rintro e w5 ⟨g5, rfl, hP5, hb5⟩
  have hB5 : Below w.heap.size w w5 := hB4.trans (hb5.mono hB4.size)
  have hI5 := hI4.below hb5
  have hJ5 := hJ4.below hb5
  clear hb5 hB4 hI4 hJ4
  go_wp2_with fail
  refine (Decode_ok 2 4 (some ⟨g5, 0, none⟩) (some ⟨w5.heap.size, 0, none⟩) 3 3 4 (getL [1, 2, 3]) (getL [4, 3, -2, -5]) _ polarOk_doc (by decide) (by decide) ((hP5.weak (Nat.zero_le _)).alloc _) (IntsAt.of_box [4, 3, -2, -5] 4 rfl (Box.made rfl) (Nat.zero_le _)) (by decide) (by decide) (fun k hk => by match k, hk with | 0, _ => decide | 1, _ => decide | 2, _ => decide | 3, _ => decide)).mono ?_
  rintro e w6 ⟨v6, rfl, A6, c6, rfl, hc6, hI6, hb6⟩
  have hB6 : Below w.heap.size w w6 := hB5.trans ((below_of_alloc hb6).mono hB5.size)
  have hJ6 := hI5.below (below_of_alloc hb6)
  have hK6 := hJ5.below (below_of_alloc hb6)
  clear hb6 hB5 hI5 hJ5 hP5
  go_wp2_with fail
  refine (Match_ok (some ⟨w6.heap.size, 0, none⟩) 5 5 1 7 (getL [0, 0, 1, 1, 1]) _ (IntsAt.of_box [0, 0, 1, 1, 1] 5 rfl (Box.made rfl) (Nat.zero_le _)) (isBits_doc _ _ (by decide)) (by decide) (by decide) (by decide) (by decide) (by decide)).mono ?_
  rintro e w7 ⟨v7, rfl, A7, c7, rfl, hc7, hI7, hb7⟩
  have hB7 : Below w.heap.size w w7 := hB6.trans ((below_of_alloc hb7).mono hB6.size)
  have hM7 := hI6.below (below_of_alloc hb7)
  have hJ7 := hJ6.below (below_of_alloc hb7)
  have hK7 := hK6.below (below_of_alloc hb7)
  clear hb7 hB6 hI6 hJ6 hK6
  go_wp2_with fail
  refine (ints_b A2 (some ⟨w7.heap.size, 0, none⟩) 3 3 c2 3 _ (getL [0, 1, 1]) _ (by decide) (by decide) ((hK7.weak (Nat.zero_le _)).alloc _) (IntsAt.of_box [0, 1, 1] 3 rfl (Box.made rfl) (Nat.zero_le _))).mono ?_
  rintro e x1 ⟨rfl, hc1'⟩
  rw [show intsB 3 (remB 3 3 1 (getL [1])) 3 (getL [0, 1, 1]) = true from by decide]
  have hC1 : Below w.heap.size w x1 := hB7.trans ((below_of_alloc hc1').mono hB7.size)
  have hJ7x := hJ7.below (below_of_alloc hc1')
  have hM7x := hM7.below (below_of_alloc hc1')
  have hI7x := hI7.below (below_of_alloc hc1')
  go_wp2_with fail
  refine (ints_b A4 (some ⟨x1.heap.size, 0, none⟩) 4 4 c4 4 _ (getL [0, 0, 1, 1]) _ (by decide) (by decide) ((hJ7x.weak (Nat.zero_le _)).alloc _) (IntsAt.of_box [0, 0, 1, 1] 4 rfl (Box.made rfl) (Nat.zero_le _))).mono ?_
  rintro e x2 ⟨rfl, hc2'⟩
  rw [show intsB 4 (wordF 4 fun x => posF (getL [1, 2, 3]) (getL [1, 0, 1]) x 3) 4 (getL [0, 0, 1, 1]) = true from by decide]
  have hC2 : Below w.heap.size w x2 := hC1.trans ((below_of_alloc hc2').mono hC1.size)
  have hM7xx := hM7x.below (below_of_alloc hc2')
  have hI7xx := hI7x.below (below_of_alloc hc2')
  go_wp2_with fail
  refine (ints_b A6 (some ⟨x2.heap.size, 0, none⟩) 3 3 c6 3 _ (getL [1, 0, 1]) _ (by decide) (by decide) ((hM7xx.weak (Nat.zero_le _)).alloc _) (IntsAt.of_box [1, 0, 1] 3 rfl (Box.made rfl) (Nat.zero_le _))).mono ?_
  rintro e x3 ⟨rfl, hc3'⟩
  rw [show intsB 3 (fun k => cancelF 2 (fun x => isPos (getL [1, 2, 3]) x 3) (getL [4, 3, -2, -5]) (getL [1, 2, 3] k).toNat) 3 (getL [1, 0, 1]) = true from by decide]
  have hC3 : Below w.heap.size w x3 := hC2.trans ((below_of_alloc hc3').mono hC2.size)
  have hI7xxx := hI7xx.below (below_of_alloc hc3')
  go_wp2_with fail
  refine (ints_b A7 (some ⟨x3.heap.size, 0, none⟩) 7 7 c7 7 _ (getL [0, 1, 1, 1, 0, 0, 1]) _ (by decide) (by decide) ((hI7xxx.weak (Nat.zero_le _)).alloc _) (IntsAt.of_box [0, 1, 1, 1, 0, 0, 1] 7 rfl (Box.made rfl) (Nat.zero_le _))).mono ?_
  rintro e x4 ⟨rfl, hc4'⟩
  rw [show intsB 7 (fun k => getL [0, 0, 1, 1, 1] (placeN 1 5 k)) 7 (getL [0, 1, 1, 1, 0, 0, 1]) = true from by decide]
  have hC4 : Below w.heap.size w x4 := hC3.trans ((below_of_alloc hc4').mono hC3.size)
  go_wp2_with fail
  go_ret
  exact ⟨rfl, hC4⟩
end Go.Proofs.Ytjelbemfljobaaa
