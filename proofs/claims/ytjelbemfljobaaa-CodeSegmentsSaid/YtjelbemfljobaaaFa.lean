/- Remainder, Encode, Decode, Match on what is right -/
import Derived.Test.YtjelbemfljobaaaEf
import Derived.Test.YtjelbemfljobaaaEg
import Derived.Test.YtjelbemfljobaaaEi
import Derived.Test.YtjelbemfljobaaaEn
namespace Go.Proofs.Ytjelbemfljobaaa
open Go.RowKit
/-- The numbers of a list, 0 behind it. -/
def getL (l : List Int) (k : Nat) : Int := l.getD k 0
theorem IntsAt.of_box {w : World} {lo g : Nat} {t : TypeId} (l : List Int) (n : Nat) (hn : n = l.length) (h : Box w g t (l.map (Value.int .i64)).toArray) (hl : lo ≤ g) : IntsAt w lo (some ⟨g, 0, none⟩) n (getL l) := fun k hk => by
  subst hn
  refine ⟨g, 0, rfl, hl, h.lt, ?_⟩
  rw [Nat.zero_add, h.at_ k, List.getElem?_toArray, List.getElem?_map, List.getElem?_eq_getElem hk]
  simp [getL, hk]
theorem firstE_nil : firstE [] = 0 := rfl
theorem firstE_cons (e : Int) (r : List Int) : firstE (e :: r) = if e = 0 then firstE r else e := rfl
theorem bitsErr_ok {n : Nat} {F : Nat → Int} (h0 : 0 < n) (h1 : n ≤ 200) (hb : ∀ k, k < n → IsBit (F k)) : firstE [firstE [unI (decide (0 < n)) 10, unI (decide (n ≤ 200)) 8], unI (bitsB n F) 15] = 0 := by
  have e1 : decide (0 < n) = true := by simpa using h0
  have e2 : decide (n ≤ 200) = true := by simpa using h1
  have e3 := bitsB_iff.2 hb
  rw [e1, e2, e3]; rfl
set_option maxHeartbeats 1000000 in
theorem Remainder_ok (d t : Nat) (A : Option Addr) (n c : Nat) (F : Nat → Int) (w : World) (h0 : 1 ≤ d) (h1 : d ≤ 16) (t0 : t % 2 = 1) (t1 : t < 2 ^ d) (hn0 : 0 < n) (hn : n ≤ 200) (hI : IntsAt w 0 A n F) (hb : ∀ k, k < n → IsBit (F k)) :
    Calls Try.prog 50 #[.agg #[.int .i64 (d : Int), .int .i64 (t : Int)], .slice A n c] w fun e w' => ∃ v, e = .returned (.tuple #[v, .int .i64 0]) ∧ GaveInts w d (remB d t n F) v w' := by
  have HI := hide hI
  have HB := hide hb
  have HP := hide (show polyErrI (d : Int) (t : Int) = 0 from by
    have : ((2 ^ d : Nat) : Int) = (2 : Int) ^ d := by simp
    unfold polyErrI
    rw [if_pos (by omega), Int.toNat_natCast, if_pos (by omega), if_neg (by omega)])
  have HE := hide (bitsErr_ok hn0 hn hb)
  clear hI hb t0
  go_enter Try.func50, Try.ntmps50
  go_wp2_with fail
  refine (checkPoly_any _ _ _).mono ?_
  rintro e w1 ⟨rfl, hb1⟩
  rw [HP.out]
  have hs1 := hb1.size
  have hI1 := HI.out.below (below_of_alloc hb1)
  go_wp2_with fail
  refine (bitsError_any A n c F _ (by omega) hI1).mono ?_
  rintro e w2 ⟨rfl, hb2⟩
  rw [HE.out]
  go_wp2_with fail
  refine (firstError_laid [0, 0] 2 _ _ rfl (by decide)).mono ?_
  rintro e w3 ⟨rfl, hw3⟩
  rw [show firstE [0, 0] = (0 : Int) from rfl]
  have bx : Box w3 w.heap.size 23 #[.int .i64 (d : Int), .int .i64 (t : Int)] := by rw [← hw3]; exact (((Box.made rfl).below hb1).below hb2).alloc _
  have hB3 : Below w.heap.size w w3 := by
    rw [← hw3]
    have h1 := below_of_alloc hb1
    exact (h1.trans (hb2.mono h1.size)).alloc (Nat.le_trans h1.size hb2.size) _
  clear hw3 hb1 hb2 hs1 hI1
  have x0 : w3.cell? ⟨w.heap.size, 0, none⟩ = some (.int .i64 (d : Int)) := bx.at_ 0
  have x1 : w3.cell? ⟨w.heap.size, 1, none⟩ = some (.int .i64 (t : Int)) := bx.at_ 1
  have hl3 := bx.lt
  go_wp2_with fail
  refine (remainder_any d t A n c F _ h0 h1 t1 (by omega) (HI.out.below hB3) HB.out).mono ?_
  rintro e w4 ⟨v, rfl, A4, c4, rfl, hc4, hI4, hb4⟩
  go_wp2_with fail
  go_ret2
  exact ⟨_, rfl, A4, c4, rfl, hc4, hI4.weak hB3.size, hB3.trans (hb4.mono hB3.size)⟩

set_option maxHeartbeats 1000000 in
theorem Poly_any (w : World) : Calls Try.prog 51 #[] w fun e w' => e = .returned (.agg #[.int .i64 3, .int .i64 3]) ∧ Below w.heap.size w w' := by
  go_enter Try.func51, Try.ntmps51
  go_wp2_with fail
  refine bodyPost_ret (v := .agg #[.int .i64 3, .int .i64 3]) ?_ rfl ⟨rfl, ?_⟩
  · simp [results, Try.results51, go_sem]
  · (repeat (first | (with_reducible exact Below.refl _ _) | (with_reducible refine below_drewN ?_ _) | (with_reducible refine Below.drew ?_) | (with_reducible refine Below.alloc ?_ (by first | exact Nat.le_refl _ | (simp; done) | (simp; omega) | omega) _) | (with_reducible refine Below.setCell ?_ (by first | exact Nat.le_refl _ | (simp; done) | (simp; omega) | omega) _)))
set_option maxHeartbeats 1000000 in
theorem Polar_any (w : World) : Calls Try.prog 53 #[] w fun e w' => ∃ g, e = .returned (.agg #[.int .i64 2, .slice (some ⟨g, 0, none⟩) 3 3]) ∧ IntsAt w' w.heap.size (some ⟨g, 0, none⟩) 3 (getL [1, 2, 3]) ∧ Below w.heap.size w w' := by
  go_enter Try.func53, Try.ntmps53
  go_wp2_with fail
  refine bodyPost_ret (v := .agg #[.int .i64 2, .slice (some ⟨w.heap.size + 1, 0, none⟩) 3 3]) ?_ rfl ⟨w.heap.size + 1, rfl, ?_, ?_⟩
  · simp [results, Try.results53, go_sem]
  · exact IntsAt.of_box [1, 2, 3] 3 rfl (Box.made (by simp)) (by omega)
  · (repeat (first | (with_reducible exact Below.refl _ _) | (with_reducible refine below_drewN ?_ _) | (with_reducible refine Below.drew ?_) | (with_reducible refine Below.alloc ?_ (by first | exact Nat.le_refl _ | (simp; done) | (simp; omega) | omega) _) | (with_reducible refine Below.setCell ?_ (by first | exact Nat.le_refl _ | (simp; done) | (simp; omega) | omega) _)))
end Go.Proofs.Ytjelbemfljobaaa
