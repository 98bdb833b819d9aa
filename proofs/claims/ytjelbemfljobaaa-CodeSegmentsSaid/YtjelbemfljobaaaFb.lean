/- Encode, Decode, Match on what is right -/
import Derived.Test.YtjelbemfljobaaaEf
import Derived.Test.YtjelbemfljobaaaEi
import Derived.Test.YtjelbemfljobaaaEn
import Derived.Test.YtjelbemfljobaaaEr
namespace Go.Proofs.Ytjelbemfljobaaa
open Go.RowKit Go.Shelf
theorem bitsErr_ok' {n : Nat} {F : Nat → Int} (h0 : 0 < n) (h1 : n ≤ 200) (hb : ∀ k, k < n → IsBit (F k)) : firstE [firstE [unI (decide (0 < n)) 10, unI (decide (n ≤ 200)) 8], unI (bitsB n F) 15] = 0 := by
  have e1 : decide (0 < n) = true := by simpa using h0
  have e2 : decide (n ≤ 200) = true := by simpa using h1
  have e3 := bitsB_iff.2 hb
  rw [e1, e2, e3]; rfl
theorem softErr_ok {n : Nat} {F : Nat → Int} (h0 : 0 < n) (h1 : n ≤ 400) (hb : ∀ k, k < n → -1000000 ≤ F k ∧ F k ≤ 1000000) : firstE [firstE [unI (decide (0 < n)) 10, unI (decide (n ≤ 400)) 8], unI (!anyN n fun j => !withinB (F j) (-1000000) 1000000) 2] = 0 := by
  have e1 : decide (0 < n) = true := by simpa using h0
  have e2 : decide (n ≤ 400) = true := by simpa using h1
  have e3 : (!anyN n fun j => !withinB (F j) (-1000000) 1000000) = true := by
    rw [Bool.not_eq_true', ← Bool.not_eq_true, anyN_iff]
    rintro ⟨j, hj, h⟩
    rw [withinB_yes (hb j hj)] at h
    cases h
  rw [e1, e2, e3]; rfl
theorem balloc' {B : Nat} {w1 W : World} (h : Below B w1 W) (hB : B ≤ w1.heap.size) (o : Obj) : Below B w1 (W.alloc o) := h.alloc (Nat.le_trans hB h.size) o
theorem bstep2 {B : Nat} {w1 W w2 : World} {p q : Prop} (hb : Below W.heap.size W w2) (h : p ∧ q ∧ Below B w1 W) (hB : B ≤ w1.heap.size) : Below B w1 w2 := h.2.2.trans (hb.mono (Nat.le_trans hB h.2.2.size))
theorem bitsError_ok (A : Option Addr) (n c : Nat) (F : Nat → Int) (w : World) (h0 : 0 < n) (hn : n ≤ 200) (hI : IntsAt w 0 A n F) (hb : ∀ k, k < n → IsBit (F k)) :
    Calls Try.prog 58 #[.slice A n c] w fun e w' => e = .returned (.int .i64 0) ∧ Below w.heap.size w w' := by
  have h := bitsError_any A n c F w (by omega) hI
  rw [bitsErr_ok' h0 hn hb] at h
  exact h
set_option maxHeartbeats 400000 in
theorem versionError_any (v : Int) (w : World) : Calls Try.prog 60 #[.int .i64 v] w fun e w' => e = .returned (.int .i64 (unI (withinB v 0 3) 15)) ∧ w = w' := by
  go_enter Try.func60, Try.ntmps60
  go_wp2_with (first | (go_at_call 80; refine (isWithin_any _ _ _ _).mono ?_; rintro e w' ⟨rfl, rfl⟩) | (go_at_call 59; refine (unless_any _ _ _).mono ?_; rintro e w' ⟨rfl, rfl⟩))
  go_ret
  exact ⟨rfl, rfl⟩
set_option maxHeartbeats 400000 in
theorem countError_any (v : Int) (w : World) : Calls Try.prog 100 #[.int .i64 v] w fun e w' => e = .returned (.int .i64 (unI (withinB v 1 400) 2)) ∧ w = w' := by
  go_enter Try.func100, Try.ntmps100
  go_wp2_with (first | (go_at_call 80; refine (isWithin_any _ _ _ _).mono ?_; rintro e w' ⟨rfl, rfl⟩) | (go_at_call 59; refine (unless_any _ _ _).mono ?_; rintro e w' ⟨rfl, rfl⟩))
  go_ret
  exact ⟨rfl, rfl⟩
set_option maxHeartbeats 2000000 in
theorem Encode_ok (p : Nat) (A C : Option Addr) (n c d : Nat) (F B : Nat → Int) (w : World) (hok : PolarOk p n F) (hn : n ≤ 200) (hI : IntsAt w 0 A n F) (hJ : IntsAt w 0 C n B) (hb : ∀ k, k < n → IsBit (B k)) :
    Calls Try.prog 52 #[.agg #[.int .i64 (p : Int), .slice A n c], .slice C n d] w fun e w' => ∃ v, e = .returned (.tuple #[v, .int .i64 0]) ∧ GaveInts w (2 ^ p) (wordF (2 ^ p) fun x => posF F B x n) v w' := by
  have HI := hide hI
  have HJ := hide hJ
  have HB := hide hb
  have HOK := hide hok
  have hn0 := hok.some_
  have hnn : ((n : Int) == (n : Int)) = true := by simp
  clear hI hJ hb hok
  go_enter Try.func52, Try.ntmps52
  go_wp2_with fail
  generalize hW : World.alloc w _ = W
  have bx : Box W w.heap.size 26 #[.int .i64 (p : Int), .slice A n c] := by rw [← hW]; exact Box.made rfl
  have hB : Below w.heap.size w W := by rw [← hW]; exact (Below.refl _ _).alloc (Nat.le_refl _) _
  clear hW
  have x0 : W.cell? ⟨w.heap.size, 0, none⟩ = some (.int .i64 (p : Int)) := bx.at_ 0
  have x1 : W.cell? ⟨w.heap.size, 1, none⟩ = some (.slice A n c) := bx.at_ 1
  have hz : w.heap.size + 1 ≤ W.heap.size := bx.lt
  have SOF := hide (fun W' (h : Below (w.heap.size + 1) W W') => (⟨(h.cell (p := ⟨w.heap.size, 0, none⟩) (by simp)).trans x0, (h.cell (p := ⟨w.heap.size, 1, none⟩) (by simp)).trans x1, h⟩ :
     W'.cell? ⟨w.heap.size, 0, none⟩ = some (.int .i64 (p : Int)) ∧ W'.cell? ⟨w.heap.size, 1, none⟩ = some (.slice A n c) ∧ Below (w.heap.size + 1) W W'))
  have KI := hide (fun W' (h : W'.cell? ⟨w.heap.size, 0, none⟩ = some (.int .i64 (p : Int)) ∧ W'.cell? ⟨w.heap.size, 1, none⟩ = some (.slice A n c) ∧ Below (w.heap.size + 1) W W') => HI.out.below (hB.trans (h.2.2.mono (by omega))))
  have KJ := hide (fun W' (h : W'.cell? ⟨w.heap.size, 0, none⟩ = some (.int .i64 (p : Int)) ∧ W'.cell? ⟨w.heap.size, 1, none⟩ = some (.slice A n c) ∧ Below (w.heap.size + 1) W W') => HJ.out.below (hB.trans (h.2.2.mono (by omega))))
  have b0 : Below (w.heap.size + 1) W W := Below.refl _ _
  have HBB := hide hB
  clear x0 x1 hB
  go_region_held3 (fun w' => w'.cell? ⟨w.heap.size, 0, none⟩ = some (.int .i64 (p : Int)) ∧ w'.cell? ⟨w.heap.size, 1, none⟩ = some (.slice A n c) ∧ Below (w.heap.size + 1) W w')
      (first | assumption | exact SOF.out _ (by assumption) | exact SOF.out _ b0.drew | exact SOF.out _ (balloc' (by assumption) hz _))
      (first
        | (go_at_call 99; refine (checkPolar_ok p A n c F _ HOK.out (by omega) (KI.out _ (by assumption))).mono ?_; rintro e w2 ⟨rfl, hb2⟩; have hs2 : Below (w.heap.size + 1) W w2 := bstep2 hb2 (by assumption) hz)
        | (go_at_call 58; refine (bitsError_ok C n d B _ hn0 hn (KJ.out _ (by assumption)) HB.out).mono ?_; rintro e w3 ⟨rfl, hb3⟩; have hs3 : Below (w.heap.size + 1) W w3 := bstep2 hb3 (by assumption) hz)
        | (go_at_call 59; refine (unless_any _ _ _).mono ?_; rintro e w4 ⟨rfl, rfl⟩)
        | (go_at_call 56; refine (firstError_laid [0, 0, unI true 10] 3 _ _ rfl (by decide)).mono ?_; rintro e w6 ⟨rfl, rfl⟩))
  rw [show firstE [0, 0, unI true 10] = (0 : Int) from rfl]
  go_wp2_with fail
  have hB3 : Below w.heap.size w w3 := HBB.out.trans (hs3.mono (by omega))
  refine (encoded_any p A C n c d F B _ HOK.out (by omega) ((HI.out.below hB3).alloc _) ((HJ.out.below hB3).alloc _) HB.out).mono ?_
  rintro e w4 ⟨v, rfl, A4, c4, rfl, hc4, hI4, hb4⟩
  have hB4 : Below w.heap.size w w4 := hB3.trans ((below_of_alloc hb4).mono hB3.size)
  go_wp2_with fail
  go_ret2
  exact ⟨_, rfl, A4, c4, rfl, hc4, hI4.weak (by have := hB3.size; simp; omega), hB4⟩
set_option maxHeartbeats 1000000 in
theorem Decode_ok (p N : Nat) (A C : Option Addr) (n c d : Nat) (F S : Nat → Int) (w : World) (hok : PolarOk p n F) (hn : n ≤ 200) (hN : N = 2 ^ p) (hI : IntsAt w 0 A n F) (hS : IntsAt w 0 C N S) (hNd : N ≤ d) (hd : d ≤ 9223372036854775807) (hS9 : ∀ j, j < N → -1000000 ≤ S j ∧ S j ≤ 1000000) :
    Calls Try.prog 54 #[.agg #[.int .i64 (p : Int), .slice A n c], .slice C N d] w fun e w' => ∃ v, e = .returned (.tuple #[v, .int .i64 0]) ∧ GaveInts w n (fun k => cancelF p (fun x => isPos F x n) S (F k).toNat) v w' := by
  have hp := hok.power
  have hN1 : 1 ≤ N := by rw [hN]; exact Nat.two_pow_pos p
  have hN9 : N ≤ 64 := by rw [hN]; exact Nat.pow_le_pow_right (by decide) hp
  have eN : (2 : Int) ^ p = (N : Int) := by rw [hN]; simp
  have HI := hide hI
  have HS := hide hS
  have HOK := hide hok
  have HN := hide hN
  have HS9 := hide hS9
  have HE := hide (softErr_ok (n := N) (by omega) (by omega) hS9)
  clear hI hS hok hN hS9
  go_enter Try.func54, Try.ntmps54
  go_wp2_with fail
  refine (checkPolar_ok p A n c F _ HOK.out (by omega) (HI.out.alloc _)).mono ?_
  rintro e w1 ⟨rfl, hb1⟩
  have h1 := below_of_alloc hb1
  go_wp2_with fail
  refine (softError_any C N d S _ (by omega) (HS.out.below h1)).mono ?_
  rintro e w2 ⟨rfl, hb2⟩
  rw [HE.out]
  go_wp2_with fail
  refine (firstError_laid [0, 0] 2 _ _ rfl (by decide)).mono ?_
  rintro e w3 ⟨rfl, hw3⟩
  rw [show firstE [0, 0] = (0 : Int) from rfl]
  have bx : Box w3 w.heap.size 26 #[.int .i64 (p : Int), .slice A n c] := by rw [← hw3]; exact (((Box.made rfl).below hb1).below hb2).alloc _
  have hB3 : Below w.heap.size w w3 := by
    rw [← hw3]
    exact (h1.trans (hb2.mono h1.size)).alloc (Nat.le_trans h1.size hb2.size) _
  clear hw3 hb1 hb2 h1
  have x0 : w3.cell? ⟨w.heap.size, 0, none⟩ = some (.int .i64 (p : Int)) := bx.at_ 0
  have x1 : w3.cell? ⟨w.heap.size, 1, none⟩ = some (.slice A n c) := bx.at_ 1
  have hl3 := bx.lt
  go_wp2_with fail
  refine (decoded_pre p A C n c N d F S _ HOK.out (by omega) HN.out (HI.out.below hB3) (HS.out.below hB3) hNd hd 1000000 (by rw [eN]; omega) HS9.out).mono ?_
  rintro e w4 ⟨v, rfl, A4, c4, rfl, hc4, hI4, hb4⟩
  go_wp2_with fail
  go_ret2
  exact ⟨_, rfl, A4, c4, rfl, hc4, hI4.weak hB3.size, hB3.trans (hb4.mono hB3.size)⟩
set_option maxHeartbeats 1000000 in
theorem Match_ok (A : Option Addr) (n c v C : Nat) (B : Nat → Int) (w : World) (hI : IntsAt w 0 A n B) (hb : ∀ k, k < n → IsBit (B k)) (hv : v ≤ 3) (hn : 1 ≤ n) (hn9 : n ≤ 200) (hC1 : 1 ≤ C) (hC : C ≤ 400) :
    Calls Try.prog 55 #[.slice A n c, .int .i64 (v : Int), .int .i64 (C : Int)] w fun e w' => ∃ x, e = .returned (.tuple #[x, .int .i64 0]) ∧ GaveInts w C (fun k => B (placeN v n k)) x w' := by
  have HI := hide hI
  have HE := hide (bitsErr_ok' (n := n) (by omega) hn9 hb)
  clear hI hb
  go_enter Try.func55, Try.ntmps55
  go_wp2_with fail
  refine (bitsError_any A n c B _ (by omega) HI.out).mono ?_
  rintro e w1 ⟨rfl, hb1⟩
  rw [HE.out]
  go_wp2_with (first | (go_at_call 60; refine (versionError_any _ _).mono ?_; rintro e w' ⟨rfl, rfl⟩) | (go_at_call 100; refine (countError_any _ _).mono ?_; rintro e w' ⟨rfl, rfl⟩))
  rw [withinB_yes (by omega), withinB_yes (by omega)]
  refine (firstError_laid [0, unI true 15, unI true 2] 3 _ _ rfl (by decide)).mono ?_
  rintro e w3 ⟨rfl, hw3⟩
  rw [show firstE [0, unI true 15, unI true 2] = (0 : Int) from rfl]
  have hB3 : Below w.heap.size w w3 := by
    rw [← hw3]
    exact hb1.alloc hb1.size _
  clear hw3 hb1
  go_wp2_with fail
  refine (matched_any A n c v C B _ (HI.out.below hB3) hv hn (by omega) (by omega)).mono ?_
  rintro e w4 ⟨x, rfl, A4, c4, rfl, hc4, hI4, hb4⟩
  go_wp2_with fail
  go_ret2
  exact ⟨_, rfl, A4, c4, rfl, hc4, hI4.weak hB3.size, hB3.trans (hb4.mono hB3.size)⟩
end Go.Proofs.Ytjelbemfljobaaa
