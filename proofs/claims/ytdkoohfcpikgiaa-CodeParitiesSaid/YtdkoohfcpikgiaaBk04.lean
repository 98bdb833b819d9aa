/- Lemmas: Fb, Ea, Eg, Fa, Hd, Jb, Lb, Mb, Hc. -/
import Derived.Test.YtdkoohfcpikgiaaBk01
import Derived.Test.YtdkoohfcpikgiaaBk02
import Derived.Test.YtdkoohfcpikgiaaBk03
set_option linter.unusedVariables false
set_option linter.unusedSimpArgs false
/- Encode, Decode, Match on what is right -/
namespace Go.Proofs.Ytdkoohfcpikgiaa
open Go.RowKit Go.Shelf
theorem bitsErr_ok' {n : Nat} {F : Nat → Int} (h0 : 0 < n) (h1 : n ≤ 200) (hb : ∀ k, k < n → IsBit (F k)) : firstE [firstE [unI (decide (0 < n)) 10, unI (decide (n ≤ 200)) 8], unI (bitsB n F) 15] = 0 := by
  have e1 : decide (0 < n) = true := by simpa using h0
  have e2 : decide (n ≤ 200) = true := by simpa using h1
  have e3 := bitsB_iff.2 hb
  rw [e1, e2, e3]; rfl
theorem softErr_ok {n : Nat} {F : Nat → Int} (h0 : 0 < n) (h1 : n ≤ 400) (hb : ∀ k, k < n → -1000000 ≤ F k ∧ F k ≤ 1000000) : firstE [firstE [unI (decide (0 < n)) 10, unI (decide (n ≤ 400)) 8], unI (!anyN n fun j => !withinB (F j) (-1000000) 1000000) 2] = 0 := by
  have e1 : decide (0 < n) = true := by simpa using h0
  have e2 : decide (n ≤ 400) = true := by simpa using h1
  have e3 : (!anyN n fun j => !withinB (F j) (-1000000) 1000000) = true := by
    rw [Bool.not_eq_true', ← Bool.not_eq_true, anyN_iff]
    rintro ⟨j, hj, h⟩
    rw [withinB_yes (hb j hj)] at h
    cases h
  rw [e1, e2, e3]; rfl
theorem balloc' {B : Nat} {w1 W : World} (h : Below B w1 W) (hB : B ≤ w1.heap.size) (o : Obj) : Below B w1 (W.alloc o) := h.alloc (Nat.le_trans hB h.size) o
theorem bstep2 {B : Nat} {w1 W w2 : World} {p q : Prop} (hb : Below W.heap.size W w2) (h : p ∧ q ∧ Below B w1 W) (hB : B ≤ w1.heap.size) : Below B w1 w2 := h.2.2.trans (hb.mono (Nat.le_trans hB h.2.2.size))
theorem bitsError_ok (A : Option Addr) (n c : Nat) (F : Nat → Int) (w : World) (h0 : 0 < n) (hn : n ≤ 200) (hI : IntsAt w 0 A n F) (hb : ∀ k, k < n → IsBit (F k)) :
    Calls Try.prog 34 #[.slice A n c] w fun e w' => e = .returned (.int .i64 0) ∧ Below w.heap.size w w' := by
  have h := bitsError_any A n c F w (by omega) hI
  rw [bitsErr_ok' h0 hn hb] at h
  exact h
set_option maxHeartbeats 400000 in
theorem versionError_any (v : Int) (w : World) : Calls Try.prog 49 #[.int .i64 v] w fun e w' => e = .returned (.int .i64 (unI (withinB v 0 3) 15)) ∧ w = w' := by
  go_enter Try.func49, Try.ntmps49
  go_wp2_with (first | (go_at_call 29; refine (isWithin_any _ _ _ _).mono ?_; rintro e w' ⟨rfl, rfl⟩) | (go_at_call 35; refine (unless_any _ _ _).mono ?_; rintro e w' ⟨rfl, rfl⟩))
  go_ret
  exact ⟨rfl, rfl⟩
set_option maxHeartbeats 400000 in
theorem countError_any (v : Int) (w : World) : Calls Try.prog 50 #[.int .i64 v] w fun e w' => e = .returned (.int .i64 (unI (withinB v 1 400) 2)) ∧ w = w' := by
  go_enter Try.func50, Try.ntmps50
  go_wp2_with (first | (go_at_call 29; refine (isWithin_any _ _ _ _).mono ?_; rintro e w' ⟨rfl, rfl⟩) | (go_at_call 35; refine (unless_any _ _ _).mono ?_; rintro e w' ⟨rfl, rfl⟩))
  go_ret
  exact ⟨rfl, rfl⟩
set_option maxHeartbeats 2000000 in
theorem Encode_ok (p : Nat) (A C : Option Addr) (n c d : Nat) (F B : Nat → Int) (w : World) (hok : PolarOk p n F) (hn : n ≤ 200) (hI : IntsAt w 0 A n F) (hJ : IntsAt w 0 C n B) (hb : ∀ k, k < n → IsBit (B k)) :
    Calls Try.prog 25 #[.agg #[.int .i64 (p : Int), .slice A n c], .slice C n d] w fun e w' => ∃ v, e = .returned (.tuple #[v, .int .i64 0]) ∧ GaveInts w (2 ^ p) (wordF (2 ^ p) fun x => posF F B x n) v w' := by
  have HI := hide hI
  have HJ := hide hJ
  have HB := hide hb
  have HOK := hide hok
  have hn0 := hok.some_
  have hnn : ((n : Int) == (n : Int)) = true := by simp
  clear hI hJ hb hok
  go_enter Try.func25, Try.ntmps25
  go_wp2_with fail
  generalize hW : World.alloc w _ = W
  have bx : Box W w.heap.size 55 #[.int .i64 (p : Int), .slice A n c] := by rw [← hW]; exact Box.made rfl
  have hB : Below w.heap.size w W := by rw [← hW]; exact (Below.refl _ _).alloc (Nat.le_refl _) _
  clear hW
  have x0 : W.cell? ⟨w.heap.size, 0, none⟩ = some (.int .i64 (p : Int)) := bx.at_ 0
  have x1 : W.cell? ⟨w.heap.size, 1, none⟩ = some (.slice A n c) := bx.at_ 1
  have hz : w.heap.size + 1 ≤ W.heap.size := bx.lt
  have SOF := hide (fun W' (h : Below (w.heap.size + 1) W W') => (⟨(h.cell (p := ⟨w.heap.size, 0, none⟩) (by simp)).trans x0, (h.cell (p := ⟨w.heap.size, 1, none⟩) (by simp)).trans x1, h⟩ :
     W'.cell? ⟨w.heap.size, 0, none⟩ = some (.int .i64 (p : Int)) ∧ W'.cell? ⟨w.heap.size, 1, none⟩ = some (.slice A n c) ∧ Below (w.heap.size + 1) W W'))
  have KI := hide (fun W' (h : W'.cell? ⟨w.heap.size, 0, none⟩ = some (.int .i64 (p : Int)) ∧ W'.cell? ⟨w.heap.size, 1, none⟩ = some (.slice A n c) ∧ Below (w.heap.size + 1) W W') => HI.out.below (hB.trans (h.2.2.mono (by omega))))
  have KJ := hide (fun W' (h : W'.cell? ⟨w.heap.size, 0, none⟩ = some (.int .i64 (p : Int)) ∧ W'.cell? ⟨w.heap.size, 1, none⟩ = some (.slice A n c) ∧ Below (w.heap.size + 1) W W') => HJ.out.below (hB.trans (h.2.2.mono (by omega))))
  have b0 : Below (w.heap.size + 1) W W := Below.refl _ _
  have HBB := hide hB
  clear x0 x1 hB
  go_region_held3 (fun w' => w'.cell? ⟨w.heap.size, 0, none⟩ = some (.int .i64 (p : Int)) ∧ w'.cell? ⟨w.heap.size, 1, none⟩ = some (.slice A n c) ∧ Below (w.heap.size + 1) W w')
      (first | assumption | exact SOF.out _ (by assumption) | exact SOF.out _ b0.drew | exact SOF.out _ (balloc' (by assumption) hz _))
      (first
        | (go_at_call 45; refine (checkPolar_ok p A n c F _ HOK.out (by omega) (KI.out _ (by assumption))).mono ?_; rintro e w2 ⟨rfl, hb2⟩; have hs2 : Below (w.heap.size + 1) W w2 := bstep2 hb2 (by assumption) hz)
        | (go_at_call 34; refine (bitsError_ok C n d B _ hn0 hn (KJ.out _ (by assumption)) HB.out).mono ?_; rintro e w3 ⟨rfl, hb3⟩; have hs3 : Below (w.heap.size + 1) W w3 := bstep2 hb3 (by assumption) hz)
        | (go_at_call 35; refine (unless_any _ _ _).mono ?_; rintro e w4 ⟨rfl, rfl⟩)
        | (go_at_call 32; refine (firstError_laid [0, 0, unI true 10] 3 _ _ rfl (by decide)).mono ?_; rintro e w6 ⟨rfl, rfl⟩))
  rw [show firstE [0, 0, unI true 10] = (0 : Int) from rfl]
  go_wp2_with fail
  have hB3 : Below w.heap.size w w3 := HBB.out.trans (hs3.mono (by omega))
  refine (encoded_any p A C n c d F B _ HOK.out (by omega) ((HI.out.below hB3).alloc _) ((HJ.out.below hB3).alloc _) HB.out).mono ?_
  rintro e w4 ⟨v, rfl, A4, c4, rfl, hc4, hI4, hb4⟩
  have hB4 : Below w.heap.size w w4 := hB3.trans ((below_of_alloc hb4).mono hB3.size)
  go_wp2_with fail
  go_ret2
  exact ⟨_, rfl, A4, c4, rfl, hc4, hI4.weak (by have := hB3.size; simp; omega), hB4⟩
set_option maxHeartbeats 1000000 in
theorem Decode_ok (p N : Nat) (A C : Option Addr) (n c d : Nat) (F S : Nat → Int) (w : World) (hok : PolarOk p n F) (hn : n ≤ 200) (hN : N = 2 ^ p) (hI : IntsAt w 0 A n F) (hS : IntsAt w 0 C N S) (hNd : N ≤ d) (hd : d ≤ 9223372036854775807) (hS9 : ∀ j, j < N → -1000000 ≤ S j ∧ S j ≤ 1000000) :
    Calls Try.prog 27 #[.agg #[.int .i64 (p : Int), .slice A n c], .slice C N d] w fun e w' => ∃ v, e = .returned (.tuple #[v, .int .i64 0]) ∧ GaveInts w n (fun k => cancelF p (fun x => isPos F x n) S (F k).toNat) v w' := by
  have hp := hok.power
  have hN1 : 1 ≤ N := by rw [hN]; exact Nat.two_pow_pos p
  have hN9 : N ≤ 64 := by rw [hN]; exact Nat.pow_le_pow_right (by decide) hp
  have eN : (2 : Int) ^ p = (N : Int) := by rw [hN]; simp
  have HI := hide hI
  have HS := hide hS
  have HOK := hide hok
  have HN := hide hN
  have HS9 := hide hS9
  have HE := hide (softErr_ok (n := N) (by omega) (by omega) hS9)
  clear hI hS hok hN hS9
  go_enter Try.func27, Try.ntmps27
  go_wp2_with fail
  refine (checkPolar_ok p A n c F _ HOK.out (by omega) (HI.out.alloc _)).mono ?_
  rintro e w1 ⟨rfl, hb1⟩
  have h1 := below_of_alloc hb1
  go_wp2_with fail
  refine (softError_any C N d S _ (by omega) (HS.out.below h1)).mono ?_
  rintro e w2 ⟨rfl, hb2⟩
  rw [HE.out]
  go_wp2_with fail
  refine (firstError_laid [0, 0] 2 _ _ rfl (by decide)).mono ?_
  rintro e w3 ⟨rfl, hw3⟩
  rw [show firstE [0, 0] = (0 : Int) from rfl]
  have bx : Box w3 w.heap.size 55 #[.int .i64 (p : Int), .slice A n c] := by rw [← hw3]; exact (((Box.made rfl).below hb1).below hb2).alloc _
  have hB3 : Below w.heap.size w w3 := by
    rw [← hw3]
    exact (h1.trans (hb2.mono h1.size)).alloc (Nat.le_trans h1.size hb2.size) _
  clear hw3 hb1 hb2 h1
  have x0 : w3.cell? ⟨w.heap.size, 0, none⟩ = some (.int .i64 (p : Int)) := bx.at_ 0
  have x1 : w3.cell? ⟨w.heap.size, 1, none⟩ = some (.slice A n c) := bx.at_ 1
  have hl3 := bx.lt
  go_wp2_with fail
  refine (decoded_pre p A C n c N d F S _ HOK.out (by omega) HN.out (HI.out.below hB3) (HS.out.below hB3) hNd hd 1000000 (by rw [eN]; omega) HS9.out).mono ?_
  rintro e w4 ⟨v, rfl, A4, c4, rfl, hc4, hI4, hb4⟩
  go_wp2_with fail
  go_ret2
  exact ⟨_, rfl, A4, c4, rfl, hc4, hI4.weak hB3.size, hB3.trans (hb4.mono hB3.size)⟩
set_option maxHeartbeats 1000000 in
theorem Match_ok (A : Option Addr) (n c v C : Nat) (B : Nat → Int) (w : World) (hI : IntsAt w 0 A n B) (hb : ∀ k, k < n → IsBit (B k)) (hv : v ≤ 3) (hn : 1 ≤ n) (hn9 : n ≤ 200) (hC1 : 1 ≤ C) (hC : C ≤ 400) :
    Calls Try.prog 28 #[.slice A n c, .int .i64 (v : Int), .int .i64 (C : Int)] w fun e w' => ∃ x, e = .returned (.tuple #[x, .int .i64 0]) ∧ GaveInts w C (fun k => B (placeN v n k)) x w' := by
  have HI := hide hI
  have HE := hide (bitsErr_ok' (n := n) (by omega) hn9 hb)
  clear hI hb
  go_enter Try.func28, Try.ntmps28
  go_wp2_with fail
  refine (bitsError_any A n c B _ (by omega) HI.out).mono ?_
  rintro e w1 ⟨rfl, hb1⟩
  rw [HE.out]
  go_wp2_with (first | (go_at_call 49; refine (versionError_any _ _).mono ?_; rintro e w' ⟨rfl, rfl⟩) | (go_at_call 50; refine (countError_any _ _).mono ?_; rintro e w' ⟨rfl, rfl⟩))
  rw [withinB_yes (by omega), withinB_yes (by omega)]
  refine (firstError_laid [0, unI true 15, unI true 2] 3 _ _ rfl (by decide)).mono ?_
  rintro e w3 ⟨rfl, hw3⟩
  rw [show firstE [0, unI true 15, unI true 2] = (0 : Int) from rfl]
  have hB3 : Below w.heap.size w w3 := by
    rw [← hw3]
    exact hb1.alloc hb1.size _
  clear hw3 hb1
  go_wp2_with fail
  refine (matched_any A n c v C B _ (HI.out.below hB3) hv hn (by omega) (by omega)).mono ?_
  rintro e w4 ⟨x, rfl, A4, c4, rfl, hc4, hI4, hb4⟩
  go_wp2_with fail
  go_ret2
  exact ⟨_, rfl, A4, c4, rfl, hc4, hI4.weak hB3.size, hB3.trans (hb4.mono hB3.size)⟩
end Go.Proofs.Ytdkoohfcpikgiaa
/- exploring -/
namespace Go.Proofs.Ytdkoohfcpikgiaa
open Go.RowKit
theorem balloc {B : Nat} {w1 W : World} (h : Below B w1 W) (hB : B ≤ w1.heap.size) (o : Obj) : Below B w1 (W.alloc o) := h.alloc (Nat.le_trans hB h.size) o
theorem bstep {B : Nat} {w1 W w2 : World} (hb : Below W.heap.size W w2) (h : Below B w1 W) (hB : B ≤ w1.heap.size) : Below B w1 w2 := h.trans (hb.mono (Nat.le_trans hB h.size))
theorem bstepS {B : Nat} {w1 W w2 : World} {p q : Prop} (hb : Below W.heap.size W w2) (h : p ∧ q ∧ Below B w1 W) (hB : B ≤ w1.heap.size) : Below B w1 w2 := bstep hb h.2.2 hB
set_option maxHeartbeats 1000000 in
theorem checkPoly_any (d t : Int) (w : World) :
    Calls Try.prog 43 #[.agg #[.int .i64 d, .int .i64 t]] w fun e w' => e = .returned (.int .i64 (polyErrI d t)) ∧ Below w.heap.size w w' := by
  by_cases hd : 1 ≤ d ∧ d ≤ 16
  · obtain ⟨d, rfl⟩ := Int.eq_ofNat_of_zero_le (show 0 ≤ d by omega)
    obtain ⟨h0, h⟩ : 1 ≤ d ∧ d ≤ 16 := by omega
    clear hd
    obtain ⟨h1, h2⟩ := pow2_le d h
    by_cases ht : 1 ≤ t ∧ t ≤ 2 ^ d - 1
    · obtain ⟨t0, t1⟩ := ht
      have HWI := hide (withinB_yes (n := t) (lo := 1) (hi := 2 ^ d - 1) ⟨t0, t1⟩)
      have EQ := hide (show polyErrI (d : Int) t = if t % 2 = 0 then 3 else 0 from by
        unfold polyErrI
        rw [if_pos (by omega), Int.toNat_natCast, if_pos ⟨t0, t1⟩])
      generalize polyErrI (d : Int) t = R at *
      go_enter Try.func43, Try.ntmps43
      go_wp2_with fail
      refine (isWithin_any _ _ _ _).mono ?_; rintro e w' ⟨rfl, rfl⟩
      rw [withinB_yes (by omega)]
      go_wp2_with fail
      generalize hW : World.alloc w _ = W
      have bx : Box W w.heap.size 51 #[.int .i64 (d : Int), .int .i64 t] := by rw [← hW]; exact Box.made rfl
      have hB : Below w.heap.size w W := by rw [← hW]; exact (Below.refl _ _).alloc (Nat.le_refl _) _
      clear hW
      have x0 := bx.at_ 0
      have x1 := bx.at_ 1
      simp only [List.getElem?_toArray] at x0 x1
      have hz := bx.lt
      have SOF := hide (fun W' (h : Below (w.heap.size + 1) W W') => (⟨(h.cell (p := ⟨w.heap.size, 0, none⟩) (by simp)).trans x0, (h.cell (p := ⟨w.heap.size, 1, none⟩) (by simp)).trans x1, h⟩ :
         W'.cell? ⟨w.heap.size, 0, none⟩ = some (.int .i64 (d : Int)) ∧ W'.cell? ⟨w.heap.size, 1, none⟩ = some (.int .i64 t) ∧ Below (w.heap.size + 1) W W'))
      have b0 : Below (w.heap.size + 1) W W := Below.refl _ _
      go_region_held3 (fun w' => w'.cell? ⟨w.heap.size, 0, none⟩ = some (.int .i64 (d : Int)) ∧ w'.cell? ⟨w.heap.size, 1, none⟩ = some (.int .i64 t) ∧ Below (w.heap.size + 1) W w')
          (first | exact SOF.out _ (by assumption) | exact SOF.out _ b0.drew | exact SOF.out _ (balloc (by assumption) hz _))
          (first
            | (go_at_call 57; refine (maskOf_any _ _ _ h).mono ?_; rintro e w2 ⟨rfl, hb2⟩; have hs2 : Below (w.heap.size + 1) W w2 := bstepS hb2 (by assumption) hz)
            | (go_at_call 29; refine (isWithin_any _ _ _ _).mono ?_; rintro e w3 ⟨rfl, rfl⟩; rw [HWI.out]))
      go_wp2_with fail
      · have h : (t % 2 == 0) = true := by assumption
        go_ret
        exact ⟨ret_int (by rw [EQ.out, if_pos (by simpa using h)]), hB.trans (hs2.mono (by omega))⟩
      · have h : (t % 2 == 0) = false := by assumption
        go_ret
        exact ⟨ret_int (by rw [EQ.out, if_neg (by simpa using h)]), hB.trans (hs2.mono (by omega))⟩
    · have HWI := hide (withinB_no (n := t) (lo := 1) (hi := 2 ^ d - 1) ht)
      have EQ := hide (show polyErrI (d : Int) t = 2 from by
        unfold polyErrI
        rw [if_pos (by omega), Int.toNat_natCast, if_neg ht])
      clear ht
      generalize polyErrI (d : Int) t = R at *
      go_enter Try.func43, Try.ntmps43
      go_wp2_with fail
      refine (isWithin_any _ _ _ _).mono ?_; rintro e w' ⟨rfl, rfl⟩
      rw [withinB_yes (by omega)]
      go_wp2_with fail
      generalize hW : World.alloc w _ = W
      have bx : Box W w.heap.size 51 #[.int .i64 (d : Int), .int .i64 t] := by rw [← hW]; exact Box.made rfl
      have hB : Below w.heap.size w W := by rw [← hW]; exact (Below.refl _ _).alloc (Nat.le_refl _) _
      clear hW
      have x0 := bx.at_ 0
      have x1 := bx.at_ 1
      simp only [List.getElem?_toArray] at x0 x1
      have hz := bx.lt
      have SOF := hide (fun W' (h : Below (w.heap.size + 1) W W') => (⟨(h.cell (p := ⟨w.heap.size, 0, none⟩) (by simp)).trans x0, (h.cell (p := ⟨w.heap.size, 1, none⟩) (by simp)).trans x1, h⟩ :
         W'.cell? ⟨w.heap.size, 0, none⟩ = some (.int .i64 (d : Int)) ∧ W'.cell? ⟨w.heap.size, 1, none⟩ = some (.int .i64 t) ∧ Below (w.heap.size + 1) W W'))
      have b0 : Below (w.heap.size + 1) W W := Below.refl _ _
      go_region_held3 (fun w' => w'.cell? ⟨w.heap.size, 0, none⟩ = some (.int .i64 (d : Int)) ∧ w'.cell? ⟨w.heap.size, 1, none⟩ = some (.int .i64 t) ∧ Below (w.heap.size + 1) W w')
          (first | exact SOF.out _ (by assumption) | exact SOF.out _ b0.drew | exact SOF.out _ (balloc (by assumption) hz _))
          (first
            | (go_at_call 57; refine (maskOf_any _ _ _ h).mono ?_; rintro e w2 ⟨rfl, hb2⟩; have hs2 : Below (w.heap.size + 1) W w2 := bstepS hb2 (by assumption) hz)
            | (go_at_call 29; refine (isWithin_any _ _ _ _).mono ?_; rintro e w3 ⟨rfl, rfl⟩; rw [HWI.out]))
      go_wp2_with fail
      go_ret
      exact ⟨ret_int EQ.out.symm, hB.trans (hs2.mono (by omega))⟩
  · have HWI := hide (withinB_no hd)
    have EQ := hide (show polyErrI d t = 2 from if_neg hd)
    clear hd
    generalize polyErrI d t = R at *
    go_enter Try.func43, Try.ntmps43
    go_wp2_with fail
    refine (isWithin_any _ _ _ _).mono ?_; rintro e w' ⟨rfl, rfl⟩
    rw [HWI.out]
    go_wp2_with fail
    go_ret
    exact ⟨ret_int EQ.out.symm, by (repeat (first | (with_reducible exact Below.refl _ _) | (with_reducible refine below_drewN ?_ _) | (with_reducible refine Below.drew ?_) | (with_reducible refine Below.alloc ?_ (by first | exact Nat.le_refl _ | (simp; done) | (simp; omega) | omega) _) | (with_reducible refine Below.setCell ?_ (by first | exact Nat.le_refl _ | (simp; done) | (simp; omega) | omega) _)))⟩
end Go.Proofs.Ytdkoohfcpikgiaa
/- exploring: remainder -/
namespace Go.Proofs.Ytdkoohfcpikgiaa
open Go.RowKit
set_option maxHeartbeats 1000000 in
theorem remainder_any (d t : Nat) (A : Option Addr) (n c : Nat) (F : Nat → Int) (w : World) (h0 : 1 ≤ d) (h1 : d ≤ 16) (t1 : t < 2 ^ d) (hn : n ≤ 100000) (hI : IntsAt w 0 A n F) (hb : ∀ k, k < n → IsBit (F k)) :
    Calls Try.prog 44 #[.agg #[.int .i64 (d : Int), .int .i64 (t : Int)], .slice A n c] w fun e w' => ∃ v, e = .returned v ∧ GaveInts w d (remB d t n F) v w' := by
  obtain ⟨p1, p2⟩ := pow2_le d h1
  have h16 : 2 ^ d ≤ 65536 := by have : ((2 ^ d : Nat) : Int) = (2 : Int) ^ d := by simp
                                 omega
  obtain ⟨i0, hi, hz0, hz1, hz2⟩ := info_parts intInfo
  have hmk := fun W => run_make_row (P := Try.prog) 25 3 i0 (.int .i64 0) Try.underlying25 hi hz0 hz1 rfl .i64 .i64 d (by rw [hz2]; omega) (by omega) W
  have HI := hide hI
  have HB := hide hb
  clear hI hb hi hz0 hz1 hz2
  go_enter Try.func44, Try.ntmps44
  go_wp2_with fail
  have HMK := hide hmk
  clear hmk
  go_loopw [5, 13] (fun r i wr => ∃ k : Nat, k ≤ n ∧ i = .int .i64 k ∧ r = .int .i64 (remF d t F k : Nat) ∧ Box wr w.heap.size 51 #[.int .i64 (d : Int), .int .i64 (t : Int)] ∧ Below w.heap.size w wr) (fun _ i _ => n - (intOf i).toNat)
  case atStart => exact ⟨0, Nat.zero_le _, rfl, rfl, Box.made rfl, (Below.refl _ _).alloc (Nat.le_refl _) _⟩
  case round =>
    obtain ⟨k, hk, rfl, rfl, bx, hB⟩ := hrel
    have x0 := bx.at_ 0
    have x1 := bx.at_ 1
    simp only [List.getElem?_toArray] at x0 x1
    have hr := remF_lt F t1 k
    by_cases hlt : k < n
    · have hltz : (k : Int) < (n : Int) := by omega
      have hI := HI.out.below hB
      obtain ⟨b, o, rfl, -, hb, hcell⟩ := hI k hlt
      have hF := hide (HB.out k hlt)
      obtain ⟨f0, f1⟩ := (HB.out k hlt).le
      obtain ⟨fb, hfb⟩ := Int.eq_ofNat_of_zero_le f0
      have HFB := hide hfb
      rw [hfb] at hcell f0 f1
      clear hfb hF
      generalize hrr : remF d t F k = r at *
      have HR := hide hrr
      clear hrr
      have hm : (((r >>> (d - 1) : Nat) : Int)) = (r : Int) / 2 ^ (d - 1) := by rw [Nat.shiftRight_eq_div_pow]; simp
      have q0 : r >>> (d - 1) ≤ r := Nat.shiftRight_le _ _
      have hx := xorI (r >>> (d - 1)) fb (by omega) (by omega)
      rw [hm] at hx
      have hay : bits .and .i64 ((r : Int) * 2) (2 ^ d - 1) = ((2 * r % 2 ^ d : Nat) : Int) := by
        have e1 : ((r : Int) * 2) = ((2 * r : Nat) : Int) := by omega
        have e2 : ((2 : Int) ^ d - 1) = ((2 ^ d - 1 : Nat) : Int) := by
          have : ((2 ^ d : Nat) : Int) = (2 : Int) ^ d := by simp
          omega
        rw [e1, e2, andI _ _ (by omega) (by omega), Nat.and_two_pow_sub_one_eq_mod]
      have hy1 : 2 * r % 2 ^ d < 2 ^ d := Nat.mod_lt _ (Nat.two_pow_pos d)
      have HS := hide (show remF d t F (k + 1) = if r >>> (d - 1) ^^^ fb = 1 then (2 * r % 2 ^ d) ^^^ t else 2 * r % 2 ^ d from by
        show remStep d t (remF d t F k) (F k).toNat = _
        rw [HR.out, HFB.out]; rfl)
      generalize 2 * r % 2 ^ d = y at *
      generalize r >>> (d - 1) ^^^ fb = cr at *
      have hxt := xorI y t (by omega) (by omega)
      by_cases hc : cr = 1
      · have hc' : ((cr : Int) == 1) = true := by simp; omega
        have HS' := hide (HS.out.trans (if_pos hc))
        clear hc
        go_wp2_with fail
        refine (maskOf_any d t _ h1).mono ?_
        rintro e w1 ⟨rfl, hb1⟩
        have bx1 := bx.below hb1
        have y1 := bx1.at_ 1
        simp only [List.getElem?_toArray] at y1
        go_wp2_with fail
        go_roundw
        case rel => exact ⟨k + 1, by omega, by go_num, by rw [HS'.out], bx1, hB.trans (hb1.mono hB.size)⟩
        case measure => simp [intOf]; omega
      · have hc' : ((cr : Int) == 1) = false := by simp; omega
        have HS' := hide (HS.out.trans (if_neg hc))
        clear hc
        go_wp2_with fail
        refine (maskOf_any d t _ h1).mono ?_
        rintro e w1 ⟨rfl, hb1⟩
        have bx1 := bx.below hb1
        go_wp2_with fail
        go_roundw
        case rel => exact ⟨k + 1, by omega, by go_num, by rw [HS'.out], bx1, hB.trans (hb1.mono hB.size)⟩
        case measure => simp [intOf]; omega
    · obtain rfl : k = n := by omega
      have hmk := HMK.out
      have hBs := hB.size
      have hrl := remF_lt F t1 k
      generalize hrr : remF d t F k = r at *
      have HR := hide hrr
      clear hrr
      obtain ⟨wo, rfl⟩ : ∃ wo : World, wo = wr := ⟨_, rfl⟩
      go_wp2_with fail
      clear hmk
      go_loopw [41] (fun i wv => ∃ j : Nat, j ≤ d ∧ i = .int .i64 j ∧ wv.rowIs wo.heap.size 3 d (fun x => .int .i64 (if x < j then ((r >>> (d - 1 - x) &&& 1 : Nat) : Int) else 0)) ∧ Box wv w.heap.size 51 #[.int .i64 (d : Int), .int .i64 (t : Int)] ∧ Below w.heap.size w wv) (fun i _ => d - (intOf i).toNat)
      case atStart =>
        exact ⟨0, Nat.zero_le _, rfl, (World.rowIs_made wo (.int .i64 0) d 3).congr (fun j _ => by simp), bx.alloc _, hB.alloc hBs _⟩
      case round =>
        obtain ⟨j, hj, rfl, hR, bz, hBz⟩ := hrel
        have z0 := bz.at_ 0
        simp only [List.getElem?_toArray] at z0
        by_cases hlj : j < d
        · have hltj : (j : Int) < (d : Int) := by omega
          have hc := hR.cell hlj
          have hf := hR.frozen j
          have hand := andI (r >>> (d - 1 - j)) 1 (by have := Nat.shiftRight_le r (d - 1 - j); omega) (by decide)
          rw [show (((r >>> (d - 1 - j) : Nat) : Int)) = (r : Int) / 2 ^ (d - 1 - j) from by rw [Nat.shiftRight_eq_div_pow]; simp] at hand
          have HA := hide (show (Value.int .i64 (bits .and .i64 ((r : Int) / 2 ^ (d - 1 - j)) 1)) = .int .i64 ((r >>> (d - 1 - j) &&& 1 : Nat) : Int) from by rw [← hand]; rfl)
          clear hand
          go_wp2_with fail
          go_roundw
          case rel =>
            rw [HA.out]
            exact ⟨j + 1, by omega, by go_num, (hR.set j _).congr (fun x _ => by
              by_cases e : x = j
              · subst e
                rw [if_pos rfl, if_pos (Nat.lt_succ_self _)]
              · rw [if_neg e]
                by_cases e2 : x < j
                · rw [if_pos e2, if_pos (by omega)]
                · rw [if_neg e2, if_neg (by omega)]), bz.other (by show w.heap.size ≠ wo.heap.size; have := bx.lt; omega) _, hBz.setCell (by exact hBs) _⟩
          case measure => simp [intOf]; omega
        · obtain rfl : j = d := by omega
          go_wp2_with fail
          go_ret
          exact ⟨_, rfl, GaveInts.of_row (hR.congr (fun x hx => by rw [if_pos hx]; unfold remB; rw [HR.out])) hBs hBz⟩
end Go.Proofs.Ytdkoohfcpikgiaa
/- Remainder, Encode, Decode, Match on what is right -/
namespace Go.Proofs.Ytdkoohfcpikgiaa
open Go.RowKit
/-- The numbers of a list, 0 behind it. -/
def getL (l : List Int) (k : Nat) : Int := l.getD k 0
theorem IntsAt.of_box {w : World} {lo g : Nat} {t : TypeId} (l : List Int) (n : Nat) (hn : n = l.length) (h : Box w g t (l.map (Value.int .i64)).toArray) (hl : lo ≤ g) : IntsAt w lo (some ⟨g, 0, none⟩) n (getL l) := fun k hk => by
  subst hn
  refine ⟨g, 0, rfl, hl, h.lt, ?_⟩
  rw [Nat.zero_add, h.at_ k, List.getElem?_toArray, List.getElem?_map, List.getElem?_eq_getElem hk]
  simp [getL, hk]
theorem firstE_nil : firstE [] = 0 := rfl
theorem firstE_cons (e : Int) (r : List Int) : firstE (e :: r) = if e = 0 then firstE r else e := rfl
theorem bitsErr_ok {n : Nat} {F : Nat → Int} (h0 : 0 < n) (h1 : n ≤ 200) (hb : ∀ k, k < n → IsBit (F k)) : firstE [firstE [unI (decide (0 < n)) 10, unI (decide (n ≤ 200)) 8], unI (bitsB n F) 15] = 0 := by
  have e1 : decide (0 < n) = true := by simpa using h0
  have e2 : decide (n ≤ 200) = true := by simpa using h1
  have e3 := bitsB_iff.2 hb
  rw [e1, e2, e3]; rfl
set_option maxHeartbeats 1000000 in
theorem Remainder_ok (d t : Nat) (A : Option Addr) (n c : Nat) (F : Nat → Int) (w : World) (h0 : 1 ≤ d) (h1 : d ≤ 16) (t0 : t % 2 = 1) (t1 : t < 2 ^ d) (hn0 : 0 < n) (hn : n ≤ 200) (hI : IntsAt w 0 A n F) (hb : ∀ k, k < n → IsBit (F k)) :
    Calls Try.prog 23 #[.agg #[.int .i64 (d : Int), .int .i64 (t : Int)], .slice A n c] w fun e w' => ∃ v, e = .returned (.tuple #[v, .int .i64 0]) ∧ GaveInts w d (remB d t n F) v w' := by
  have HI := hide hI
  have HB := hide hb
  have HP := hide (show polyErrI (d : Int) (t : Int) = 0 from by
    have : ((2 ^ d : Nat) : Int) = (2 : Int) ^ d := by simp
    unfold polyErrI
    rw [if_pos (by omega), Int.toNat_natCast, if_pos (by omega), if_neg (by omega)])
  have HE := hide (bitsErr_ok hn0 hn hb)
  clear hI hb t0
  go_enter Try.func23, Try.ntmps23
  go_wp2_with fail
  refine (checkPoly_any _ _ _).mono ?_
  rintro e w1 ⟨rfl, hb1⟩
  rw [HP.out]
  have hs1 := hb1.size
  have hI1 := HI.out.below (below_of_alloc hb1)
  go_wp2_with fail
  refine (bitsError_any A n c F _ (by omega) hI1).mono ?_
  rintro e w2 ⟨rfl, hb2⟩
  rw [HE.out]
  go_wp2_with fail
  refine (firstError_laid [0, 0] 2 _ _ rfl (by decide)).mono ?_
  rintro e w3 ⟨rfl, hw3⟩
  rw [show firstE [0, 0] = (0 : Int) from rfl]
  have bx : Box w3 w.heap.size 51 #[.int .i64 (d : Int), .int .i64 (t : Int)] := by rw [← hw3]; exact (((Box.made rfl).below hb1).below hb2).alloc _
  have hB3 : Below w.heap.size w w3 := by
    rw [← hw3]
    have h1 := below_of_alloc hb1
    exact (h1.trans (hb2.mono h1.size)).alloc (Nat.le_trans h1.size hb2.size) _
  clear hw3 hb1 hb2 hs1 hI1
  have x0 : w3.cell? ⟨w.heap.size, 0, none⟩ = some (.int .i64 (d : Int)) := bx.at_ 0
  have x1 : w3.cell? ⟨w.heap.size, 1, none⟩ = some (.int .i64 (t : Int)) := bx.at_ 1
  have hl3 := bx.lt
  go_wp2_with fail
  refine (remainder_any d t A n c F _ h0 h1 t1 (by omega) (HI.out.below hB3) HB.out).mono ?_
  rintro e w4 ⟨v, rfl, A4, c4, rfl, hc4, hI4, hb4⟩
  go_wp2_with fail
  go_ret2
  exact ⟨_, rfl, A4, c4, rfl, hc4, hI4.weak hB3.size, hB3.trans (hb4.mono hB3.size)⟩

set_option maxHeartbeats 1000000 in
theorem Poly_any (w : World) : Calls Try.prog 24 #[] w fun e w' => e = .returned (.agg #[.int .i64 3, .int .i64 3]) ∧ Below w.heap.size w w' := by
  go_enter Try.func24, Try.ntmps24
  go_wp2_with fail
  refine bodyPost_ret (v := .agg #[.int .i64 3, .int .i64 3]) ?_ rfl ⟨rfl, ?_⟩
  · simp [results, Try.results24, go_sem]
  · (repeat (first | (with_reducible exact Below.refl _ _) | (with_reducible refine below_drewN ?_ _) | (with_reducible refine Below.drew ?_) | (with_reducible refine Below.alloc ?_ (by first | exact Nat.le_refl _ | (simp; done) | (simp; omega) | omega) _) | (with_reducible refine Below.setCell ?_ (by first | exact Nat.le_refl _ | (simp; done) | (simp; omega) | omega) _)))
set_option maxHeartbeats 1000000 in
theorem Polar_any (w : World) : Calls Try.prog 26 #[] w fun e w' => ∃ g, e = .returned (.agg #[.int .i64 2, .slice (some ⟨g, 0, none⟩) 3 3]) ∧ IntsAt w' w.heap.size (some ⟨g, 0, none⟩) 3 (getL [1, 2, 3]) ∧ Below w.heap.size w w' := by
  go_enter Try.func26, Try.ntmps26
  go_wp2_with fail
  refine bodyPost_ret (v := .agg #[.int .i64 2, .slice (some ⟨w.heap.size + 1, 0, none⟩) 3 3]) ?_ rfl ⟨w.heap.size + 1, rfl, ?_, ?_⟩
  · simp [results, Try.results26, go_sem]
  · exact IntsAt.of_box [1, 2, 3] 3 rfl (Box.made (by simp)) (by omega)
  · (repeat (first | (with_reducible exact Below.refl _ _) | (with_reducible refine below_drewN ?_ _) | (with_reducible refine Below.drew ?_) | (with_reducible refine Below.alloc ?_ (by first | exact Nat.le_refl _ | (simp; done) | (simp; omega) | omega) _) | (with_reducible refine Below.setCell ?_ (by first | exact Nat.le_refl _ | (simp; done) | (simp; omega) | omega) _)))
end Go.Proofs.Ytdkoohfcpikgiaa
/- checked, isRight; Remainder, Checked and IsRight with their errors. -/
namespace Go.Proofs.Ytdkoohfcpikgiaa
open Go.RowKit
def bitsErrC (n : Nat) (F : Nat → Int) : Int := firstE [firstE [unI (decide (0 < n)) 10, unI (decide (n ≤ 200)) 8], unI (bitsB n F) 15]
theorem bitsErrC_eq (n : Nat) (F : Nat → Int) : bitsErrC n F = bitsErrR n F := by
  unfold bitsErrC bitsErrR
  by_cases h1 : n = 0
  · subst h1; rfl
  · rw [if_neg h1, decide_eq_true (show 0 < n by omega)]
    by_cases h2 : 200 < n
    · rw [if_pos h2, decide_eq_false (show ¬ n ≤ 200 by omega)]; rfl
    · rw [if_neg h2, decide_eq_true (show n ≤ 200 by omega)]
      cases bitsB n F <;> rfl
/-- The first error of a polynomial and of bits. -/
def polyBitsErr (d t : Int) (n : Nat) (F : Nat → Int) : Int := if polyErrI d t = 0 then bitsErrR n F else polyErrI d t
theorem polyBitsErr_first (d t : Int) (n : Nat) (F : Nat → Int) : firstE [polyErrI d t, bitsErrR n F] = polyBitsErr d t n F := by
  unfold polyBitsErr
  rw [firstE_cons, firstE_cons, firstE_nil]
  split
  · split
    · rename_i h; exact h.symm
    · rfl
  · rfl
theorem poly_of {d t : Int} (h : polyErrI d t = 0) : 1 ≤ d ∧ d ≤ 16 ∧ 1 ≤ t ∧ t ≤ 2 ^ d.toNat - 1 ∧ t % 2 = 1 := by
  unfold polyErrI at h
  by_cases h1 : 1 ≤ d ∧ d ≤ 16
  · rw [if_pos h1] at h
    by_cases h2 : 1 ≤ t ∧ t ≤ 2 ^ d.toNat - 1
    · rw [if_pos h2] at h
      by_cases h3 : t % 2 = 0
      · rw [if_pos h3] at h; exact absurd h (by decide)
      · exact ⟨h1.1, h1.2, h2.1, h2.2, by omega⟩
    · rw [if_neg h2] at h; exact absurd h (by decide)
  · rw [if_neg h1] at h; exact absurd h (by decide)
theorem polyBitsErr_zero {d t : Int} {n : Nat} {F : Nat → Int} (h : polyBitsErr d t n F = 0) : ∃ x y : Nat, d = x ∧ t = y ∧ 1 ≤ x ∧ x ≤ 16 ∧ y < 2 ^ x ∧ y % 2 = 1 ∧ 0 < n ∧ n ≤ 200 ∧ ∀ k, k < n → IsBit (F k) := by
  unfold polyBitsErr at h
  by_cases hp : polyErrI d t = 0
  · rw [if_pos hp] at h
    obtain ⟨h1, h2, h3, h4, h5⟩ := poly_of hp
    obtain ⟨x, rfl⟩ := Int.eq_ofNat_of_zero_le (show 0 ≤ d by omega)
    obtain ⟨y, rfl⟩ := Int.eq_ofNat_of_zero_le (show 0 ≤ t by omega)
    rw [Int.toNat_natCast] at h4
    have : ((2 ^ x : Nat) : Int) = (2 : Int) ^ x := by simp
    obtain ⟨g1, g2, g3⟩ := bitsErrR_zero h
    exact ⟨x, y, rfl, rfl, by omega, by omega, by omega, by omega, g1, g2, g3⟩
  · rw [if_neg hp] at h; exact absurd h hp
/-- What Remainder and Checked give: bits, or nothing and an error. -/
def GaveOr (err : Int) (n : Nat) (F : Nat → Int) (w : World) (e : Ending) (w' : World) : Prop :=
  (err ≠ 0 ∧ e = .returned (.tuple #[.slice none 0 0, .int .i64 err]) ∧ Below w.heap.size w w') ∨ (err = 0 ∧ ∃ v, e = .returned (.tuple #[v, .int .i64 0]) ∧ GaveInts w n F v w')
set_option maxHeartbeats 1000000 in
theorem Remainder_any (d t : Int) (A : Option Addr) (n c : Nat) (F : Nat → Int) (w : World) (hn : n ≤ 100000) (hI : IntsAt w 0 A n F) :
    Calls Try.prog 23 #[.agg #[.int .i64 d, .int .i64 t], .slice A n c] w (GaveOr (polyBitsErr d t n F) d.toNat (remB d.toNat t.toNat n F) w) := by
  have HI := hide hI
  clear hI
  go_enter Try.func23, Try.ntmps23
  go_wp2_with fail
  refine (checkPoly_any _ _ _).mono ?_
  rintro e w1 ⟨rfl, hb1⟩
  have hs1 := hb1.size
  have hI1 := HI.out.below (below_of_alloc hb1)
  go_wp2_with fail
  refine (bitsError_any A n c F _ (by omega) hI1).mono ?_
  rintro e w2 ⟨rfl, hb2⟩
  rw [show firstE [firstE [unI (decide (0 < n)) 10, unI (decide (n ≤ 200)) 8], unI (bitsB n F) 15] = bitsErrR n F from bitsErrC_eq n F]
  go_wp2_with fail
  refine (firstError_laid [polyErrI d t, bitsErrR n F] 2 _ _ rfl (by decide)).mono ?_
  rintro e w3 ⟨rfl, hw3⟩
  rw [polyBitsErr_first]
  have bx : Box w3 w.heap.size 51 #[.int .i64 d, .int .i64 t] := by rw [← hw3]; exact (((Box.made rfl).below hb1).below hb2).alloc _
  have hB3 : Below w.heap.size w w3 := by
    rw [← hw3]
    have h1 := below_of_alloc hb1
    exact (h1.trans (hb2.mono h1.size)).alloc (Nat.le_trans h1.size hb2.size) _
  clear hw3 hb1 hb2 hs1 hI1
  by_cases hz : polyBitsErr d t n F = 0
  · rw [hz]
    obtain ⟨d, t, rfl, rfl, h0, h1, t1, t2, n0, n1, hb⟩ := polyBitsErr_zero hz
    have HB := hide hb
    have HZ := hide hz
    clear hb hz
    have x0 : w3.cell? ⟨w.heap.size, 0, none⟩ = some (.int .i64 (d : Int)) := bx.at_ 0
    have x1 : w3.cell? ⟨w.heap.size, 1, none⟩ = some (.int .i64 (t : Int)) := bx.at_ 1
    have hl3 := bx.lt
    go_wp2_with fail
    refine (remainder_any d t A n c F _ h0 h1 t1 (by omega) (HI.out.below hB3) HB.out).mono ?_
    rintro e w4 ⟨v, rfl, A4, c4, rfl, hc4, hI4, hb4⟩
    go_wp2_with fail
    go_ret2
    exact .inr ⟨HZ.out, _, rfl, A4, c4, rfl, hc4, hI4.weak hB3.size, hB3.trans (hb4.mono hB3.size)⟩
  · have ht : (polyBitsErr d t n F != 0) = true := by simpa using hz
    have HZ := hide hz
    clear hz
    go_wp2_with fail
    go_ret2
    exact .inl ⟨HZ.out, rfl, hB3⟩
/-- The error of IsRight. -/
def rightErr (d t : Int) (n : Nat) (F : Nat → Int) : Int := if polyBitsErr d t n F = 0 then (if d < (n : Int) then 0 else 10) else polyBitsErr d t n F
theorem rightErr_first (d t : Int) (n : Nat) (F : Nat → Int) : firstE [polyErrI d t, bitsErrR n F, unI (decide (d < (n : Int))) 10] = rightErr d t n F := by
  unfold rightErr polyBitsErr
  rw [firstE_cons, firstE_cons, firstE_cons, firstE_nil]
  by_cases h1 : polyErrI d t = 0
  · rw [if_pos h1, if_pos h1]
    by_cases h2 : bitsErrR n F = 0
    · rw [if_pos h2, if_pos h2]
      by_cases h3 : d < (n : Int)
      · rw [decide_eq_true h3, if_pos h3]; rfl
      · rw [decide_eq_false h3, if_neg h3]; rfl
    · rw [if_neg h2, if_neg h2]
  · rw [if_neg h1, if_neg h1, if_neg h1]
def GaveRight (d t : Int) (n : Nat) (F : Nat → Int) (w : World) (e : Ending) (w' : World) : Prop :=
  e = .returned (.tuple #[.bool (decide (rightErr d t n F = 0) && intsB d.toNat (remB d.toNat t.toNat (n - d.toNat) F) d.toNat (fun j => F (n - d.toNat + j))), .int .i64 (rightErr d t n F)]) ∧ Below w.heap.size w w'
end Go.Proofs.Ytdkoohfcpikgiaa
/- Errors of sums, versions, counts, lengths: of the code and of the reference. -/
namespace Go.Proofs.Ytdkoohfcpikgiaa
open Go.RowKit
def sizedB (n : Nat) (F : Nat → Int) (m : Int) : Bool := !anyN n fun j => !withinB (F j) (-m) m
theorem sizedB_iff {n : Nat} {F : Nat → Int} {m : Int} : sizedB n F m = true ↔ ∀ j, j < n → -m ≤ F j ∧ F j ≤ m := by
  unfold sizedB
  rw [Bool.not_eq_true', ← Bool.not_eq_true, anyN_iff]
  constructor
  · intro h j hj
    refine Classical.byContradiction fun hno => h ⟨j, hj, ?_⟩
    rw [withinB_no hno]; rfl
  · rintro h ⟨j, hj, e⟩
    rw [withinB_yes (h j hj)] at e
    cases e
def sizedErrI (n cnt : Nat) (F : Nat → Int) (m : Int) : Int := if n = 0 then 10 else if cnt < n then 8 else if sizedB n F m = true then 0 else 2
theorem sizedErr_first (n cnt : Nat) (F : Nat → Int) (m : Int) : firstE [firstE [unI (decide (0 < n)) 10, unI (decide (n ≤ cnt)) 8], unI (sizedB n F m) 2] = sizedErrI n cnt F m := by
  unfold sizedErrI
  by_cases h1 : n = 0
  · rw [if_pos h1, h1]; rfl
  · rw [if_neg h1, decide_eq_true (show 0 < n by omega)]
    by_cases h2 : cnt < n
    · rw [if_pos h2, decide_eq_false (show ¬ n ≤ cnt by omega)]; rfl
    · rw [if_neg h2, decide_eq_true (show n ≤ cnt by omega)]
      cases sizedB n F m <;> rfl
theorem sizedErr_zero {n cnt : Nat} {F : Nat → Int} {m : Int} (h : sizedErrI n cnt F m = 0) : 0 < n ∧ n ≤ cnt ∧ ∀ j, j < n → -m ≤ F j ∧ F j ≤ m := by
  unfold sizedErrI at h
  by_cases h1 : n = 0
  · rw [if_pos h1] at h; exact absurd h (by decide)
  · rw [if_neg h1] at h
    by_cases h2 : cnt < n
    · rw [if_pos h2] at h; exact absurd h (by decide)
    · rw [if_neg h2] at h
      by_cases h3 : sizedB n F m = true
      · exact ⟨by omega, by omega, sizedB_iff.1 h3⟩
      · rw [if_neg h3] at h; exact absurd h (by decide)
theorem softErr_any (A : Option Addr) (n c : Nat) (F : Nat → Int) (w : World) (hn : n ≤ 100000) (hI : IntsAt w 0 A n F) :
    Calls Try.prog 47 #[.slice A n c] w fun e w' => e = .returned (.int .i64 (sizedErrI n 400 F 1000000)) ∧ Below w.heap.size w w' :=
  (softError_any A n c F w hn hI).mono fun e w' h => ⟨by rw [h.1, ← sizedErr_first]; rfl, h.2⟩
end Go.Proofs.Ytdkoohfcpikgiaa
/- chainError. -/
namespace Go.Proofs.Ytdkoohfcpikgiaa
open Go.RowKit
/-- The error of a chain. -/
def chainErrI (d t p : Int) (n : Nat) (F : Nat → Int) (k : Int) : Int := firstE [polyErrI d t, polarErrI p n F, unI (decide (d < (n : Int))) 10, unI (withinB k 1 400) 2]
theorem firstE_zero_cons {e : Int} {r : List Int} (h : firstE (e :: r) = 0) : e = 0 ∧ firstE r = 0 := by
  rw [firstE_cons] at h
  by_cases h1 : e = 0
  · rw [if_pos h1] at h; exact ⟨h1, h⟩
  · rw [if_neg h1] at h; exact absurd h h1
theorem unI_zero {b : Bool} {e : Int} (he : e ≠ 0) (h : unI b e = 0) : b = true := by
  cases b
  · exact absurd h he
  · rfl
theorem withinB_of {n lo hi : Int} (h : withinB n lo hi = true) : lo ≤ n ∧ n ≤ hi := by
  refine Classical.byContradiction fun hh => ?_
  rw [withinB_no hh] at h
  cases h
/-- A chain that is right. -/
structure ChainOk (d t p : Int) (n : Nat) (F : Nat → Int) (k : Int) (x y q j : Nat) : Prop where
  ed : d = x
  et : t = y
  ep : p = q
  ek : k = j
  d0 : 1 ≤ x
  d1 : x ≤ 16
  t1 : y < 2 ^ x
  odd : y % 2 = 1
  polar : PolarOk q n F
  q6 : q ≤ 6
  less : x < n
  k1 : 1 ≤ j
  k4 : j ≤ 400
theorem chainErr_zero {d t p : Int} {n : Nat} {F : Nat → Int} {k : Int} (h : chainErrI d t p n F k = 0) : ∃ x y q j, ChainOk d t p n F k x y q j := by
  obtain ⟨h1, h⟩ := firstE_zero_cons h
  obtain ⟨h2, h⟩ := firstE_zero_cons h
  obtain ⟨h3, h⟩ := firstE_zero_cons h
  obtain ⟨h4, -⟩ := firstE_zero_cons h
  have h3 := of_decide_eq_true (unI_zero (by decide) h3)
  have h4 := withinB_of (unI_zero (by decide) h4)
  obtain ⟨g1, g2, g3, g4, g5⟩ := poly_of h1
  obtain ⟨p1, p2, p3⟩ := polarOk_of h2
  obtain ⟨x, rfl⟩ := Int.eq_ofNat_of_zero_le (show 0 ≤ d by omega)
  obtain ⟨y, rfl⟩ := Int.eq_ofNat_of_zero_le (show 0 ≤ t by omega)
  obtain ⟨q, rfl⟩ := Int.eq_ofNat_of_zero_le p1
  obtain ⟨j, rfl⟩ := Int.eq_ofNat_of_zero_le (show 0 ≤ k by omega)
  rw [Int.toNat_natCast] at g4 p3
  have : ((2 ^ x : Nat) : Int) = (2 : Int) ^ x := by simp
  exact ⟨x, y, q, j, rfl, rfl, rfl, rfl, by omega, by omega, by omega, by omega, p3, by omega, by omega, by omega, by omega⟩
theorem bstep5 {B : Nat} {w1 W w2 : World} {p q r s t : Prop} (hb : Below W.heap.size W w2) (h : p ∧ q ∧ r ∧ s ∧ t ∧ Below B w1 W) (hB : B ≤ w1.heap.size) : Below B w1 w2 := h.2.2.2.2.2.trans (hb.mono (Nat.le_trans hB h.2.2.2.2.2.size))
end Go.Proofs.Ytdkoohfcpikgiaa
/- How a block is cut: of the code and of the reference. Rules. -/
namespace Go.Proofs.Ytdkoohfcpikgiaa
open Go.RowKit Go.Shelf
/-- Divided, rounded up. -/
def ceilN (a b : Nat) : Nat := (a + b - 1) / b
theorem ceilN_eq {a b : Nat} (hb : 0 < b) : ceilN a b = if a % b = 0 then a / b else a / b + 1 := by
  unfold ceilN
  have h := Nat.div_add_mod a b
  have hr := Nat.mod_lt a hb
  generalize a / b = q at *
  generalize a % b = r at *
  by_cases h0 : r = 0
  · rw [if_pos h0, show a + b - 1 = b * q + (b - 1) by omega, Nat.mul_add_div hb, Nat.div_eq_of_lt (by omega)]; rfl
  · rw [if_neg h0, show a + b - 1 = b * (q + 1) + (r - 1) by rw [Nat.mul_add]; omega, Nat.mul_add_div hb, Nat.div_eq_of_lt (by omega)]
theorem ceilN_le {a b : Nat} (hb : 0 < b) : ceilN a b ≤ a := by
  rw [ceilN_eq hb]
  split
  · exact Nat.div_le_self _ _
  · rename_i h
    rcases Nat.lt_or_ge a b with h1 | h1
    · have : a / b = 0 := Nat.div_eq_of_lt h1
      rcases Nat.eq_zero_or_pos a with h2 | h2
      · subst h2; simp at h
      · omega
    · by_cases hb1 : b = 1
      · subst hb1; exact absurd (Nat.mod_one a) h
      · have := Nat.div_lt_self (show 0 < a by omega) (show 1 < b by omega)
        omega
theorem ceilN_pos {a b : Nat} (hb : 0 < b) (ha : 0 < a) : 0 < ceilN a b := by
  unfold ceilN
  exact Nat.div_pos (by omega) hb
theorem ceilN_mul {a b : Nat} (hb : 0 < b) : a ≤ ceilN a b * b ∧ ceilN a b * b < a + b := by
  unfold ceilN
  have h := Nat.div_add_mod (a + b - 1) b
  have hr := Nat.mod_lt (a + b - 1) hb
  rw [Nat.mul_comm] at h
  omega
theorem neg_tdiv_nat (a b : Nat) : (-(a : Int)).tdiv (b : Int) = -((a / b : Nat) : Int) := by
  rw [Int.neg_tdiv]
  rfl
theorem neg_tmod_nat (a b : Nat) : (-(a : Int)).tmod (b : Int) = -((a % b : Nat) : Int) := by
  rw [Int.neg_tmod]
  rfl
/-- The error of a rule. -/
def ruleErrI (d t M : Int) : Int := firstE [polyErrI d t, unI (withinB M (d + 1) 100) 2]
/-- A rule that is right. -/
structure RuleOk (d t M : Int) (x y m : Nat) : Prop where
  ed : d = x
  et : t = y
  em : M = m
  d0 : 1 ≤ x
  d1 : x ≤ 16
  t1 : y < 2 ^ x
  m0 : x < m
  m9 : m ≤ 100
theorem ruleErr_zero {d t M : Int} (h : ruleErrI d t M = 0) : ∃ x y m, RuleOk d t M x y m := by
  obtain ⟨h1, h⟩ := firstE_zero_cons h
  obtain ⟨h2, -⟩ := firstE_zero_cons h
  have h2 := withinB_of (unI_zero (by decide) h2)
  obtain ⟨g1, g2, g3, g4, -⟩ := poly_of h1
  obtain ⟨x, rfl⟩ := Int.eq_ofNat_of_zero_le (show 0 ≤ d by omega)
  obtain ⟨y, rfl⟩ := Int.eq_ofNat_of_zero_le (show 0 ≤ t by omega)
  obtain ⟨m, rfl⟩ := Int.eq_ofNat_of_zero_le (show 0 ≤ M by omega)
  rw [Int.toNat_natCast] at g4
  have : ((2 ^ x : Nat) : Int) = (2 : Int) ^ x := by simp
  exact ⟨x, y, m, rfl, rfl, rfl, by omega, by omega, by omega, by omega, by omega⟩
theorem ruleErr_of (d t M v : Int) (h : polyErrI d t = 0 → v = d + 1) : firstE [polyErrI d t, unI (withinB M v 100) 2] = ruleErrI d t M := by
  unfold ruleErrI
  by_cases h1 : polyErrI d t = 0
  · rw [h h1]
  · rw [firstE_cons, if_neg h1, firstE_cons, if_neg h1]
theorem wrap_succ {d t : Int} (h : polyErrI d t = 0) : IntKind.i64.wrap (d + 1) = d + 1 := by
  obtain ⟨g1, g2, -⟩ := poly_of h
  exact IntWalk.i64_in _ (by omega)
theorem bstep4 {B : Nat} {w1 W w2 : World} {p q r : Prop} (hb : Below W.heap.size W w2) (h : p ∧ q ∧ r ∧ Below B w1 W) (hB : B ≤ w1.heap.size) : Below B w1 w2 := h.2.2.2.trans (hb.mono (Nat.le_trans hB h.2.2.2.size))
/-- How many segments, and how many bits each one has ahead of its check. -/
def cntN (x m n : Nat) : Nat := ceilN n (m - x)
def aheadN (x m n : Nat) : Nat := ceilN n (cntN x m n)
theorem cut_facts {x m n : Nat} (hx : x < m) (hm : m ≤ 100) (n0 : 0 < n) (hn : n ≤ 200) : 0 < cntN x m n ∧ cntN x m n ≤ 200 ∧ 0 < aheadN x m n ∧ aheadN x m n ≤ m - x ∧ n ≤ cntN x m n * aheadN x m n ∧ cntN x m n * aheadN x m n < n + cntN x m n := by
  have hp : 0 < m - x := by omega
  have h1 : 0 < cntN x m n := ceilN_pos hp n0
  have h2 : cntN x m n ≤ n := ceilN_le hp
  have h3 : 0 < aheadN x m n := ceilN_pos h1 n0
  have h4 := ceilN_mul (a := n) hp
  have h5 := ceilN_mul (a := n) h1
  refine ⟨h1, by omega, h3, ?_, ?_, ?_⟩
  · refine Classical.byContradiction fun hno => ?_
    have h6 : (m - x + 1) * cntN x m n ≤ aheadN x m n * cntN x m n := Nat.mul_le_mul_right _ (by omega)
    have h7 : aheadN x m n * cntN x m n < n + cntN x m n := h5.2
    have h8 : n ≤ cntN x m n * (m - x) := h4.1
    rw [Nat.add_mul, Nat.one_mul, Nat.mul_comm] at h6
    omega
  · rw [Nat.mul_comm]; exact h5.1
  · rw [Nat.mul_comm]; exact h5.2
end Go.Proofs.Ytdkoohfcpikgiaa
/- BitsOf. -/
namespace Go.Proofs.Ytdkoohfcpikgiaa
open Go.RowKit
/-- The bits of a number, the greatest power first. -/
def bitsOfF (t n : Nat) (j : Nat) : Int := ((t / 2 ^ (n - 1 - j) % 2 : Nat) : Int)
end Go.Proofs.Ytdkoohfcpikgiaa
