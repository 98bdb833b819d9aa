/- Sent and Recovered. -/
import Derived.Test.YtjelbemfljobaaaLb
import Derived.Test.YtjelbemfljobaaaHd
import Derived.Test.YtjelbemfljobaaaJc
namespace Go.Proofs.Ytjelbemfljobaaa
open Go.RowKit Go.Shelf
/-- The error of Sent. -/
def sentErrI (d t p : Int) (n : Nat) (F : Nat → Int) (k : Int) (m : Nat) (B : Nat → Int) (v : Int) : Int := firstE [chainErrI d t p n F k, bitsErrR m B, unI (decide ((m : Int) + d = (n : Int))) 10, unI (withinB v 0 3) 15]
theorem sentErr_of (d t p : Int) (n : Nat) (F : Nat → Int) (k : Int) (m : Nat) (B : Nat → Int) (v : Int) (b : Bool) (h : chainErrI d t p n F k = 0 → b = decide ((m : Int) + d = (n : Int))) :
    firstE [chainErrI d t p n F k, firstE [firstE [unI (decide (0 < m)) 10, unI (decide (m ≤ 200)) 8], unI (bitsB m B) 15], unI b 10, unI (withinB v 0 3) 15] = sentErrI d t p n F k m B v := by
  rw [show firstE [firstE [unI (decide (0 < m)) 10, unI (decide (m ≤ 200)) 8], unI (bitsB m B) 15] = bitsErrR m B from bitsErrC_eq m B]
  unfold sentErrI
  rw [firstE_cons, firstE_cons (chainErrI d t p n F k)]
  by_cases h1 : chainErrI d t p n F k = 0
  · rw [h h1]
  · rw [if_neg h1, if_neg h1]
/-- What a chain sends. -/
def sentF (d t p n : Nat) (F : Nat → Int) (m : Nat) (B : Nat → Int) (v j : Nat) : Int := wordF (2 ^ p) (fun x => posF F (catF m B (remB d t m B)) x n) (placeN v (2 ^ p) j)
theorem catF_bits {n m : Nat} {F G : Nat → Int} (hF : ∀ k, k < n → IsBit (F k)) (hG : ∀ k, IsBit (G k)) : ∀ k, k < n + m → IsBit (catF n F G k) := fun k _ => by
  unfold catF
  split
  · exact hF k (by assumption)
  · exact hG _
set_option maxHeartbeats 4000000 in
theorem Sent_any (d t p k v : Int) (A C : Option Addr) (n c m e : Nat) (F B : Nat → Int) (w : World) (hn : n ≤ 1000) (hm : m ≤ 1000) (hd9 : -9223372036854775808 ≤ d ∧ d ≤ 9223372036854775807) (hI : IntsAt w 0 A n F) (hJ : IntsAt w 0 C m B) :
    Calls Try.prog 13 #[.agg #[.int .i64 d, .int .i64 t, .int .i64 p, .slice A n c, .int .i64 k], .slice C m e, .int .i64 v] w (GaveOr (sentErrI d t p n F k m B v) k.toNat (sentF d.toNat t.toNat p.toNat n F m B v.toNat) w) := by
  have HI := hide hI
  have HJ := hide hJ
  have HFE := hide (sentErr_of d t p n F k m B v (IntKind.i64.wrap ((m : Int) + d) == (n : Int)) (fun h => by
    obtain ⟨x, y, q, j, ok⟩ := chainErr_zero h
    have := ok.ed
    have := ok.d1
    rw [IntWalk.i64_in _ (by omega)]
    rfl))
  clear hI hJ
  go_enter Try.func13, Try.ntmps13
  go_wp2_with fail
  generalize hW : World.alloc w _ = W
  have bx : Box W w.heap.size 28 #[.int .i64 d, .int .i64 t, .int .i64 p, .slice A n c, .int .i64 k] := by rw [← hW]; exact Box.made rfl
  have hB : Below w.heap.size w W := by rw [← hW]; exact (Below.refl _ _).alloc (Nat.le_refl _) _
  clear hW
  have x0 : W.cell? ⟨w.heap.size, 0, none⟩ = some (.int .i64 d) := bx.at_ 0
  have x1 : W.cell? ⟨w.heap.size, 1, none⟩ = some (.int .i64 t) := bx.at_ 1
  have x2 : W.cell? ⟨w.heap.size, 2, none⟩ = some (.int .i64 p) := bx.at_ 2
  have x3 : W.cell? ⟨w.heap.size, 3, none⟩ = some (.slice A n c) := bx.at_ 3
  have x4 : W.cell? ⟨w.heap.size, 4, none⟩ = some (.int .i64 k) := bx.at_ 4
  have hz : w.heap.size + 1 ≤ W.heap.size := bx.lt
  have SOF := hide (fun W' (h : Below (w.heap.size + 1) W W') => (⟨(h.cell (p := ⟨w.heap.size, 0, none⟩) (by simp)).trans x0, (h.cell (p := ⟨w.heap.size, 1, none⟩) (by simp)).trans x1, (h.cell (p := ⟨w.heap.size, 2, none⟩) (by simp)).trans x2, (h.cell (p := ⟨w.heap.size, 3, none⟩) (by simp)).trans x3, (h.cell (p := ⟨w.heap.size, 4, none⟩) (by simp)).trans x4, h⟩ :
     W'.cell? ⟨w.heap.size, 0, none⟩ = some (.int .i64 d) ∧ W'.cell? ⟨w.heap.size, 1, none⟩ = some (.int .i64 t) ∧ W'.cell? ⟨w.heap.size, 2, none⟩ = some (.int .i64 p) ∧ W'.cell? ⟨w.heap.size, 3, none⟩ = some (.slice A n c) ∧ W'.cell? ⟨w.heap.size, 4, none⟩ = some (.int .i64 k) ∧ Below (w.heap.size + 1) W W'))
  have KI := hide (fun W' (h : W'.cell? ⟨w.heap.size, 0, none⟩ = some (.int .i64 d) ∧ W'.cell? ⟨w.heap.size, 1, none⟩ = some (.int .i64 t) ∧ W'.cell? ⟨w.heap.size, 2, none⟩ = some (.int .i64 p) ∧ W'.cell? ⟨w.heap.size, 3, none⟩ = some (.slice A n c) ∧ W'.cell? ⟨w.heap.size, 4, none⟩ = some (.int .i64 k) ∧ Below (w.heap.size + 1) W W') => HI.out.below (hB.trans (h.2.2.2.2.2.mono (by omega))))
  have KJ := hide (fun W' (h : W'.cell? ⟨w.heap.size, 0, none⟩ = some (.int .i64 d) ∧ W'.cell? ⟨w.heap.size, 1, none⟩ = some (.int .i64 t) ∧ W'.cell? ⟨w.heap.size, 2, none⟩ = some (.int .i64 p) ∧ W'.cell? ⟨w.heap.size, 3, none⟩ = some (.slice A n c) ∧ W'.cell? ⟨w.heap.size, 4, none⟩ = some (.int .i64 k) ∧ Below (w.heap.size + 1) W W') => HJ.out.below (hB.trans (h.2.2.2.2.2.mono (by omega))))
  have b0 : Below (w.heap.size + 1) W W := Below.refl _ _
  have HBB := hide hB
  clear x0 x1 x2 x3 x4 hB
  go_region_held3 (fun w' => w'.cell? ⟨w.heap.size, 0, none⟩ = some (.int .i64 d) ∧ w'.cell? ⟨w.heap.size, 1, none⟩ = some (.int .i64 t) ∧ w'.cell? ⟨w.heap.size, 2, none⟩ = some (.int .i64 p) ∧ w'.cell? ⟨w.heap.size, 3, none⟩ = some (.slice A n c) ∧ w'.cell? ⟨w.heap.size, 4, none⟩ = some (.int .i64 k) ∧ Below (w.heap.size + 1) W w')
      (first | assumption | exact SOF.out _ (by assumption) | exact SOF.out _ b0.drew | exact SOF.out _ (balloc' (by assumption) hz _))
      (first
        | (go_at_call 57; refine (chainError_any d t p k A n c F _ hn (KI.out _ (by assumption))).mono ?_; rintro e w2 ⟨rfl, hb2⟩; have hs2 : Below (w.heap.size + 1) W w2 := bstep5 hb2 (by assumption) hz)
        | (go_at_call 58; refine (bitsError_any C m e B _ (by omega) (KJ.out _ (by assumption))).mono ?_; rintro e w3 ⟨rfl, hb3⟩; have hs3 : Below (w.heap.size + 1) W w3 := bstep5 hb3 (by assumption) hz)
        | (go_at_call 59; refine (unless_any _ _ _).mono ?_; rintro e w4 ⟨rfl, rfl⟩)
        | (go_at_call 60; refine (versionError_any _ _).mono ?_; rintro e w5 ⟨rfl, rfl⟩)
        | (go_at_call 56; refine (firstError_laid [chainErrI d t p n F k, firstE [firstE [unI (decide (0 < m)) 10, unI (decide (m ≤ 200)) 8], unI (bitsB m B) 15], unI _ 10, unI (withinB v 0 3) 15] 4 _ _ rfl (by decide)).mono ?_; rintro e w6 ⟨rfl, rfl⟩))
  rw [HFE.out]
  generalize hV : World.alloc w3 _ = w6
  have hs6 : Below (w.heap.size + 1) W w6 := by rw [← hV]; exact hs3.alloc (Nat.le_trans hz hs3.size) _
  clear hV
  by_cases hz9 : sentErrI d t p n F k m B v = 0
  · have HZ := hide hz9
    rw [hz9]
    obtain ⟨g1, h⟩ := firstE_zero_cons hz9
    obtain ⟨g2, h⟩ := firstE_zero_cons h
    obtain ⟨g3, h⟩ := firstE_zero_cons h
    obtain ⟨g4, -⟩ := firstE_zero_cons h
    have g3 := of_decide_eq_true (unI_zero (by decide) g3)
    have g4 := withinB_of (unI_zero (by decide) g4)
    obtain ⟨m0, m2, hbits⟩ := bitsErrR_zero g2
    obtain ⟨x, y, q, j, ok⟩ := chainErr_zero g1
    obtain ⟨rfl, rfl, rfl, rfl, d0, d1, t1, -, hpol, q6, hless, k1, k4⟩ := ok
    obtain ⟨v, rfl⟩ := Int.eq_ofNat_of_zero_le g4.1
    have hmn : m + x = n := by omega
    have HB := hide hbits
    have HP := hide hpol
    clear hbits hpol g1 g2 g3 hz9 h
    obtain rfl : n = m + x := by omega
    obtain ⟨z0, z1, z2, z3, z4, z5⟩ := SOF.out _ hs6
    go_wp2_with fail
    go_region_held3 (fun w' => w'.cell? ⟨w.heap.size, 0, none⟩ = some (.int .i64 (x : Int)) ∧ w'.cell? ⟨w.heap.size, 1, none⟩ = some (.int .i64 (y : Int)) ∧ w'.cell? ⟨w.heap.size, 2, none⟩ = some (.int .i64 (q : Int)) ∧ w'.cell? ⟨w.heap.size, 3, none⟩ = some (.slice A (m + x) c) ∧ w'.cell? ⟨w.heap.size, 4, none⟩ = some (.int .i64 (j : Int)) ∧ Below (w.heap.size + 1) W w')
      (first | assumption | exact SOF.out _ (by assumption) | exact SOF.out _ hs6.drew | exact SOF.out _ (below_drewN (by assumption) _) | exact SOF.out _ (balloc' (by assumption) hz _))
      (first
        | (go_at_call 62; refine (checked_any x y C m e B _ d0 d1 t1 (by omega) (KJ.out _ (by assumption)) HB.out).mono ?_; rintro e w7 ⟨v7, rfl, A7, c7, rfl, hc7, hI7, hb7⟩; have hs7 : Below (w.heap.size + 1) W w7 := bstep5 hb7 (by assumption) hz)
        | (go_at_call 61; refine (encoded_any q A A7 (m + x) c c7 F (catF m B (remB x y m B)) _ HP.out hn (KI.out _ (by assumption)) (hI7.weak (Nat.zero_le _)) (catF_bits HB.out (remB_bit x y m B))).mono ?_; rintro e w8 ⟨v8, rfl, A8, c8, rfl, hc8, hI8, hb8⟩; have hs8 : Below (w.heap.size + 1) W w8 := bstep5 hb8 (by assumption) hz))
    obtain ⟨-, -, -, -, y4, -⟩ := SOF.out _ hs8
    have hq64 : 2 ^ q ≤ 2 ^ 6 := Nat.pow_le_pow_right (by decide) q6
    have hB8 : Below w.heap.size w w8 := HBB.out.trans (hs8.mono (by omega))
    go_wp2_with fail
    refine (matched_any A8 (2 ^ q) c8 v j _ _ (hI8.weak (Nat.zero_le _)) (by omega) (Nat.two_pow_pos q) (by omega) (by omega)).mono ?_
    rintro e w9 ⟨v9, rfl, A9, c9, rfl, hc9, hI9, hb9⟩
    go_wp2_with fail
    go_ret2
    exact .inr ⟨HZ.out, _, rfl, A9, c9, rfl, hc9, hI9.weak hB8.size, hB8.trans (hb9.mono hB8.size)⟩
  · have ht : (sentErrI d t p n F k m B v != 0) = true := by simpa using hz9
    have HZ := hide hz9
    clear hz9
    go_wp2_with fail
    go_ret2
    exact .inl ⟨HZ.out, rfl, HBB.out.trans (hs6.mono (by omega))⟩
/-- What a chain finds, and whether that is right. -/
def recF (p n : Nat) (F S : Nat → Int) (k : Nat) : Int := cancelF p (fun x => isPos F x n) S (F k).toNat
def recRight (d t p n : Nat) (F S : Nat → Int) : Bool := intsB d (remB d t (n - d) (recF p n F S)) d (fun j => recF p n F S (n - d + j))
theorem recF_bit (p n : Nat) (F S : Nat → Int) (k : Nat) : IsBit (recF p n F S k) := cancelF_bit _ _ _ _
def recPre (d t p : Int) (n : Nat) (F : Nat → Int) (k : Int) (m : Nat) (S : Nat → Int) : Int := firstE [chainErrI d t p n F k, sizedErrI m 200 S 1000000000]
def recErrI (d t p : Int) (n : Nat) (F : Nat → Int) (k : Int) (m : Nat) (S : Nat → Int) : Int :=
  if recPre d t p n F k m S = 0 then (if m = 2 ^ p.toNat then (if recRight d.toNat t.toNat p.toNat n F S = true then 0 else 21) else 10) else recPre d t p n F k m S
set_option maxHeartbeats 4000000 in
theorem Recovered_any (d t p k : Int) (A C : Option Addr) (n c m e : Nat) (F S : Nat → Int) (w : World) (hn : n ≤ 1000) (hm : m ≤ 1000) (hme : m ≤ e) (he : e ≤ 9223372036854775807) (hI : IntsAt w 0 A n F) (hJ : IntsAt w 0 C m S) :
    Calls Try.prog 21 #[.agg #[.int .i64 d, .int .i64 t, .int .i64 p, .slice A n c, .int .i64 k], .slice C m e] w (GaveOr (recErrI d t p n F k m S) (n - d.toNat) (recF p.toNat n F S) w) := by
  have HI := hide hI
  have HJ := hide hJ
  clear hI hJ
  go_enter Try.func21, Try.ntmps21
  go_wp2_with fail
  refine (chainError_any d t p k A n c F _ hn (HI.out.alloc _)).mono ?_
  rintro r w1 ⟨rfl, hb1⟩
  have h1 := below_of_alloc hb1
  go_wp2_with fail
  refine (sumsErr_any C m e S _ (by omega) (HJ.out.below h1)).mono ?_
  rintro r w2 ⟨rfl, hb2⟩
  go_wp2_with fail
  refine (firstError_laid [chainErrI d t p n F k, sizedErrI m 200 S 1000000000] 2 _ _ rfl (by decide)).mono ?_
  rintro r w3 ⟨rfl, hw3⟩
  rw [show firstE [chainErrI d t p n F k, sizedErrI m 200 S 1000000000] = recPre d t p n F k m S from rfl]
  have bx : Box w3 w.heap.size 28 #[.int .i64 d, .int .i64 t, .int .i64 p, .slice A n c, .int .i64 k] := by rw [← hw3]; exact (((Box.made rfl).below hb1).below hb2).alloc _
  have hB3 : Below w.heap.size w w3 := by
    rw [← hw3]
    exact (h1.trans (hb2.mono h1.size)).alloc (Nat.le_trans h1.size hb2.size) _
  clear hw3 hb1 hb2 h1
  by_cases hz9 : recPre d t p n F k m S = 0
  · obtain ⟨g1, h⟩ := firstE_zero_cons hz9
    obtain ⟨g2, -⟩ := firstE_zero_cons h
    obtain ⟨m0, m2, hS9⟩ := sizedErr_zero g2
    obtain ⟨x, y, q, j, ok⟩ := chainErr_zero g1
    obtain ⟨rfl, rfl, rfl, rfl, d0, d1, t1, -, hpol, q6, hless, k1, k4⟩ := ok
    obtain ⟨N, hN⟩ : ∃ N, N = 2 ^ q := ⟨_, rfl⟩
    have EQ : recErrI (x : Int) y q n F j m S = if m = N then (if recRight x y q n F S = true then 0 else 21) else 10 := by
      unfold recErrI
      rw [if_pos hz9, hN]
      rfl
    rw [hz9]
    have eN : (2 : Int) ^ q = (N : Int) := by rw [hN]; simp
    have hN1 : 1 ≤ N := by rw [hN]; exact Nat.two_pow_pos q
    have hN9 : N ≤ 64 := by rw [hN]; exact Nat.pow_le_pow_right (by decide) q6
    have HP := hide hpol
    have HN := hide hN
    have HS9 := hide hS9
    have hMM : (1000000000 : Int) * 2 ^ q ≤ 1000000000000 := by rw [eN]; omega
    clear hpol g1 g2 hz9 h hN hS9
    have x0 := bx.at_ 0
    have x1 := bx.at_ 1
    have x2 := bx.at_ 2
    have x3 := bx.at_ 3
    simp only [List.getElem?_toArray] at x0 x1 x2 x3
    have hl3 := bx.lt
    by_cases hmN : m = N
    · subst hmN
      rw [if_pos rfl] at EQ
      have tN : ((m : Int) != (m : Int)) = false := by simp
      have HQ := hide EQ
      have HMM := hide hMM
      clear EQ hMM
      go_wp2_with fail
      refine (decoded_own q A C n c m e F S _ HP.out hn HN.out (HI.out.below hB3) (HJ.out.below hB3) hme he 1000000000 HMM.out HS9.out).mono ?_
      rintro r w4 ⟨g, rfl, hI4, hb4⟩
      have bx4 := bx.below hb4
      have hB4 := hB3.trans (hb4.mono hB3.size)
      clear x0 x1 x2 x3 hl3 bx
      have x0 := bx4.at_ 0
      have x1 := bx4.at_ 1
      simp only [List.getElem?_toArray] at x0 x1
      have hl4 := bx4.lt
      have hI4' : IntsAt w4 w3.heap.size (some ⟨g, 0, none⟩) n (recF q n F S) := hI4
      clear hI4
      go_wp2_with fail
      refine (isRight_any x y g 0 n n (recF q n F S) _ d0 d1 t1 hless (by omega) (Nat.le_refl _) (by omega) (hI4'.weak (Nat.zero_le _)) (fun k _ => recF_bit _ _ _ _ k)).mono ?_
      rintro r w5 ⟨rfl, hb5⟩
      rw [show intsB x (remB x y (n - x) (recF q n F S)) x (fun j => recF q n F S (n - x + j)) = recRight x y q n F S from rfl]
      have bx5 := bx4.below hb5
      have hB5 := hB4.trans (hb5.mono hB4.size)
      have hI5 := hI4'.below hb5
      clear x0 x1 hl4 bx4
      have x0 := bx5.at_ 0
      simp only [List.getElem?_toArray] at x0
      have hl5 := bx5.lt
      cases hrr : recRight x y q n F S
      · have HE := hide (show recErrI (x : Int) y q n F j m S = 21 from by rw [HQ.out, hrr]; rfl)
        go_wp2_with fail
        go_ret2
        exact .inl ⟨by rw [HE.out]; decide, by rw [HE.out]; rfl, hB5⟩
      · have HE := hide (show recErrI (x : Int) y q n F j m S = 0 from by rw [HQ.out, hrr]; rfl)
        obtain ⟨z, hzz⟩ : ∃ z : Nat, z = n - x := ⟨_, rfl⟩
        have q1 : IntKind.i64.wrap ((n : Int) - (x : Int)) = (z : Int) := by rw [IntWalk.i64_in _ (by omega)]; omega
        have hzn : z ≤ n := by omega
        have hznz : (z : Int) ≤ (n : Int) := by omega
        have HZZ := hide hzz
        clear hzz
        go_wp2_with fail
        go_ret2
        exact .inr ⟨HE.out, .slice (some ⟨g, 0, none⟩) z n, rfl, some ⟨g, 0, none⟩, n, by (show Value.slice _ z n = Value.slice _ (n - x) n); rw [HZZ.out], by (show n - x ≤ n); omega, ((hI5.fewer (m := n - x) (by omega)).weak hB3.size), hB5⟩
    · rw [if_neg hmN] at EQ
      have tN : ((m : Int) != (N : Int)) = true := by simp; omega
      have HQ := hide EQ
      clear EQ hmN
      go_wp2_with fail
      go_ret2
      exact .inl ⟨by rw [HQ.out]; decide, by rw [HQ.out]; rfl, hB3⟩
  · have ht : (recPre d t p n F k m S != 0) = true := by simpa using hz9
    have EQ := hide (show recErrI d t p n F k m S = recPre d t p n F k m S from if_neg hz9)
    have HZ := hide hz9
    clear hz9
    go_wp2_with fail
    go_ret2
    exact .inl ⟨by rw [EQ.out]; exact HZ.out, by rw [EQ.out]; rfl, hB3⟩
end Go.Proofs.Ytjelbemfljobaaa
