/- Lemmas: Na, Nd, Jf, Jh, Nf, Nh. -/
import Derived.Test.YtnglmfdcnoglhaaBk06
import Derived.Test.YtnglmfdcnoglhaaBk08
import Derived.Test.YtnglmfdcnoglhaaBk09
set_option linter.unusedVariables false
set_option linter.unusedSimpArgs false
/- Soft bits with the signs of what was sent are gathered, decoded and checked; a segment with one bit changed is refused: mathematics. -/
namespace Go.Proofs.Ytnglmfdcnoglhaa
/-- Soft bits of sizes Z (m of them, in turn), with the signs of bits. -/
def softF (m : Nat) (Z B : Nat → Int) (j : Nat) : Int := (1 - 2 * (B j % 2)) * (1 + (if m = 0 then 0 else Z (j % m) % 1000))
theorem softF_tells {m : Nat} {Z B : Nat → Int} {j : Nat} (h : IsBit (B j)) : Tells (softF m Z B j) (B j) ∧ -1000 ≤ softF m Z B j ∧ softF m Z B j ≤ 1000 := by
  have hz : 0 ≤ (if m = 0 then 0 else Z (j % m) % 1000) ∧ (if m = 0 then 0 else Z (j % m) % 1000) ≤ 999 := by split <;> omega
  unfold softF
  generalize (if m = 0 then 0 else Z (j % m) % 1000) = z at *
  unfold Tells
  rcases h with h | h
  · rw [h, show (1 - 2 * ((0 : Int) % 2)) = 1 by decide, Int.one_mul]
    omega
  · rw [h, show (1 - 2 * ((1 : Int) % 2)) = -1 by decide, Int.neg_one_mul]
    omega
theorem gather_part {v n C : Nat} {S W : Nat → Int} (h : ∀ k, k < C → Tells (S k) (W (placeN v n k))) : ∀ k, k ≤ C → ∀ p, (gatherF v n S k p = 0 ∧ ∀ j, j < k → placeN v n j ≠ p) ∨ ((∃ j, j < k ∧ placeN v n j = p) ∧ Tells (gatherF v n S k p) (W p))
  | 0, _, p => .inl ⟨rfl, fun j hj => absurd hj (Nat.not_lt_zero j)⟩
  | k + 1, hk, p => by
    have ih := gather_part h k (by omega) p
    unfold gatherF
    by_cases e : p = placeN v n k
    · rw [if_pos e]
      have hs := h k (by omega)
      rw [← e] at hs
      refine .inr ⟨⟨k, by omega, e.symm⟩, ?_⟩
      rcases ih with ⟨h0, -⟩ | ⟨-, h0⟩
      · rw [h0, Int.zero_add]; exact hs
      · unfold Tells at *; omega
    · rw [if_neg e]
      rcases ih with ⟨h0, h1⟩ | ⟨⟨j, hj, hj2⟩, h0⟩
      · refine .inl ⟨h0, fun j hj => ?_⟩
        by_cases e2 : j = k
        · subst e2; exact fun h => e h.symm
        · exact h1 j (by omega)
      · exact .inr ⟨⟨j, by omega, hj2⟩, h0⟩
theorem place_onto {v n p : Nat} (hp : p < n) : ∃ j, j < n ∧ placeN v n j = p := by
  unfold placeN
  generalize v * n / 4 = a
  have hd := Nat.div_add_mod a n
  have hr := Nat.mod_lt a (show 0 < n by omega)
  obtain ⟨q, hq⟩ : ∃ q, q = n * (a / n) := ⟨_, rfl⟩
  rw [← hq] at hd
  by_cases h : a % n ≤ p
  · refine ⟨p - a % n, by omega, ?_⟩
    rw [show a + (p - a % n) = p + n * (a / n) by rw [← hq]; omega, Nat.add_mul_mod_self_left, Nat.mod_eq_of_lt hp]
  · refine ⟨p + n - a % n, by omega, ?_⟩
    rw [show a + (p + n - a % n) = p + n * (a / n + 1) by rw [Nat.mul_add, ← hq]; omega, Nat.add_mul_mod_self_left, Nat.mod_eq_of_lt hp]
theorem gather_tells {v n C : Nat} {S W : Nat → Int} (hC : n ≤ C) (h : ∀ k, k < C → Tells (S k) (W (placeN v n k))) {p : Nat} (hp : p < n) : Tells (gatherF v n S C p) (W p) := by
  rcases gather_part h C (Nat.le_refl _) p with ⟨-, h1⟩ | ⟨-, h1⟩
  · obtain ⟨j, hj, e⟩ := place_onto (v := v) hp
    exact absurd e (h1 j (by omega))
  · exact h1
theorem rec_right {q n : Nat} {F U S : Nat → Int} (hp : PolarOk q n F) (hU : ∀ k, k < n → IsBit (U k)) (hS : ∀ j, j < 2 ^ q → Tells (S j) (wordF (2 ^ q) (fun x => posF F U x n) j)) : ∀ k, k < n → recF q n F S k = U k := by
  intro k hk
  unfold recF
  have hr := hp.range k hk
  have e : (2 : Int) ^ q = ((2 ^ q : Nat) : Int) := by simp
  rw [e] at hr
  rw [cancel_right q (fun x => isPos F x n) (fun x => posF F U x n) S (fun j _ => posF_bit hU j) (fun j _ h => posF_none h) hS _ (by omega)]
  exact posF_at hp hk
theorem rec_checked {x y q m : Nat} {F B S : Nat → Int} (hp : PolarOk q (m + x) F) (hB : ∀ k, k < m → IsBit (B k)) (hS : ∀ j, j < 2 ^ q → Tells (S j) (wordF (2 ^ q) (fun i => posF F (catF m B (remB x y m B)) i (m + x)) j)) : recRight x y q (m + x) F S = true ∧ ∀ k, k < m → recF q (m + x) F S k = B k := by
  have hU := catF_bits (m := x) hB (remB_bit x y m B)
  have hr := rec_right hp hU hS
  have h1 : ∀ k, k < m → recF q (m + x) F S k = B k := fun k hk => by
    rw [hr k (by omega)]; unfold catF; rw [if_pos hk]
  refine ⟨?_, h1⟩
  unfold recRight
  rw [Nat.add_sub_cancel]
  refine intsB_iff.2 ⟨rfl, fun j hj => ?_⟩
  rw [hr (m + j) (by omega)]
  unfold catF
  rw [if_neg (by omega), Nat.add_sub_cancel_left]
  unfold remB
  rw [remF_congr h1]
theorem sizedErr_ok {n cnt : Nat} {F : Nat → Int} {m : Int} (h0 : 0 < n) (h1 : n ≤ cnt) (h : ∀ j, j < n → -m ≤ F j ∧ F j ≤ m) : sizedErrI n cnt F m = 0 := by
  unfold sizedErrI
  rw [if_neg (by omega), if_neg (by omega), if_pos (sizedB_iff.2 h)]
theorem recErr_ok {x y q m : Nat} {k : Int} {F B S : Nat → Int} (hc : chainErrI x y q (m + x) F k = 0) (q6 : q ≤ 6) (hp : PolarOk q (m + x) F) (hB : ∀ k, k < m → IsBit (B k)) (hS : ∀ j, j < 2 ^ q → Tells (S j) (wordF (2 ^ q) (fun i => posF F (catF m B (remB x y m B)) i (m + x)) j))
    (hS9 : ∀ j, j < 2 ^ q → -1000000000 ≤ S j ∧ S j ≤ 1000000000) : recErrI x y q (m + x) F k (2 ^ q) S = 0 := by
  have h1 : sizedErrI (2 ^ q) 200 S 1000000000 = 0 := sizedErr_ok (Nat.two_pow_pos q) (by have : 2 ^ q ≤ 2 ^ 6 := Nat.pow_le_pow_right (by decide) q6; omega) hS9
  have h2 : recPre x y q (m + x) F k (2 ^ q) S = 0 := by
    unfold recPre
    rw [hc, h1]
    rfl
  unfold recErrI
  rw [if_pos h2]
  simp only [Int.toNat_natCast]
  rw [if_pos trivial, if_pos (rec_checked hp hB hS).1]
/-- One bit of a right segment changed: it is refused. -/
theorem segErr_turned {x y a pl : Nat} {F : Nat → Int} (h0 : 1 ≤ x) (ht : y < 2 ^ x) (todd : y % 2 = 1) (hpl : pl < a + x) (h : segErrI x y a (a + x) F = 0) : segErrI x y a (a + x) (setF F pl (1 - F pl)) = 21 := by
  unfold segErrI at h ⊢
  rw [if_pos rfl] at h ⊢
  by_cases hb : bitsB (a + x) F = true
  · rw [if_pos hb] at h
    have hbit := bitsB_iff.1 hb
    by_cases hr : rightB x y (a + x) F = true
    · have hg : ∀ k, k < a + x → IsBit (setF F pl (1 - F pl) k) := fun k hk => by
        unfold setF
        split
        · rcases hbit pl hpl with h | h <;> rw [h]
          · right; rfl
          · left; rfl
        · exact hbit k hk
      rw [if_pos (bitsB_iff.2 hg), if_neg]
      intro hr2
      unfold rightB at hr hr2
      rw [Nat.add_sub_cancel] at hr hr2
      have hr := (intsB_iff.1 hr).2
      have hr2 := (intsB_iff.1 hr2).2
      -- the same on all places
      let F0 : Nat → Int := fun k => if k < a + x then F k else 0
      let G0 : Nat → Int := fun k => if k < a + x then setF F pl (1 - F pl) k else 0
      have f0 : ∀ k, k < a + x → F0 k = F k := fun k hk => if_pos hk
      have g0 : ∀ k, k < a + x → G0 k = setF F pl (1 - F pl) k := fun k hk => if_pos hk
      have hF0 : ∀ k, IsBit (F0 k) := fun k => by
        by_cases hk : k < a + x
        · rw [f0 k hk]; exact hbit k hk
        · show IsBit (if k < a + x then F k else 0)
          rw [if_neg hk]; exact .inl rfl
      have hG0 : ∀ k, IsBit (G0 k) := fun k => by
        by_cases hk : k < a + x
        · rw [g0 k hk]; exact hg k hk
        · show IsBit (if k < a + x then setF F pl (1 - F pl) k else 0)
          rw [if_neg hk]; exact .inl rfl
      have hsame : ∀ k, k ≠ pl → F0 k = G0 k := fun k hk => by
        show (if k < a + x then F k else 0) = (if k < a + x then setF F pl (1 - F pl) k else 0)
        unfold setF
        rw [if_neg hk]
      refine burst_caught (F := F0) (G := G0) (n := a) (a := min pl a) h0 ht todd hF0 hG0 (by omega) (fun k hk => hsame k (by omega)) (fun k hk hk2 => hsame k (by omega)) ⟨pl, by omega, by omega, ?_⟩ (fun j hj => ?_) (fun j hj => ?_)
      · rw [f0 pl hpl, g0 pl hpl]
        unfold setF
        rw [if_pos rfl]
        omega
      · rw [f0 (a + j) (by omega), ← hr j hj]
        unfold remB
        rw [remF_congr fun k hk => f0 k (by omega)]
      · rw [g0 (a + j) (by omega), ← hr2 j hj]
        unfold remB
        rw [remF_congr fun k hk => g0 k (by omega)]
    · rw [if_neg hr] at h; exact absurd h (by decide)
  · rw [if_neg hb] at h; exact absurd h (by decide)
/-- Lists with one number of one of them changed. -/
def turnF (G : Nat → Nat → Int) (at_ pl : Nat) (v : Int) (i : Nat) : Nat → Int := if i = at_ then setF (G at_) pl v else G i
theorem join_turned {x y m n at_ pl : Nat} {G : Nat → Nat → Int} (h0 : 1 ≤ x) (ht : y < 2 ^ x) (todd : y % 2 = 1)
    (hat : at_ < cntN x m n) (hpl : pl < aheadN x m n + x) (hG : ∀ i, i < cntN x m n → segErrI x y (aheadN x m n) (aheadN x m n + x) (G i) = 0) :
    joinErrI x y m n (cntN x m n) (fun _ => aheadN x m n + x) (turnF G at_ pl (1 - G at_ pl)) = 21 ∧ joinNum x y m n (cntN x m n) (fun _ => aheadN x m n + x) (turnF G at_ pl (1 - G at_ pl)) = at_ := by
  have hz : firstBad (fun i => segErrI x y (aheadN x m n) (aheadN x m n + x) (turnF G at_ pl (1 - G at_ pl) i)) at_ = 0 := firstBad_none fun k hk => by
    show segErrI _ _ _ _ (if k = at_ then _ else _) = 0
    rw [if_neg (by omega)]
    exact hG k (by omega)
  have hk : segErrI x y (aheadN x m n) (aheadN x m n + x) (turnF G at_ pl (1 - G at_ pl) at_) = 21 := by
    show segErrI _ _ _ _ (if at_ = at_ then _ else _) = 21
    rw [if_pos rfl]
    exact segErr_turned h0 ht todd hpl (hG at_ hat)
  have hne : (fun i => segErrI x y (aheadN x m n) (aheadN x m n + x) (turnF G at_ pl (1 - G at_ pl) i)) at_ ≠ 0 := by
    show segErrI _ _ _ _ _ ≠ 0
    rw [hk]; decide
  have e1 := firstBad_at hz hne _ hat
  have e2 := firstIdx_at hz hne _ hat
  have e3 : firstBad (fun i => segErrI x y (aheadN x m n) (aheadN x m n + x) (turnF G at_ pl (1 - G at_ pl) i)) (cntN x m n) = 21 := e1.trans hk
  refine ⟨?_, ?_⟩
  · rw [joinErr_def, if_pos rfl, if_neg (by rw [e3]; decide), e3]
  · rw [joinNum_def, if_pos rfl, if_neg (by rw [e3]; decide), e2]
end Go.Proofs.Ytnglmfdcnoglhaa
/- codeSoft: soft bits with the signs of bits, and sizes in turn. -/
namespace Go.Proofs.Ytnglmfdcnoglhaa
open Go.RowKit Go.Shelf
theorem softF_parts {m : Nat} {Z B : Nat → Int} {j : Nat} {z b : Int} (hz : (if m = 0 then 0 else Z (j % m) % 1000) = z) (hb : B j % 2 = b) : softF m Z B j = (1 - 2 * b) * (1 + z) := by unfold softF; rw [hz, hb]
set_option maxHeartbeats 2000000 in
theorem codeSoft_any (A C : Option Addr) (n c m d : Nat) (B Z : Nat → Int) (w : World) (hn : n ≤ 1000) (hm : m ≤ 9223372036854775807) (hI : IntsAt w 0 A n B) (hJ : IntsAt w 0 C m Z) :
    Calls Try.prog 19 #[.slice A n c, .slice C m d] w fun e w' => ∃ v, e = .returned v ∧ OwnInts w' w.heap.size v n (softF m Z B) ∧ Below w.heap.size w w' := by
  have HI := hide hI
  have HJ := hide hJ
  clear hI hJ
  go_enter Try.func19, Try.ntmps19
  go_wp2_with fail
  go_loopw [5, 6, 7] (fun x i _ wr => ∃ j : Nat, j ≤ n ∧ i = .int .i64 j ∧ OwnInts wr w.heap.size x j (softF m Z B) ∧ Below w.heap.size w wr) (fun _ i _ _ => n - (intOf i).toNat)
  case atStart => exact ⟨0, Nat.zero_le _, rfl, OwnInts.nil_ _ _ _, Below.refl _ _⟩
  case round =>
    obtain ⟨j, hj, rfl, hown, hB⟩ := hrel
    obtain ⟨As, cs, rfl, hcs, hIs⟩ := hown.form
    have hBs := hB.size
    by_cases hlt : j < n
    · have hltz : (j : Int) < (n : Int) := by omega
      obtain ⟨b, o, rfl, -, hb, hcell⟩ := (HI.out.below hB) j hlt
      by_cases hm0 : m = 0
      · subst hm0
        have t1 : decide ((0 : Int) < ((0 : Nat) : Int)) = false := by decide
        have hx := Int.emod_two_eq (B j)
        obtain ⟨x, hxx⟩ : ∃ x, x = B j % 2 := ⟨_, rfl⟩
        rw [← hxx] at hx
        have HV := hide (show softF 0 Z B j = 1 - 2 * x from by rw [softF_parts (m := 0) (Z := Z) (B := B) (j := j) (z := 0) (b := x) (if_pos rfl) hxx.symm]; omega)
        have HX := hide hxx
        clear hxx
        have q1 : IntKind.i64.wrap (1 - 2 * x) = 1 - 2 * x := IntWalk.i64_in _ (by omega)
        have HMB := hide (fun W => mod_any (B j) 2 W (by decide) (by decide))
        rw [← HX.out] at HMB
        go_wp2_with fail
        refine (HMB.out _).mono ?_
        rintro r w' ⟨rfl, rfl⟩
        go_wp2_with (at_builtin; refine wpList_append_ints _ rfl (.tmp 27) (.tmp 37) rfl w.heap.size 0 (.slice As j cs) j _ rfl (hown.alloc _) (some ⟨_, 0, none⟩) 1 1 (fun _ => 1 - 2 * x) rfl (IntsAt.one _ 0 (1 - 2 * x) 3 (Nat.zero_le _)) (by omega) (by simp; omega) ?_; intro v' w' h1 hb2)
        refine ⟨⟨j + 1, by omega, by simp, h1.congr (fun y hy => ?_), (hB.alloc hBs _).trans hb2⟩, by simp [intOf]; omega⟩
        unfold catF
        by_cases e : y < j
        · rw [if_pos e]
        · rw [if_neg e, show y = j by omega, HV.out]
      · have hm1 : 0 < m := by omega
        have t1 : decide ((0 : Int) < (m : Int)) = true := decide_eq_true (by omega)
        have t1' : decide (0 < m) = true := decide_eq_true hm1
        have hmz : ¬ (m : Int) = 0 := by omega
        have hml := Nat.mod_lt j hm1
        obtain ⟨i, hi⟩ : ∃ i, i = j % m := ⟨_, rfl⟩
        rw [← hi] at hml
        obtain ⟨b', o', rfl, -, hb', hcell'⟩ := (HJ.out.below hB) i hml
        have hmlz : (i : Int) < (m : Int) := by omega
        have ec : (j : Int) % (m : Int) = (i : Int) := by rw [hi]; simp
        have et : (j : Int).tmod (m : Int) = (i : Int) := by rw [Int.tmod_eq_emod_of_nonneg (by omega)]; exact ec
        have hx := Int.emod_two_eq (B j)
        obtain ⟨x, hxx⟩ : ∃ x, x = B j % 2 := ⟨_, rfl⟩
        rw [← hxx] at hx
        have hz0 : 0 ≤ Z i % 1000 ∧ Z i % 1000 < 1000 := ⟨Int.emod_nonneg _ (by decide), Int.emod_lt_of_pos _ (by decide)⟩
        obtain ⟨z, hzz⟩ : ∃ z, z = Z i % 1000 := ⟨_, rfl⟩
        rw [← hzz] at hz0
        obtain ⟨z0, z9⟩ := hz0
        obtain ⟨V, hV⟩ : ∃ V, V = (1 - 2 * x) * (1 + z) := ⟨_, rfl⟩
        have HV := hide (show softF m Z B j = V from by rw [hV]; exact softF_parts (by rw [if_neg hm0, hzz, hi]) hxx.symm)
        have q3 : IntKind.i64.wrap ((1 - 2 * x) * (1 + z)) = V := by
          rw [← hV]
          refine IntWalk.i64_in _ ?_
          rcases hx with h | h
          · rw [hV, h, Int.mul_zero, Int.sub_zero, Int.one_mul]; omega
          · rw [hV, h, show (1 - 2 * (1 : Int)) = -1 by decide, Int.neg_one_mul]; omega
        have q1 : IntKind.i64.wrap (1 - 2 * x) = 1 - 2 * x := IntWalk.i64_in _ (by omega)
        have HMZ := hide (fun W => mod_any (Z i) 1000 W (by decide) (by decide))
        rw [← hzz] at HMZ
        have HMB := hide (fun W => mod_any (B j) 2 W (by decide) (by decide))
        rw [← hxx] at HMB
        have x0 : 0 ≤ x := by omega
        have x9 : x ≤ 1 := by omega
        clear hV hxx hzz hi ec hm0 hx
        go_wp2_with fail
        refine (HMZ.out _).mono ?_
        rintro r w' ⟨rfl, rfl⟩
        go_wp2_with fail
        refine (HMB.out _).mono ?_
        rintro r w' ⟨rfl, rfl⟩
        go_wp2_with (at_builtin; refine wpList_append_ints _ rfl (.tmp 27) (.tmp 37) rfl w.heap.size 0 (.slice As j cs) j _ rfl (hown.alloc _) (some ⟨_, 0, none⟩) 1 1 (fun _ => V) rfl (IntsAt.one _ 0 V 3 (Nat.zero_le _)) (by omega) (by simp; omega) ?_; intro v' w' h1 hb2)
        refine ⟨⟨j + 1, by omega, by simp, h1.congr (fun y hy => ?_), (hB.alloc hBs _).trans hb2⟩, by simp [intOf]; omega⟩
        unfold catF
        by_cases e : y < j
        · rw [if_pos e]
        · rw [if_neg e, show y = j by omega, HV.out]
    · obtain rfl : j = n := by omega
      go_wp2_with fail
      go_ret
      exact ⟨_, rfl, hown, hB⟩
end Go.Proofs.Ytnglmfdcnoglhaa
/- gathered -/
namespace Go.Proofs.Ytnglmfdcnoglhaa
open Go.RowKit Go.Shelf
attribute [local go_sem] Oper.semAt_some
/-- What the rounds so far have gathered at a place. -/
def gatherL (v n : Nat) (S : Nat → Int) {C : Nat} (pre : List (Fin C)) (p : Nat) : Int := pre.foldl (fun acc x => if p = placeN v n x.1 then acc + S x.1 else acc) 0
theorem gatherL_snoc {v n : Nat} {S : Nat → Int} {C : Nat} (pre : List (Fin C)) (x : Fin C) (p : Nat) : gatherL v n S (pre ++ [x]) p = if p = placeN v n x.1 then gatherL v n S pre p + S x.1 else gatherL v n S pre p := by
  unfold gatherL
  rw [List.foldl_append]
  rfl
theorem gatherL_seq {v n : Nat} {S : Nat → Int} {C : Nat} (p : Nat) : ∀ k, k ≤ C → gatherL v n S (seqTo C k) p = gatherF v n S k p
  | 0, _ => rfl
  | k + 1, hk => by
    rw [seqTo_succ (show k < C by omega), gatherL_snoc, gatherL_seq p k (by omega)]
    rfl
theorem foldl_le {v n p : Nat} {S : Nat → Int} {C : Nat} (hS : ∀ k, k < C → -1000000 ≤ S k ∧ S k ≤ 1000000) : ∀ (pre : List (Fin C)) (a : Int), a - (pre.length : Int) * 1000000 ≤ pre.foldl (fun acc x => if p = placeN v n x.1 then acc + S x.1 else acc) a ∧ pre.foldl (fun acc x => if p = placeN v n x.1 then acc + S x.1 else acc) a ≤ a + (pre.length : Int) * 1000000
  | [], a => by simp
  | x :: r, a => by
    have hx := hS x.1 x.2
    have h := foldl_le (v := v) (n := n) (p := p) hS r (if p = placeN v n x.1 then a + S x.1 else a)
    rw [List.foldl_cons, List.length_cons]
    have e : -1000000 ≤ (if p = placeN v n x.1 then a + S x.1 else a) - a ∧ (if p = placeN v n x.1 then a + S x.1 else a) - a ≤ 1000000 := by split <;> omega
    generalize (if p = placeN v n x.1 then a + S x.1 else a) = y at *
    omega
theorem gatherL_le {v n : Nat} {S : Nat → Int} {C : Nat} (hS : ∀ k, k < C → -1000000 ≤ S k ∧ S k ≤ 1000000) (pre : List (Fin C)) (p : Nat) (hl : pre.length < 1001) : -2000000000 ≤ gatherL v n S pre p ∧ gatherL v n S pre p ≤ 2000000000 := by
  have h := foldl_le (v := v) (n := n) (p := p) hS pre 0
  have e : gatherL v n S pre p = pre.foldl (fun acc x => if p = placeN v n x.1 then acc + S x.1 else acc) 0 := rfl
  rw [← e] at h
  omega

structure GInv (w W : World) (A : Option Addr) (n c C v : Nat) (S : Nat → Int) (pre : List (Fin C)) : Prop where
  row : W.rowIs (w.heap.size + 1) 3 n (fun p => .int .i64 (gatherL v n S pre p))
  b0 : Box W w.heap.size 24 #[.slice A C c]
  b2 : Box W (w.heap.size + 1 + 1) 24 #[.slice (some ⟨w.heap.size + 1, 0, none⟩) n n]
  below : Below w.heap.size w W
  size : w.heap.size + 6 ≤ W.heap.size
theorem GInv.grown {w W Y : World} {A : Option Addr} {n c C v : Nat} {S : Nat → Int} {pre : List (Fin C)} {row : Option Nat} (h : GInv w W A n c C v S pre) (hg : W.grownBy Y row) (hr : ∀ r, row = some r → w.heap.size + 6 ≤ r) : GInv w Y A n c C v S pre := by
  have hs := h.size
  have hk : ∀ k, k < w.heap.size + 6 → Y.heap[k]? = W.heap[k]? := fun k hk => hg.block k (by omega) (fun e => by have := hr k e.symm; omega)
  exact ⟨h.row.of_block (hk _ (by omega)), (hk _ (by omega)).trans h.b0, (hk _ (by omega)).trans h.b2, h.below.grown hg (Nat.le_trans (by omega) hs) (fun k e => by have := hr k e; omega), Nat.le_trans hs hg.size⟩
theorem GInv.set_ {w W : World} {A : Option Addr} {n c C v : Nat} {S : Nat → Int} {pre : List (Fin C)} (h : GInv w W A n c C v S pre) (x : Fin C) : GInv w (W.setCell ⟨w.heap.size + 1, placeN v n x.1, none⟩ (.int .i64 (gatherL v n S pre (placeN v n x.1) + S x.1))) A n c C v S (pre ++ [x]) := by
  refine ⟨(h.row.set (placeN v n x.1) _).congr (fun y _ => ?_), h.b0.other (by simp) _, h.b2.other (by simp) _, h.below.setCell (by simp) _, by simpa [World.setCell] using h.size⟩
  rw [gatherL_snoc]
  by_cases e : y = placeN v n x.1
  · subst e
    simp
  · rw [if_neg e, if_neg e]
theorem GInv.drew {w W : World} {A : Option Addr} {n c C v : Nat} {S : Nat → Int} {pre : List (Fin C)} (h : GInv w W A n c C v S pre) : GInv w W.drew A n c C v S pre := ⟨h.row, h.b0, h.b2, h.below.drew, h.size⟩

set_option maxHeartbeats 2000000 in
/-- A function handed back a new slice of n numbers, with no room behind them. -/
def GaveRow (w : World) (n : Nat) (F : Nat → Int) (v : Value) (w' : World) : Prop := (∃ g, v = .slice (some ⟨g, 0, none⟩) n n) ∧ GaveInts w n F v w'
theorem GaveRow.of_row {w w' : World} {g n : Nat} {t : TypeId} {F : Nat → Int} (h : w'.rowIs g t n (fun j => .int .i64 (F j))) (hg : w.heap.size ≤ g) (hb : Below w.heap.size w w') : GaveRow w n F (.slice (some ⟨g, 0, none⟩) n n) w' :=
  ⟨⟨g, rfl⟩, GaveInts.of_row h hg hb⟩
set_option maxRecDepth 100000 in
theorem gathered_row (A : Option Addr) (C c v n : Nat) (S : Nat → Int) (w : World) (hI : IntsAt w 0 A C S) (hS : ∀ k, k < C → -1000000 ≤ S k ∧ S k ≤ 1000000) (hv : v ≤ 3) (hn : 1 ≤ n) (hn9 : n ≤ 1000) (hC : C ≤ 1000) :
    Calls Try.prog 81 #[.slice A C c, .int .i64 (v : Int), .int .i64 (n : Int)] w fun e w' => ∃ x, e = .returned x ∧ GaveRow w n (gatherF v n S C) x w' := by
  obtain ⟨i0, hi, hz0, hz1, hz2⟩ := info_parts intInfo
  have hmk := fun W => run_make_row (P := Try.prog) 24 3 i0 (.int .i64 0) Try.underlying24 hi hz0 hz1 rfl .i64 .i64 n (by rw [hz2]; omega) (by omega) W
  have HI := hide hI
  have HS := hide hS
  clear hI hS hi hz0 hz1 hz2
  refine (callsIn_wide (n := 9)).1 ?_
  refine callsIn_of_wp_marks Try.func81 rfl trivial ?_ rfl
  refine wpIn_wide.2 ?_
  simp only [Try.ntmps81, List.size_toArray, List.length_cons, List.length_nil, Nat.reduceAdd, Nat.reduceSub, Array.replicate_succ, Array.replicate_zero, List.push_toArray, List.append_toArray, List.nil_append, List.cons_append]
  go_wp2_with fail
  refine (placesOf_any _ _ _ _).mono ?_
  rintro e w5 ⟨rfl, hw5⟩
  have hz5 : w5.heap.size = w.heap.size + 6 := by rw [← hw5]; simp
  have hA5 : GInv w w5 A n c C v S [] := by
    refine ⟨?_, ?_, ?_, ?_, by omega⟩
    · rw [← hw5]
      have h := World.rowIs_made (w.alloc (.cells #[.slice A C c] 24)) (.int .i64 0) n 3
      simp only [World.size_alloc] at h
      exact ((((h.alloc _).alloc _).alloc _).alloc _).congr (fun _ _ => rfl)
    · rw [← hw5]; exact (((((Box.made rfl).alloc _).alloc _).alloc _).alloc _).alloc _
    · rw [← hw5]; exact (((Box.made (by simp)).alloc _).alloc _).alloc _
    · rw [← hw5]; (repeat (first | (with_reducible exact Below.refl _ _) | (with_reducible refine below_drewN ?_ _) | (with_reducible refine Below.drew ?_) | (with_reducible refine Below.alloc ?_ (by first | exact Nat.le_refl _ | (simp; done) | (simp; omega) | omega) _) | (with_reducible refine Below.setCell ?_ (by first | exact Nat.le_refl _ | (simp; done) | (simp; omega) | omega) _)))
  have bv : Box w5 (w.heap.size + 3) 3 #[.int .i64 (v : Int)] := by rw [← hw5]; exact ((Box.made (by simp)).alloc _).alloc _
  have bn : Box w5 (w.heap.size + 3 + 1) 3 #[.int .i64 (n : Int)] := by rw [← hw5]; exact (Box.made (by simp)).alloc _
  have bc : Box w5 (w.heap.size + 3 + 1 + 1) 3 #[.int .i64 (C : Int)] := by rw [← hw5]; exact Box.made (by simp)
  clear hw5 hmk
  have HZ5 := hide hz5
  clear hz5
  simp only [World.size_alloc]
  go_wp2_with fail
  refine (wpIn_wide (n := 9)).1 ?_
  apply wpIn_rangeFunc_ownG (n := 9) (encs := encP v n C) (Kp := K3 (w.heap.size + 3)) rfl (by decide) rfl trivial (enters_of Try.func93 (by kernel_rfl) rfl)
    (places_stops 8 (w.heap.size + 3) v n C w5 bv bn bc hv hn hn9 hC)
    K3.trans (fun W l o o' hl h _ _ => K3.put (by have := HZ5.out; omega)) (Below.refl _ _) (fun _ => rfl)
    (fun pre W => GInv w W A n c C v S pre) (fun _ _ _ => False)
  case hI => exact fun pre X Y row hs hg hr => hs.grown hg (fun r e => by have := (hr r e).1; have := HZ5.out; omega)
  case hIx => exact fun c s X Y row hs _ _ => hs
  case h0 => exact hA5
  case hassign =>
    intro l x W K hK
    unfold encP
    gi_wp2
    exact hK
  case hbody =>
    rintro l pre x W hM hlen
    have hx2 := x.2
    have hpl := placeN_lt (v := v) (k := x.1) (show 0 < n by omega)
    have HM := hide (hM.drew.set_ x)
    have x2 : W.cell? ⟨w.heap.size + 1 + 1, 0, none⟩ = some (.slice (some ⟨w.heap.size + 1, 0, none⟩) n n) := hM.b2.at_ 0
    have hI := HI.out.below hM.below
    obtain ⟨b, o, rfl, -, hb, hcell⟩ := hI _ hx2
    have x0 : W.cell? ⟨w.heap.size, 0, none⟩ = some (.slice (some ⟨b, o, none⟩) C c) := hM.b0.at_ 0
    have hc := hM.row.cell hpl
    have hf := hM.row.frozen (placeN v n x.1)
    have hMz := hM.size
    have hg9 := gatherL_le (v := v) (n := n) HS.out pre (placeN v n x.1) (by omega)
    have hs9 := HS.out x.1 hx2
    have HO := hide ((Only.refl (w.heap.size + 1) W).drew.set_ (placeN v n x.1) (.int .i64 (gatherL v n S pre (placeN v n x.1) + S x.1)))
    generalize placeN v n x.1 = p at *
    generalize gatherL v n S pre p = y at *
    generalize S x.1 = u at *
    have q1 : IntKind.i64.wrap (y + u) = y + u := IntWalk.i64_in _ (by omega)
    gi_wp2_with fail
    refine wpIn_region_tail 10 (by kernel_rfl) (by kernel_rfl) (by kernel_rfl) (fun ⟨_, _, h⟩ => h) ?_
    simp only [List.take_succ_cons, List.take_zero, List.drop_succ_cons, List.drop_zero]
    repeat still_step
    try refine wpStill_nil ?_
    change wpList _ _ _ _ _ W.drew
    go_wp2_with fail
    go_goals
    all_goals
      exact ⟨⟨HO.out.size, fun q o' hq hk _ => (HO.out.block q (Array.getElem?_eq_some_iff.1 hk).1 (fun e => by injection e; have := HZ5.out; omega)).trans hk⟩, K3.of_only HO.out (by have := HZ5.out; omega) (by omega), HM.out⟩
  case hdone =>
    rintro D xs W hD hxs hM hK
    have x2 : W.cell? ⟨w.heap.size + 1 + 1, 0, none⟩ = some (.slice (some ⟨w.heap.size + 1, 0, none⟩) n n) := hM.b2.at_ 0
    have hK' := hide hK
    have HXS := hide hxs
    clear hxs hK
    have hlt := hM.b2.lt
    go_wp2_with fail
    refine ⟨by simp, .inl ⟨_, _, rfl, run_takeDeferred hK'.out, ?_⟩⟩
    refine ⟨_, by first | exact results_tmp rfl _ _ _ | rfl, _, rfl, ?_⟩
    have hDz : D < W.heap.size := (Array.getElem?_eq_some_iff.1 hK'.out).1
    have hMz := hM.size
    have hz5 := HZ5.out
    have hM3 : GInv w (W.putObj D (.deferred none)) A n c C v S xs := hM.grown (grownBy_putObj' W D _) (fun r e => by cases e; omega)
    have hr := hM3.row.congr (g := fun y => .int .i64 (gatherF v n S C y)) (fun y hy => by rw [HXS.out, gatherL_seq y C (Nat.le_refl _)])
    exact GaveRow.of_row hr (by omega) hM3.below
  case hstop => exact fun D c pre W _ _ h _ => h.elim
theorem gathered_any (A : Option Addr) (C c v n : Nat) (S : Nat → Int) (w : World) (hI : IntsAt w 0 A C S) (hS : ∀ k, k < C → -1000000 ≤ S k ∧ S k ≤ 1000000) (hv : v ≤ 3) (hn : 1 ≤ n) (hn9 : n ≤ 1000) (hC : C ≤ 1000) :
    Calls Try.prog 81 #[.slice A C c, .int .i64 (v : Int), .int .i64 (n : Int)] w fun e w' => ∃ x, e = .returned x ∧ GaveInts w n (gatherF v n S C) x w' :=
  (gathered_row A C c v n S w hI hS hv hn hn9 hC).mono fun _ _ ⟨x, h1, h2⟩ => ⟨x, h1, h2.2⟩
end Go.Proofs.Ytnglmfdcnoglhaa
/- Match and Gathered of the code, with their errors. -/
namespace Go.Proofs.Ytnglmfdcnoglhaa
open Go.RowKit Go.Shelf
def matchErr (n : Nat) (F : Nat → Int) (v c : Int) : Int := if bitsErrR n F = 0 then (if unI (withinB v 0 3) 15 = 0 then unI (withinB c 1 400) 2 else unI (withinB v 0 3) 15) else bitsErrR n F
def gathErr (n : Nat) (S : Nat → Int) (v l : Int) : Int := if sizedErrI n 400 S 1000000 = 0 then (if unI (withinB v 0 3) 15 = 0 then unI (withinB l 1 200) 2 else unI (withinB v 0 3) 15) else sizedErrI n 400 S 1000000
theorem first3 (a b c : Int) : firstE [a, b, c] = if a = 0 then (if b = 0 then c else b) else a := by
  rw [firstE_cons, firstE_cons, firstE_cons, firstE_nil]
  split
  · split
    · split
      · rename_i h; exact h.symm
      · rfl
    · rfl
  · rfl
theorem matchErr_zero {n : Nat} {F : Nat → Int} {v c : Int} (h : matchErr n F v c = 0) : bitsErrR n F = 0 ∧ (0 ≤ v ∧ v ≤ 3) ∧ 1 ≤ c ∧ c ≤ 400 := by
  unfold matchErr at h
  by_cases h1 : bitsErrR n F = 0
  · rw [if_pos h1] at h
    by_cases h2 : unI (withinB v 0 3) 15 = 0
    · rw [if_pos h2] at h
      exact ⟨h1, withinB_of (unI_zero (by decide) h2), withinB_of (unI_zero (by decide) h)⟩
    · rw [if_neg h2] at h; exact absurd h h2
  · rw [if_neg h1] at h; exact absurd h h1
theorem gathErr_zero {n : Nat} {S : Nat → Int} {v l : Int} (h : gathErr n S v l = 0) : sizedErrI n 400 S 1000000 = 0 ∧ (0 ≤ v ∧ v ≤ 3) ∧ 1 ≤ l ∧ l ≤ 200 := by
  unfold gathErr at h
  by_cases h1 : sizedErrI n 400 S 1000000 = 0
  · rw [if_pos h1] at h
    by_cases h2 : unI (withinB v 0 3) 15 = 0
    · rw [if_pos h2] at h
      exact ⟨h1, withinB_of (unI_zero (by decide) h2), withinB_of (unI_zero (by decide) h)⟩
    · rw [if_neg h2] at h; exact absurd h h2
  · rw [if_neg h1] at h; exact absurd h h1
set_option maxHeartbeats 1000000 in
theorem Match_any (A : Option Addr) (n c : Nat) (v C : Int) (B : Nat → Int) (w : World) (hI : IntsAt w 0 A n B) (hn : n ≤ 1000) :
    Calls Try.prog 60 #[.slice A n c, .int .i64 v, .int .i64 C] w (GaveOr (matchErr n B v C) C.toNat (fun k => B (placeN v.toNat n k)) w) := by
  have HI := hide hI
  clear hI
  go_enter Try.func60, Try.ntmps60
  go_wp2_with fail
  refine (bitsError_any A n c B _ (by omega) HI.out).mono ?_
  rintro e w1 ⟨rfl, hb1⟩
  rw [show firstE [firstE [unI (decide (0 < n)) 10, unI (decide (n ≤ 200)) 8], unI (bitsB n B) 15] = bitsErrR n B from bitsErrC_eq n B]
  go_wp2_with (first | (go_at_call 44; refine (versionError_any _ _).mono ?_; rintro e w' ⟨rfl, rfl⟩) | (go_at_call 74; refine (countError_any _ _).mono ?_; rintro e w' ⟨rfl, rfl⟩))
  refine (firstError_laid [bitsErrR n B, unI (withinB v 0 3) 15, unI (withinB C 1 400) 2] 3 _ _ rfl (by decide)).mono ?_
  rintro e w3 ⟨rfl, hw3⟩
  rw [show firstE [bitsErrR n B, unI (withinB v 0 3) 15, unI (withinB C 1 400) 2] = matchErr n B v C from first3 _ _ _]
  have hB3 : Below w.heap.size w w3 := by
    rw [← hw3]
    exact hb1.alloc hb1.size _
  clear hw3 hb1
  by_cases hz : matchErr n B v C = 0
  · rw [hz]
    obtain ⟨h1, ⟨v0, v1⟩, c0, c1⟩ := matchErr_zero hz
    obtain ⟨n0, n1, -⟩ := bitsErrR_zero h1
    have HZ := hide hz
    obtain ⟨v, rfl⟩ := Int.eq_ofNat_of_zero_le v0
    obtain ⟨C, rfl⟩ := Int.eq_ofNat_of_zero_le (show 0 ≤ C by omega)
    clear hz h1
    go_wp2_with fail
    refine (matched_any A n c v C B _ (HI.out.below hB3) (by omega) (by omega) (by omega) (by omega)).mono ?_
    rintro e w4 ⟨x, rfl, A4, c4, rfl, hc4, hI4, hb4⟩
    go_wp2_with fail
    go_ret2
    exact .inr ⟨HZ.out, _, rfl, A4, c4, rfl, hc4, hI4.weak hB3.size, hB3.trans (hb4.mono hB3.size)⟩
  · have HZ := hide hz
    have ht : (matchErr n B v C != 0) = true := by simpa using hz
    clear hz
    go_wp2_with fail
    go_ret2
    exact .inl ⟨HZ.out, rfl, hB3⟩
def GaveOrRow (err : Int) (n : Nat) (F : Nat → Int) (w : World) (e : Ending) (w' : World) : Prop :=
  (err ≠ 0 ∧ e = .returned (.tuple #[.slice none 0 0, .int .i64 err]) ∧ Below w.heap.size w w') ∨ (err = 0 ∧ ∃ v, e = .returned (.tuple #[v, .int .i64 0]) ∧ GaveRow w n F v w')
end Go.Proofs.Ytnglmfdcnoglhaa
/- Sent, Gathered and Recovered of the code where all is right. -/
namespace Go.Proofs.Ytnglmfdcnoglhaa
open Go.RowKit Go.Shelf
theorem bitsErrR_of {n : Nat} {F : Nat → Int} (h0 : 0 < n) (h1 : n ≤ 200) (hb : ∀ k, k < n → IsBit (F k)) : bitsErrR n F = 0 := by rw [← bitsErrC_eq]; exact bitsErr_ok' h0 h1 hb
/-- All that a block and its chain keep, in natural numbers. -/
structure SendOk (x y q k n m : Nat) (F B : Nat → Int) : Prop where
  ce : chainErrI x y q n F k = 0
  sum : m + x = n
  n9 : n ≤ 66
  k80 : k ≤ 80
  k1 : 1 ≤ k
  q6 : q ≤ 6
  m0 : 0 < m
  polar : PolarOk q n F
  bits : ∀ i, i < m → IsBit (B i)
theorem sendOk_of {d t p k : Int} {n m : Nat} {F B : Nat → Int} (h : codeRightB d t p n F k m B = true) : ∃ x y q j : Nat, d = x ∧ t = y ∧ p = q ∧ k = j ∧ SendOk x y q j n m F B := by
  obtain ⟨h1, h2, h3, h4, h5⟩ := codeRight_iff.1 h
  obtain ⟨x, y, q, j, ok⟩ := chainErr_zero h2
  obtain ⟨rfl, rfl, rfl, rfl, d0, d1, t1, -, hpol, q6, hless, k1, k4⟩ := ok
  obtain ⟨m0, m9, hb⟩ := bitsErrR_zero h4
  exact ⟨x, y, q, j, rfl, rfl, rfl, rfl, h2, by omega, h1, by omega, k1, q6, m0, hpol, hb⟩
theorem SendOk.len {x y q k n m : Nat} {F B : Nat → Int} (h : SendOk x y q k n m F B) : 1 ≤ 2 ^ q ∧ 2 ^ q ≤ 64 := ⟨Nat.two_pow_pos q, by have : 2 ^ q ≤ 2 ^ 6 := Nat.pow_le_pow_right (by decide) h.q6; omega⟩
/-- The word that is sent. -/
def codeF (x y q n m : Nat) (F B : Nat → Int) (j : Nat) : Int := wordF (2 ^ q) (fun i => posF F (catF m B (remB x y m B)) i n) j
theorem codeF_bit (x y q n m : Nat) (F B : Nat → Int) (j : Nat) : IsBit (codeF x y q n m F B j) := wordF_bit _ _ _
theorem sentF_code (x y q n m v j : Nat) (F B : Nat → Int) : sentF x y q n F m B v j = codeF x y q n m F B (placeN v (2 ^ q) j) := rfl
theorem Sent_ok (x y q k n m v : Nat) (A C : Option Addr) (c e : Nat) (F B : Nat → Int) (w : World) (ok : SendOk x y q k n m F B) (hv : v ≤ 3) (hI : IntsAt w 0 A n F) (hJ : IntsAt w 0 C m B) :
    Calls Try.prog 13 #[.agg #[.int .i64 (x : Int), .int .i64 (y : Int), .int .i64 (q : Int), .slice A n c, .int .i64 (k : Int)], .slice C m e, .int .i64 (v : Int)] w fun r w' => ∃ A' c', r = .returned (.tuple #[.slice A' k c', .int .i64 0]) ∧ IntsAt w' w.heap.size A' k (sentF x y q n F m B v) ∧ Below w.heap.size w w' := by
  have hs := ok.sum
  have h9 := ok.n9
  have hz : sentErrI x y q n F k m B v = 0 := by
    unfold sentErrI
    rw [ok.ce, bitsErrR_of ok.m0 (by omega) ok.bits, decide_eq_true (by omega), withinB_yes (by omega)]
    rfl
  refine (Sent_any x y q k v A C n c m e F B w (by omega) (by omega) (by omega) hI hJ).mono ?_
  rintro r w' (⟨h0, -⟩ | ⟨-, v', rfl, A', c', rfl, -, hI', hb⟩)
  · exact absurd hz h0
  · simp only [Int.toNat_natCast] at hI' ⊢
    exact ⟨A', c', rfl, hI', hb⟩
theorem Recovered_ok (x y q k n m : Nat) (A C : Option Addr) (c e : Nat) (F B S : Nat → Int) (w : World) (ok : SendOk x y q k n m F B) (he0 : 2 ^ q ≤ e) (he : e ≤ 9223372036854775807)
    (hS : ∀ j, j < 2 ^ q → Tells (S j) (codeF x y q n m F B j)) (hS9 : ∀ j, j < 2 ^ q → -1000000000 ≤ S j ∧ S j ≤ 1000000000) (hI : IntsAt w 0 A n F) (hJ : IntsAt w 0 C (2 ^ q) S) :
    Calls Try.prog 21 #[.agg #[.int .i64 (x : Int), .int .i64 (y : Int), .int .i64 (q : Int), .slice A n c, .int .i64 (k : Int)], .slice C (2 ^ q) e] w fun r w' => ∃ A' c', r = .returned (.tuple #[.slice A' m c', .int .i64 0]) ∧ m ≤ c' ∧ c' ≤ 9223372036854775807 ∧ IntsAt w' w.heap.size A' m B ∧ Below w.heap.size w w' := by
  have hl := ok.len
  have h9 := ok.n9
  obtain ⟨ce, rfl, -, -, -, q6, -, hp, hb⟩ := ok
  have hz : recErrI x y q (m + x) F k (2 ^ q) S = 0 := recErr_ok ce q6 hp hb hS hS9
  have hB := (rec_checked hp hb hS).2
  refine (Recovered_cap x y q k A C (m + x) c (2 ^ q) e F S w (by omega) (by omega) he0 he hI hJ).mono ?_
  rintro r w' (⟨h0, -⟩ | ⟨-, v', rfl, ⟨A1, c1, rfl, hc1⟩, A', c', e', hc', hI', hb⟩)
  · exact absurd hz h0
  · simp only [Int.toNat_natCast, Nat.add_sub_cancel] at e' hc' hI' ⊢
    injection e' with e1 e2 e3
    subst e1
    subst e3
    exact ⟨A1, c1, rfl, hc', hc1, hI'.congr hB, hb⟩
/-- What is gathered of soft bits with the signs of what was sent tells the word. -/
theorem link_tells {x y q k n m v N z : Nat} {F B Z : Nat → Int} (hN : N = 2 ^ q) (hk : N ≤ k) (hk9 : k ≤ 400) :
    (∀ i, i < k → -1000000 ≤ softF z Z (sentF x y q n F m B v) i ∧ softF z Z (sentF x y q n F m B v) i ≤ 1000000) ∧
    (∀ i, i < N → Tells (gatherF v N (softF z Z (sentF x y q n F m B v)) k i) (codeF x y q n m F B i)) ∧
    (∀ i, i < N → -1000000000 ≤ gatherF v N (softF z Z (sentF x y q n F m B v)) k i ∧ gatherF v N (softF z Z (sentF x y q n F m B v)) k i ≤ 1000000000) := by
  have hb : ∀ i, IsBit (sentF x y q n F m B v i) := fun i => by rw [sentF_code]; exact codeF_bit _ _ _ _ _ _ _ _
  have h1 : ∀ i, i < k → -1000000 ≤ softF z Z (sentF x y q n F m B v) i ∧ softF z Z (sentF x y q n F m B v) i ≤ 1000000 := fun i _ => by
    have := (softF_tells (m := z) (Z := Z) (hb i)).2
    omega
  refine ⟨h1, fun i hi => gather_tells hk (fun j _ => ?_) hi, fun i hi => ?_⟩
  · have h2 := (softF_tells (m := z) (Z := Z) (hb j)).1
    rw [sentF_code, ← hN] at h2
    exact h2
  · have h3 := gatherF_le (v := v) (n := N) h1 (Nat.le_refl k) i
    omega
end Go.Proofs.Ytnglmfdcnoglhaa
/- Several versions of one word, added up: what has been sent tells the word; mathematics for TopCodeRecovered and TopCodeNeverMixed. -/
namespace Go.Proofs.Ytnglmfdcnoglhaa
/-- Sums at N places, some of which are marked: those that are marked tell the word, the others are 0. -/
def Part (S W : Nat → Int) (mark : Nat → Bool) (N : Nat) : Prop := ∀ p, p < N → (S p = 0 ∧ mark p = false) ∨ (mark p = true ∧ Tells (S p) (W p))
/-- The places of a version of C soft bits. -/
def sentB (v N C p : Nat) : Bool := (List.range C).any fun k => placeN v N k == p
theorem sentB_iff {v N C p : Nat} : sentB v N C p = true ↔ ∃ k, k < C ∧ placeN v N k = p := by simp [sentB]
theorem Part.none {W : Nat → Int} {N : Nat} : Part (fun _ => 0) W (fun _ => false) N := fun _ _ => .inl ⟨rfl, rfl⟩
theorem Part.add {S W x : Nat → Int} {mark : Nat → Bool} {v N C : Nat} (h : Part S W mark N) (hx : ∀ k, k < C → Tells (x k) (W (placeN v N k))) : Part (fun p => S p + gatherF v N x C p) W (fun p => mark p || sentB v N C p) N := fun p hp => by
  show (S p + gatherF v N x C p = 0 ∧ (mark p || sentB v N C p) = false) ∨ _
  rcases gather_part hx C (Nat.le_refl C) p with ⟨g0, g1⟩ | ⟨g0, g1⟩
  · have hb : sentB v N C p = false := by
      rw [← Bool.not_eq_true, sentB_iff]
      rintro ⟨k, hk, e⟩
      exact g1 k hk e
    rcases h p hp with ⟨a, b⟩ | ⟨a, b⟩
    · exact .inl ⟨by rw [g0, a]; rfl, by rw [hb, b]; rfl⟩
    · exact .inr ⟨by show (mark p || sentB v N C p) = true; rw [a]; rfl, by show Tells (S p + gatherF v N x C p) (W p); rw [g0, Int.add_zero]; exact b⟩
  · have hb : sentB v N C p = true := sentB_iff.2 g0
    right
    refine ⟨by show (mark p || sentB v N C p) = true; rw [hb, Bool.or_true], ?_⟩
    rcases h p hp with ⟨h0, -⟩ | ⟨-, h1⟩
    · show Tells (S p + gatherF v N x C p) (W p)
      rw [h0, Int.zero_add]; exact g1
    · show Tells (S p + gatherF v N x C p) (W p)
      unfold Tells at *
      omega
/-- What was sent, marked one place after the other. -/
def markF (v N : Nat) (mark : Nat → Bool) : Nat → Nat → Bool
  | 0, p => mark p
  | k + 1, p => if p = placeN v N k then true else markF v N mark k p
theorem markF_eq {v N : Nat} {mark : Nat → Bool} (p : Nat) : ∀ C, markF v N mark C p = (mark p || sentB v N C p)
  | 0 => by unfold markF sentB; simp
  | C + 1 => by
    unfold markF
    have ih := markF_eq (v := v) (N := N) (mark := mark) p C
    have e : sentB v N (C + 1) p = (sentB v N C p || (placeN v N C == p)) := by unfold sentB; rw [List.range_succ, List.any_append]; simp
    rw [e]
    by_cases h : p = placeN v N C
    · rw [if_pos h, show (placeN v N C == p) = true from by simpa using h.symm, Bool.or_true, Bool.or_true]
    · rw [if_neg h, ih, show (placeN v N C == p) = false from by simpa using fun x => h x.symm, Bool.or_false]
/-- A version with at least a quarter of the places, rounded up: all four of them send each place. -/
theorem four_all {N C p : Nat} (hp : p < N) (hC : N ≤ 4 * C) : ∃ v, v < 4 ∧ sentB v N C p = true := by
  have key : ∀ v, v < 4 → v * N / 4 ≤ p → p < v * N / 4 + C → ∃ v, v < 4 ∧ sentB v N C p = true := fun v hv h1 h2 => by
    refine ⟨v, hv, sentB_iff.2 ⟨p - v * N / 4, by omega, ?_⟩⟩
    unfold placeN
    rw [show v * N / 4 + (p - v * N / 4) = p by omega, Nat.mod_eq_of_lt hp]
  by_cases h3 : 3 * N / 4 ≤ p
  · exact key 3 (by omega) h3 (by omega)
  · by_cases h2 : 2 * N / 4 ≤ p
    · exact key 2 (by omega) h2 (by omega)
    · by_cases h1 : 1 * N / 4 ≤ p
      · exact key 1 (by omega) h1 (by omega)
      · exact key 0 (by omega) (by omega) (by omega)
end Go.Proofs.Ytnglmfdcnoglhaa
