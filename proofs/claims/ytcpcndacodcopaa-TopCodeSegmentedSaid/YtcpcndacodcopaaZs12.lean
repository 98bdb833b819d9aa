/- Lemmas: Mm, Na, Nd, Jf. -/
import Derived.Test.YtcpcndacodcopaaZs06
import Derived.Test.YtcpcndacodcopaaZs07
import Derived.Test.YtcpcndacodcopaaZs08
import Derived.Test.YtcpcndacodcopaaZs09
import Derived.Test.YtcpcndacodcopaaZs10
import Derived.Test.YtcpcndacodcopaaZs11
set_option linter.unusedVariables false
set_option linter.unusedSimpArgs false
/- Joined and Segments of the code where the rule, the length or the bits are wrong; mathematics of segments (what is cut is joined again); both, any input. -/
namespace Go.Proofs.Ytcpcndacodcopaa
theorem firstBad_none {g : Nat → Int} : ∀ {n : Nat}, (∀ k, k < n → g k = 0) → firstBad g n = 0
  | 0, _ => rfl
  | n + 1, h => by
    unfold firstBad
    rw [if_pos (firstBad_none fun k hk => h k (by omega))]
    exact h n (by omega)
theorem segF_at {x y a f i k : Nat} {B : Nat → Int} (hk : k < a) : segF x y a f B i k = fillF f B (i * a + k) := if_pos hk
theorem segF_check {x y a f i k : Nat} {B : Nat → Int} : segF x y a f B i (a + k) = remB x y a (fun k => fillF f B (i * a + k)) k := by
  unfold segF catF
  rw [if_neg (by omega), Nat.add_sub_cancel_left]
theorem allF_seg {x y a f : Nat} {B : Nat → Int} (ha : 0 < a) (j : Nat) : allF a (segF x y a f B) j = fillF f B j := by
  unfold allF
  rw [segF_at (Nat.mod_lt _ ha), Nat.mul_comm, Nat.div_add_mod]
theorem segErr_seg {x y a f s i : Nat} {B : Nat → Int} (hb : ∀ k, k < s → IsBit (fillF f B k)) (hi : (i + 1) * a ≤ s) : segErrI x y a (a + x) (segF x y a f B i) = 0 := by
  rw [Nat.add_mul, Nat.one_mul] at hi
  unfold segErrI
  have h1 : bitsB (a + x) (segF x y a f B i) = true := bitsB_iff.2 fun k hk => by
    rcases Nat.lt_or_ge k a with h | h
    · rw [segF_at h]; exact hb _ (by omega)
    · obtain ⟨j, rfl⟩ := Nat.exists_eq_add_of_le h
      rw [segF_check]; exact remB_bit _ _ _ _ _
  have h2 : rightB x y (a + x) (segF x y a f B i) = true := by
    unfold rightB
    rw [Nat.add_sub_cancel]
    refine intsB_iff.2 ⟨rfl, fun j _ => ?_⟩
    rw [segF_check]
    unfold remB
    rw [remF_congr fun k hk => segF_at hk]
  rw [if_pos rfl, if_pos h1, if_pos h2]
theorem join_back {x y m n : Nat} {B : Nat → Int} (hx : x < m) (hm : m ≤ 100) (n0 : 0 < n) (n9 : n ≤ 200) (hb : ∀ k, k < n → IsBit (B k)) :
    joinErrI x y m n (cntN x m n) (fun _ => aheadN x m n + x) (segF x y (aheadN x m n) (cntN x m n * aheadN x m n - n) B) = 0 ∧
    joinNum x y m n (cntN x m n) (fun _ => aheadN x m n + x) (segF x y (aheadN x m n) (cntN x m n * aheadN x m n - n) B) = 0 ∧
    ∀ k, joinF x m n (segF x y (aheadN x m n) (cntN x m n * aheadN x m n - n) B) k = B k := by
  obtain ⟨c1, c2, c3, c4, c5, c6⟩ := cut_facts hx hm n0 n9
  have hz : firstBad (fun i => segErrI x y (aheadN x m n) (aheadN x m n + x) (segF x y (aheadN x m n) (cntN x m n * aheadN x m n - n) B i)) (cntN x m n) = 0 :=
    firstBad_none fun i hi => segErr_seg (s := cntN x m n * aheadN x m n) (fun k hk => fillF_bit hb k (by omega)) (Nat.mul_le_mul_right _ hi)
  have hh : hasB (cntN x m n * aheadN x m n - n) (allF (aheadN x m n) (segF x y (aheadN x m n) (cntN x m n * aheadN x m n - n) B)) 1 = false := by
    rw [← Bool.not_eq_true, hasB_iff]
    rintro ⟨j, hj, e⟩
    rw [allF_seg c3] at e
    unfold fillF catF at e
    rw [if_pos hj] at e
    exact absurd e (show ¬((0 : Int) = 1) by decide)
  refine ⟨?_, ?_, fun k => ?_⟩
  · rw [joinErr_def, if_pos rfl, if_pos hz, if_neg (by rw [hh]; decide)]
  · rw [joinNum_def, if_pos rfl, if_pos hz]
  · rw [joinF_def]
    show allF _ _ _ = _
    rw [allF_seg c3]
    unfold fillF catF
    rw [if_neg (by omega), Nat.add_sub_cancel_left]
open Go.RowKit Go.Shelf
set_option maxHeartbeats 2000000 in
set_option maxRecDepth 100000 in
theorem Joined_bad (d t M len : Int) (v : Value) (w : World) (hbad : firstE [ruleErrI d t M, unI (withinB len 1 200) 2] ≠ 0) :
    Calls Try.prog 22 #[.agg #[.int .i64 d, .int .i64 t, .int .i64 M], v, .int .i64 len] w fun e w' => e = .returned (.tuple #[.slice none 0 0, .int .i64 0, .int .i64 (firstE [ruleErrI d t M, unI (withinB len 1 200) 2])]) ∧ Below w.heap.size w w' := by
  have HRE := hide (fun W => ruleError_any d t M W)
  have HFE := hide (fun W t' => firstError_laid [ruleErrI d t M, unI (withinB len 1 200) 2] 2 t' W rfl (by decide))
  generalize firstE [ruleErrI d t M, unI (withinB len 1 200) 2] = E at *
  generalize ruleErrI d t M = R at *
  have t4 : (E != 0) = true := by simpa using hbad
  go_enter Try.func22, Try.ntmps22
  go_wp2_with fail
  refine (HRE.out _).mono ?_
  rintro e w1 ⟨rfl, hb1⟩
  go_wp2_with fail
  refine (lengthError_any _ _).mono ?_
  rintro e w2 ⟨rfl, rfl⟩
  generalize unI (withinB len 1 200) 2 = U at *
  go_wp2_with fail
  refine (HFE.out _ _).mono ?_
  rintro e w3 ⟨rfl, hw3⟩
  have hB3 : Below w.heap.size w w3 := by
    rw [← hw3]
    have h1 := below_of_alloc hb1
    exact h1.alloc h1.size _
  clear hw3 hb1
  go_wp2_with fail
  go_ret3
  exact ⟨rfl, hB3⟩
set_option maxHeartbeats 2000000 in
set_option maxRecDepth 100000 in
theorem Segments_bad (d t M : Int) (A : Option Addr) (n c : Nat) (B : Nat → Int) (w : World) (hn : n ≤ 100000) (hI : IntsAt w 0 A n B) (hbad : firstE [ruleErrI d t M, firstE [firstE [unI (decide (0 < n)) 10, unI (decide (n ≤ 200)) 8], unI (bitsB n B) 15]] ≠ 0) :
    Calls Try.prog 11 #[.agg #[.int .i64 d, .int .i64 t, .int .i64 M], .slice A n c] w fun e w' => e = .returned (.tuple #[.slice none 0 0, .int .i64 (firstE [ruleErrI d t M, firstE [firstE [unI (decide (0 < n)) 10, unI (decide (n ≤ 200)) 8], unI (bitsB n B) 15]])]) ∧ Below w.heap.size w w' := by
  have HI := hide hI
  have HRE := hide (fun W => ruleError_any d t M W)
  have HBE := hide (fun W (hb : Below w.heap.size w W) => bitsError_any A n c B W hn (hI.below hb))
  clear hI
  generalize firstE [firstE [unI (decide (0 < n)) 10, unI (decide (n ≤ 200)) 8], unI (bitsB n B) 15] = U at *
  have HFE := hide (fun W t' => firstError_laid [ruleErrI d t M, U] 2 t' W rfl (by decide))
  generalize firstE [ruleErrI d t M, U] = E at *
  generalize ruleErrI d t M = R at *
  have t4 : (E != 0) = true := by simpa using hbad
  go_enter Try.func11, Try.ntmps11
  go_wp2_with fail
  refine (HRE.out _).mono ?_
  rintro e w1 ⟨rfl, hb1⟩
  have hB1 := below_of_alloc hb1
  go_wp2_with fail
  refine (HBE.out _ hB1).mono ?_
  rintro e w2 ⟨rfl, hb2⟩
  have hB2 := hB1.trans (hb2.mono hB1.size)
  go_wp2_with fail
  refine (HFE.out _ _).mono ?_
  rintro e w3 ⟨rfl, hw3⟩
  have hB3 : Below w.heap.size w w3 := by
    rw [← hw3]
    exact hB2.alloc hB2.size _
  clear hw3 hb1 hb2
  go_wp2_with fail
  go_ret2
  exact ⟨rfl, hB3⟩
/-- The error ahead of joining: the rule's, then the length's. -/
def preErrI (d t M len : Int) : Int := firstE [ruleErrI d t M, unI (withinB len 1 200) 2]
def jErrI (d t M len : Int) (n : Nat) (L : Nat → Nat) (F : Nat → Nat → Int) : Int := if preErrI d t M len = 0 then joinErrI d.toNat t.toNat M.toNat len.toNat n L F else preErrI d t M len
def jNumI (d t M len : Int) (n : Nat) (L : Nat → Nat) (F : Nat → Nat → Int) : Nat := if preErrI d t M len = 0 then joinNum d.toNat t.toNat M.toNat len.toNat n L F else 0
def jF (d M len : Int) (F : Nat → Nat → Int) : Nat → Int := joinF d.toNat M.toNat len.toNat F
theorem preErr_zero {d t M len : Int} (h : preErrI d t M len = 0) : ruleErrI d t M = 0 ∧ ∃ l : Nat, len = l ∧ 0 < l ∧ l ≤ 200 := by
  obtain ⟨h1, h⟩ := firstE_zero_cons h
  obtain ⟨h2, -⟩ := firstE_zero_cons h
  have h2 := withinB_of (unI_zero (by decide) h2)
  obtain ⟨l, rfl⟩ := Int.eq_ofNat_of_zero_le (show 0 ≤ len by omega)
  exact ⟨h1, l, rfl, by omega, by omega⟩
theorem Joined_any (d t M len : Int) (n c : Nat) (A : Option Addr) (L : Nat → Nat) (F : Nat → Nat → Int) (w : World) (hn : n ≤ 1000) (hL : ∀ i, i < n → L i ≤ 100000) (hI : ListsAt w 0 A n L F) :
    Calls Try.prog 22 #[.agg #[.int .i64 d, .int .i64 t, .int .i64 M], .slice A n c, .int .i64 len] w (GaveJoin (jErrI d t M len n L F) (jNumI d t M len n L F) len.toNat (jF d M len F) w) := by
  unfold jErrI jNumI jF
  by_cases h : preErrI d t M len = 0
  · rw [if_pos h, if_pos h]
    obtain ⟨hr, l, rfl, l0, l9⟩ := preErr_zero h
    obtain ⟨x, y, m, ho⟩ := ruleErr_zero hr
    obtain ⟨rfl, rfl, rfl, d0, d1, t1, m0, m9⟩ := ho
    simp only [Int.toNat_natCast]
    exact Joined_ok x y m l n c A L F w hr d0 d1 t1 m0 m9 l0 l9 hn hL hI
  · rw [if_neg h, if_neg h]
    refine (Joined_bad d t M len _ w h).mono ?_
    rintro e w' ⟨rfl, hb⟩
    exact ⟨⟨_, rfl, .inl ⟨h, rfl⟩⟩, hb⟩
/-- The error ahead of cutting: the rule's, then that of the bits. -/
def segPreI (d t M : Int) (n : Nat) (B : Nat → Int) : Int := firstE [ruleErrI d t M, firstE [firstE [unI (decide (0 < n)) 10, unI (decide (n ≤ 200)) 8], unI (bitsB n B) 15]]
def GaveSegs (d t M : Int) (n : Nat) (B : Nat → Int) (w : World) (e : Ending) (w' : World) : Prop :=
  (∃ v, e = .returned (.tuple #[v, .int .i64 (segPreI d t M n B)]) ∧ ((segPreI d t M n B ≠ 0 ∧ v = .slice none 0 0) ∨ (segPreI d t M n B = 0 ∧ OwnLists w' w.heap.size v (cntN d.toNat M.toNat n) (fun _ => aheadN d.toNat M.toNat n + d.toNat) (segF d.toNat t.toNat (aheadN d.toNat M.toNat n) (cntN d.toNat M.toNat n * aheadN d.toNat M.toNat n - n) B)))) ∧ Below w.heap.size w w'
theorem segPre_zero {d t M : Int} {n : Nat} {B : Nat → Int} (h : segPreI d t M n B = 0) : ruleErrI d t M = 0 ∧ 0 < n ∧ n ≤ 200 ∧ ∀ k, k < n → IsBit (B k) := by
  obtain ⟨h1, h⟩ := firstE_zero_cons h
  obtain ⟨h2, -⟩ := firstE_zero_cons h
  obtain ⟨h3, h4⟩ := firstE_zero_cons h2
  obtain ⟨h4, -⟩ := firstE_zero_cons h4
  obtain ⟨h5, h6⟩ := firstE_zero_cons h3
  obtain ⟨h6, -⟩ := firstE_zero_cons h6
  exact ⟨h1, of_decide_eq_true (unI_zero (by decide) h5), of_decide_eq_true (unI_zero (by decide) h6), bitsB_iff.1 (unI_zero (by decide) h4)⟩
theorem Segments_any (d t M : Int) (A : Option Addr) (n c : Nat) (B : Nat → Int) (w : World) (hn : n ≤ 100000) (hI : IntsAt w 0 A n B) :
    Calls Try.prog 11 #[.agg #[.int .i64 d, .int .i64 t, .int .i64 M], .slice A n c] w (GaveSegs d t M n B w) := by
  by_cases h : segPreI d t M n B = 0
  · obtain ⟨hr, n0, n9, hb⟩ := segPre_zero h
    obtain ⟨x, y, m, ho⟩ := ruleErr_zero hr
    obtain ⟨rfl, rfl, rfl, d0, d1, t1, m0, m9⟩ := ho
    refine (Segments_ok x y m n c A B w hr d0 d1 t1 m0 m9 n0 n9 hI hb).mono ?_
    rintro e w' ⟨v, rfl, hown, hB⟩
    refine ⟨⟨v, by rw [h], .inr ⟨h, ?_⟩⟩, hB⟩
    simp only [Int.toNat_natCast]
    exact hown
  · refine (Segments_bad d t M A n c B w hn hI h).mono ?_
    rintro e w' ⟨rfl, hb⟩
    exact ⟨⟨_, rfl, .inl ⟨h, rfl⟩⟩, hb⟩
/-- What is cut is joined again: no error, the number 0, the same bits. -/
theorem cut_joined {d t M : Int} {n : Nat} {B : Nat → Int} (h : segPreI d t M n B = 0) :
    jErrI d t M n (cntN d.toNat M.toNat n) (fun _ => aheadN d.toNat M.toNat n + d.toNat) (segF d.toNat t.toNat (aheadN d.toNat M.toNat n) (cntN d.toNat M.toNat n * aheadN d.toNat M.toNat n - n) B) = 0 ∧
    jNumI d t M n (cntN d.toNat M.toNat n) (fun _ => aheadN d.toNat M.toNat n + d.toNat) (segF d.toNat t.toNat (aheadN d.toNat M.toNat n) (cntN d.toNat M.toNat n * aheadN d.toNat M.toNat n - n) B) = 0 ∧
    ∀ k, jF d M n (segF d.toNat t.toNat (aheadN d.toNat M.toNat n) (cntN d.toNat M.toNat n * aheadN d.toNat M.toNat n - n) B) k = B k := by
  obtain ⟨hr, n0, n9, hb⟩ := segPre_zero h
  have hp : preErrI d t M n = 0 := by
    unfold preErrI
    rw [hr, withinB_yes (by omega)]
    rfl
  obtain ⟨x, y, m, ho⟩ := ruleErr_zero hr
  obtain ⟨rfl, rfl, rfl, d0, d1, t1, m0, m9⟩ := ho
  unfold jErrI jNumI jF
  rw [if_pos hp, if_pos hp]
  simp only [Int.toNat_natCast]
  exact join_back m0 m9 n0 n9 hb
/-- The segments of a block give it back. -/
theorem Joined_back (d t M : Int) (n c : Nat) (A : Option Addr) (B : Nat → Int) (w : World) (h : segPreI d t M n B = 0)
    (hI : ListsAt w 0 A (cntN d.toNat M.toNat n) (fun _ => aheadN d.toNat M.toNat n + d.toNat) (segF d.toNat t.toNat (aheadN d.toNat M.toNat n) (cntN d.toNat M.toNat n * aheadN d.toNat M.toNat n - n) B)) :
    Calls Try.prog 22 #[.agg #[.int .i64 d, .int .i64 t, .int .i64 M], .slice A (cntN d.toNat M.toNat n) c, .int .i64 (n : Int)] w fun r w' => ∃ AZ cZ, r = .returned (.tuple #[.slice AZ n cZ, .int .i64 0, .int .i64 0]) ∧ IntsAt w' 0 AZ n B ∧ Below w.heap.size w w' := by
  obtain ⟨e1, e2, e3⟩ := cut_joined h
  obtain ⟨hr, n0, n9, hb⟩ := segPre_zero h
  obtain ⟨x, y, m, ho⟩ := ruleErr_zero hr
  obtain ⟨rfl, rfl, rfl, d0, d1, t1, m0, m9⟩ := ho
  simp only [Int.toNat_natCast] at hI e1 e2 e3 ⊢
  obtain ⟨c1, c2, c3, c4, -, -⟩ := cut_facts m0 m9 n0 n9
  refine (Joined_any x y m n (cntN x m n) c A _ _ w (by omega) (fun i _ => by show aheadN x m n + x ≤ 100000; omega) hI).mono ?_
  rw [e1, e2]
  rintro r w' ⟨⟨v, rfl, hv⟩, hB⟩
  rcases hv with ⟨h0, -⟩ | ⟨-, AZ, cZ, rfl, hIZ⟩
  · exact absurd rfl h0
  · exact ⟨AZ, cZ, rfl, fun k hk => by rw [← e3 k]; exact hIZ k hk, hB⟩
end Go.Proofs.Ytcpcndacodcopaa
/- Soft bits with the signs of what was sent are gathered, decoded and checked; a segment with one bit changed is refused: mathematics. -/
namespace Go.Proofs.Ytcpcndacodcopaa
/-- Soft bits of sizes Z (m of them, in turn), with the signs of bits. -/
def softF (m : Nat) (Z B : Nat → Int) (j : Nat) : Int := (1 - 2 * (B j % 2)) * (1 + (if m = 0 then 0 else Z (j % m) % 1000))
theorem softF_tells {m : Nat} {Z B : Nat → Int} {j : Nat} (h : IsBit (B j)) : Tells (softF m Z B j) (B j) ∧ -1000 ≤ softF m Z B j ∧ softF m Z B j ≤ 1000 := by
  have hz : 0 ≤ (if m = 0 then 0 else Z (j % m) % 1000) ∧ (if m = 0 then 0 else Z (j % m) % 1000) ≤ 999 := by split <;> omega
  unfold softF
  generalize (if m = 0 then 0 else Z (j % m) % 1000) = z at *
  unfold Tells
  rcases h with h | h
  · rw [h, show (1 - 2 * ((0 : Int) % 2)) = 1 by decide, Int.one_mul]
    omega
  · rw [h, show (1 - 2 * ((1 : Int) % 2)) = -1 by decide, Int.neg_one_mul]
    omega
theorem gather_part {v n C : Nat} {S W : Nat → Int} (h : ∀ k, k < C → Tells (S k) (W (placeN v n k))) : ∀ k, k ≤ C → ∀ p, (gatherF v n S k p = 0 ∧ ∀ j, j < k → placeN v n j ≠ p) ∨ ((∃ j, j < k ∧ placeN v n j = p) ∧ Tells (gatherF v n S k p) (W p))
  | 0, _, p => .inl ⟨rfl, fun j hj => absurd hj (Nat.not_lt_zero j)⟩
  | k + 1, hk, p => by
    have ih := gather_part h k (by omega) p
    unfold gatherF
    by_cases e : p = placeN v n k
    · rw [if_pos e]
      have hs := h k (by omega)
      rw [← e] at hs
      refine .inr ⟨⟨k, by omega, e.symm⟩, ?_⟩
      rcases ih with ⟨h0, -⟩ | ⟨-, h0⟩
      · rw [h0, Int.zero_add]; exact hs
      · unfold Tells at *; omega
    · rw [if_neg e]
      rcases ih with ⟨h0, h1⟩ | ⟨⟨j, hj, hj2⟩, h0⟩
      · refine .inl ⟨h0, fun j hj => ?_⟩
        by_cases e2 : j = k
        · subst e2; exact fun h => e h.symm
        · exact h1 j (by omega)
      · exact .inr ⟨⟨j, by omega, hj2⟩, h0⟩
theorem place_onto {v n p : Nat} (hp : p < n) : ∃ j, j < n ∧ placeN v n j = p := by
  unfold placeN
  generalize v * n / 4 = a
  have hd := Nat.div_add_mod a n
  have hr := Nat.mod_lt a (show 0 < n by omega)
  obtain ⟨q, hq⟩ : ∃ q, q = n * (a / n) := ⟨_, rfl⟩
  rw [← hq] at hd
  by_cases h : a % n ≤ p
  · refine ⟨p - a % n, by omega, ?_⟩
    rw [show a + (p - a % n) = p + n * (a / n) by rw [← hq]; omega, Nat.add_mul_mod_self_left, Nat.mod_eq_of_lt hp]
  · refine ⟨p + n - a % n, by omega, ?_⟩
    rw [show a + (p + n - a % n) = p + n * (a / n + 1) by rw [Nat.mul_add, ← hq]; omega, Nat.add_mul_mod_self_left, Nat.mod_eq_of_lt hp]
theorem gather_tells {v n C : Nat} {S W : Nat → Int} (hC : n ≤ C) (h : ∀ k, k < C → Tells (S k) (W (placeN v n k))) {p : Nat} (hp : p < n) : Tells (gatherF v n S C p) (W p) := by
  rcases gather_part h C (Nat.le_refl _) p with ⟨-, h1⟩ | ⟨-, h1⟩
  · obtain ⟨j, hj, e⟩ := place_onto (v := v) hp
    exact absurd e (h1 j (by omega))
  · exact h1
theorem rec_right {q n : Nat} {F U S : Nat → Int} (hp : PolarOk q n F) (hU : ∀ k, k < n → IsBit (U k)) (hS : ∀ j, j < 2 ^ q → Tells (S j) (wordF (2 ^ q) (fun x => posF F U x n) j)) : ∀ k, k < n → recF q n F S k = U k := by
  intro k hk
  unfold recF
  have hr := hp.range k hk
  have e : (2 : Int) ^ q = ((2 ^ q : Nat) : Int) := by simp
  rw [e] at hr
  rw [cancel_right q (fun x => isPos F x n) (fun x => posF F U x n) S (fun j _ => posF_bit hU j) (fun j _ h => posF_none h) hS _ (by omega)]
  exact posF_at hp hk
theorem rec_checked {x y q m : Nat} {F B S : Nat → Int} (hp : PolarOk q (m + x) F) (hB : ∀ k, k < m → IsBit (B k)) (hS : ∀ j, j < 2 ^ q → Tells (S j) (wordF (2 ^ q) (fun i => posF F (catF m B (remB x y m B)) i (m + x)) j)) : recRight x y q (m + x) F S = true ∧ ∀ k, k < m → recF q (m + x) F S k = B k := by
  have hU := catF_bits (m := x) hB (remB_bit x y m B)
  have hr := rec_right hp hU hS
  have h1 : ∀ k, k < m → recF q (m + x) F S k = B k := fun k hk => by
    rw [hr k (by omega)]; unfold catF; rw [if_pos hk]
  refine ⟨?_, h1⟩
  unfold recRight
  rw [Nat.add_sub_cancel]
  refine intsB_iff.2 ⟨rfl, fun j hj => ?_⟩
  rw [hr (m + j) (by omega)]
  unfold catF
  rw [if_neg (by omega), Nat.add_sub_cancel_left]
  unfold remB
  rw [remF_congr h1]
theorem sizedErr_ok {n cnt : Nat} {F : Nat → Int} {m : Int} (h0 : 0 < n) (h1 : n ≤ cnt) (h : ∀ j, j < n → -m ≤ F j ∧ F j ≤ m) : sizedErrI n cnt F m = 0 := by
  unfold sizedErrI
  rw [if_neg (by omega), if_neg (by omega), if_pos (sizedB_iff.2 h)]
theorem recErr_ok {x y q m : Nat} {k : Int} {F B S : Nat → Int} (hc : chainErrI x y q (m + x) F k = 0) (q6 : q ≤ 6) (hp : PolarOk q (m + x) F) (hB : ∀ k, k < m → IsBit (B k)) (hS : ∀ j, j < 2 ^ q → Tells (S j) (wordF (2 ^ q) (fun i => posF F (catF m B (remB x y m B)) i (m + x)) j))
    (hS9 : ∀ j, j < 2 ^ q → -1000000000 ≤ S j ∧ S j ≤ 1000000000) : recErrI x y q (m + x) F k (2 ^ q) S = 0 := by
  have h1 : sizedErrI (2 ^ q) 200 S 1000000000 = 0 := sizedErr_ok (Nat.two_pow_pos q) (by have : 2 ^ q ≤ 2 ^ 6 := Nat.pow_le_pow_right (by decide) q6; omega) hS9
  have h2 : recPre x y q (m + x) F k (2 ^ q) S = 0 := by
    unfold recPre
    rw [hc, h1]
    rfl
  unfold recErrI
  rw [if_pos h2]
  simp only [Int.toNat_natCast]
  rw [if_pos trivial, if_pos (rec_checked hp hB hS).1]
/-- One bit of a right segment changed: it is refused. -/
theorem segErr_turned {x y a pl : Nat} {F : Nat → Int} (h0 : 1 ≤ x) (ht : y < 2 ^ x) (todd : y % 2 = 1) (hpl : pl < a + x) (h : segErrI x y a (a + x) F = 0) : segErrI x y a (a + x) (setF F pl (1 - F pl)) = 21 := by
  unfold segErrI at h ⊢
  rw [if_pos rfl] at h ⊢
  by_cases hb : bitsB (a + x) F = true
  · rw [if_pos hb] at h
    have hbit := bitsB_iff.1 hb
    by_cases hr : rightB x y (a + x) F = true
    · have hg : ∀ k, k < a + x → IsBit (setF F pl (1 - F pl) k) := fun k hk => by
        unfold setF
        split
        · rcases hbit pl hpl with h | h <;> rw [h]
          · right; rfl
          · left; rfl
        · exact hbit k hk
      rw [if_pos (bitsB_iff.2 hg), if_neg]
      intro hr2
      unfold rightB at hr hr2
      rw [Nat.add_sub_cancel] at hr hr2
      have hr := (intsB_iff.1 hr).2
      have hr2 := (intsB_iff.1 hr2).2
      -- the same on all places
      let F0 : Nat → Int := fun k => if k < a + x then F k else 0
      let G0 : Nat → Int := fun k => if k < a + x then setF F pl (1 - F pl) k else 0
      have f0 : ∀ k, k < a + x → F0 k = F k := fun k hk => if_pos hk
      have g0 : ∀ k, k < a + x → G0 k = setF F pl (1 - F pl) k := fun k hk => if_pos hk
      have hF0 : ∀ k, IsBit (F0 k) := fun k => by
        by_cases hk : k < a + x
        · rw [f0 k hk]; exact hbit k hk
        · show IsBit (if k < a + x then F k else 0)
          rw [if_neg hk]; exact .inl rfl
      have hG0 : ∀ k, IsBit (G0 k) := fun k => by
        by_cases hk : k < a + x
        · rw [g0 k hk]; exact hg k hk
        · show IsBit (if k < a + x then setF F pl (1 - F pl) k else 0)
          rw [if_neg hk]; exact .inl rfl
      have hsame : ∀ k, k ≠ pl → F0 k = G0 k := fun k hk => by
        show (if k < a + x then F k else 0) = (if k < a + x then setF F pl (1 - F pl) k else 0)
        unfold setF
        rw [if_neg hk]
      refine burst_caught (F := F0) (G := G0) (n := a) (a := min pl a) h0 ht todd hF0 hG0 (by omega) (fun k hk => hsame k (by omega)) (fun k hk hk2 => hsame k (by omega)) ⟨pl, by omega, by omega, ?_⟩ (fun j hj => ?_) (fun j hj => ?_)
      · rw [f0 pl hpl, g0 pl hpl]
        unfold setF
        rw [if_pos rfl]
        omega
      · rw [f0 (a + j) (by omega), ← hr j hj]
        unfold remB
        rw [remF_congr fun k hk => f0 k (by omega)]
      · rw [g0 (a + j) (by omega), ← hr2 j hj]
        unfold remB
        rw [remF_congr fun k hk => g0 k (by omega)]
    · rw [if_neg hr] at h; exact absurd h (by decide)
  · rw [if_neg hb] at h; exact absurd h (by decide)
/-- Lists with one number of one of them changed. -/
def turnF (G : Nat → Nat → Int) (at_ pl : Nat) (v : Int) (i : Nat) : Nat → Int := if i = at_ then setF (G at_) pl v else G i
theorem join_turned {x y m n at_ pl : Nat} {G : Nat → Nat → Int} (h0 : 1 ≤ x) (ht : y < 2 ^ x) (todd : y % 2 = 1)
    (hat : at_ < cntN x m n) (hpl : pl < aheadN x m n + x) (hG : ∀ i, i < cntN x m n → segErrI x y (aheadN x m n) (aheadN x m n + x) (G i) = 0) :
    joinErrI x y m n (cntN x m n) (fun _ => aheadN x m n + x) (turnF G at_ pl (1 - G at_ pl)) = 21 ∧ joinNum x y m n (cntN x m n) (fun _ => aheadN x m n + x) (turnF G at_ pl (1 - G at_ pl)) = at_ := by
  have hz : firstBad (fun i => segErrI x y (aheadN x m n) (aheadN x m n + x) (turnF G at_ pl (1 - G at_ pl) i)) at_ = 0 := firstBad_none fun k hk => by
    show segErrI _ _ _ _ (if k = at_ then _ else _) = 0
    rw [if_neg (by omega)]
    exact hG k (by omega)
  have hk : segErrI x y (aheadN x m n) (aheadN x m n + x) (turnF G at_ pl (1 - G at_ pl) at_) = 21 := by
    show segErrI _ _ _ _ (if at_ = at_ then _ else _) = 21
    rw [if_pos rfl]
    exact segErr_turned h0 ht todd hpl (hG at_ hat)
  have hne : (fun i => segErrI x y (aheadN x m n) (aheadN x m n + x) (turnF G at_ pl (1 - G at_ pl) i)) at_ ≠ 0 := by
    show segErrI _ _ _ _ _ ≠ 0
    rw [hk]; decide
  have e1 := firstBad_at hz hne _ hat
  have e2 := firstIdx_at hz hne _ hat
  have e3 : firstBad (fun i => segErrI x y (aheadN x m n) (aheadN x m n + x) (turnF G at_ pl (1 - G at_ pl) i)) (cntN x m n) = 21 := e1.trans hk
  refine ⟨?_, ?_⟩
  · rw [joinErr_def, if_pos rfl, if_neg (by rw [e3]; decide), e3]
  · rw [joinNum_def, if_pos rfl, if_neg (by rw [e3]; decide), e2]
end Go.Proofs.Ytcpcndacodcopaa
/- codeSoft: soft bits with the signs of bits, and sizes in turn. -/
namespace Go.Proofs.Ytcpcndacodcopaa
open Go.RowKit Go.Shelf
theorem softF_parts {m : Nat} {Z B : Nat → Int} {j : Nat} {z b : Int} (hz : (if m = 0 then 0 else Z (j % m) % 1000) = z) (hb : B j % 2 = b) : softF m Z B j = (1 - 2 * b) * (1 + z) := by unfold softF; rw [hz, hb]
set_option maxHeartbeats 2000000 in
theorem codeSoft_any (A C : Option Addr) (n c m d : Nat) (B Z : Nat → Int) (w : World) (hn : n ≤ 1000) (hm : m ≤ 9223372036854775807) (hI : IntsAt w 0 A n B) (hJ : IntsAt w 0 C m Z) :
    Calls Try.prog 18 #[.slice A n c, .slice C m d] w fun e w' => ∃ v, e = .returned v ∧ OwnInts w' w.heap.size v n (softF m Z B) ∧ Below w.heap.size w w' := by
  have HI := hide hI
  have HJ := hide hJ
  clear hI hJ
  go_enter Try.func18, Try.ntmps18
  go_wp2_with fail
  go_loopw [5, 6, 7] (fun x i _ wr => ∃ j : Nat, j ≤ n ∧ i = .int .i64 j ∧ OwnInts wr w.heap.size x j (softF m Z B) ∧ Below w.heap.size w wr) (fun _ i _ _ => n - (intOf i).toNat)
  case atStart => exact ⟨0, Nat.zero_le _, rfl, OwnInts.nil_ _ _ _, Below.refl _ _⟩
  case round =>
    obtain ⟨j, hj, rfl, hown, hB⟩ := hrel
    obtain ⟨As, cs, rfl, hcs, hIs⟩ := hown.form
    have hBs := hB.size
    by_cases hlt : j < n
    · have hltz : (j : Int) < (n : Int) := by omega
      obtain ⟨b, o, rfl, -, hb, hcell⟩ := (HI.out.below hB) j hlt
      by_cases hm0 : m = 0
      · subst hm0
        have t1 : decide ((0 : Int) < ((0 : Nat) : Int)) = false := by decide
        have hx := Int.emod_two_eq (B j)
        obtain ⟨x, hxx⟩ : ∃ x, x = B j % 2 := ⟨_, rfl⟩
        rw [← hxx] at hx
        have HV := hide (show softF 0 Z B j = 1 - 2 * x from by rw [softF_parts (m := 0) (Z := Z) (B := B) (j := j) (z := 0) (b := x) (if_pos rfl) hxx.symm]; omega)
        have HX := hide hxx
        clear hxx
        have q1 : IntKind.i64.wrap (1 - 2 * x) = 1 - 2 * x := IntWalk.i64_in _ (by omega)
        have HMB := hide (fun W => mod_any (B j) 2 W (by decide) (by decide))
        rw [← HX.out] at HMB
        go_wp2_with fail
        refine (HMB.out _).mono ?_
        rintro r w' ⟨rfl, rfl⟩
        go_wp2_with (at_builtin; refine wpList_append_ints _ rfl (.tmp 27) (.tmp 37) rfl w.heap.size 0 (.slice As j cs) j _ rfl (hown.alloc _) (some ⟨_, 0, none⟩) 1 1 (fun _ => 1 - 2 * x) rfl (IntsAt.one _ 0 (1 - 2 * x) 3 (Nat.zero_le _)) (by omega) (by simp; omega) ?_; intro v' w' h1 hb2)
        refine ⟨⟨j + 1, by omega, by simp, h1.congr (fun y hy => ?_), (hB.alloc hBs _).trans hb2⟩, by simp [intOf]; omega⟩
        unfold catF
        by_cases e : y < j
        · rw [if_pos e]
        · rw [if_neg e, show y = j by omega, HV.out]
      · have hm1 : 0 < m := by omega
        have t1 : decide ((0 : Int) < (m : Int)) = true := decide_eq_true (by omega)
        have t1' : decide (0 < m) = true := decide_eq_true hm1
        have hmz : ¬ (m : Int) = 0 := by omega
        have hml := Nat.mod_lt j hm1
        obtain ⟨i, hi⟩ : ∃ i, i = j % m := ⟨_, rfl⟩
        rw [← hi] at hml
        obtain ⟨b', o', rfl, -, hb', hcell'⟩ := (HJ.out.below hB) i hml
        have hmlz : (i : Int) < (m : Int) := by omega
        have ec : (j : Int) % (m : Int) = (i : Int) := by rw [hi]; simp
        have et : (j : Int).tmod (m : Int) = (i : Int) := by rw [Int.tmod_eq_emod_of_nonneg (by omega)]; exact ec
        have hx := Int.emod_two_eq (B j)
        obtain ⟨x, hxx⟩ : ∃ x, x = B j % 2 := ⟨_, rfl⟩
        rw [← hxx] at hx
        have hz0 : 0 ≤ Z i % 1000 ∧ Z i % 1000 < 1000 := ⟨Int.emod_nonneg _ (by decide), Int.emod_lt_of_pos _ (by decide)⟩
        obtain ⟨z, hzz⟩ : ∃ z, z = Z i % 1000 := ⟨_, rfl⟩
        rw [← hzz] at hz0
        obtain ⟨z0, z9⟩ := hz0
        obtain ⟨V, hV⟩ : ∃ V, V = (1 - 2 * x) * (1 + z) := ⟨_, rfl⟩
        have HV := hide (show softF m Z B j = V from by rw [hV]; exact softF_parts (by rw [if_neg hm0, hzz, hi]) hxx.symm)
        have q3 : IntKind.i64.wrap ((1 - 2 * x) * (1 + z)) = V := by
          rw [← hV]
          refine IntWalk.i64_in _ ?_
          rcases hx with h | h
          · rw [hV, h, Int.mul_zero, Int.sub_zero, Int.one_mul]; omega
          · rw [hV, h, show (1 - 2 * (1 : Int)) = -1 by decide, Int.neg_one_mul]; omega
        have q1 : IntKind.i64.wrap (1 - 2 * x) = 1 - 2 * x := IntWalk.i64_in _ (by omega)
        have HMZ := hide (fun W => mod_any (Z i) 1000 W (by decide) (by decide))
        rw [← hzz] at HMZ
        have HMB := hide (fun W => mod_any (B j) 2 W (by decide) (by decide))
        rw [← hxx] at HMB
        have x0 : 0 ≤ x := by omega
        have x9 : x ≤ 1 := by omega
        clear hV hxx hzz hi ec hm0 hx
        go_wp2_with fail
        refine (HMZ.out _).mono ?_
        rintro r w' ⟨rfl, rfl⟩
        go_wp2_with fail
        refine (HMB.out _).mono ?_
        rintro r w' ⟨rfl, rfl⟩
        go_wp2_with (at_builtin; refine wpList_append_ints _ rfl (.tmp 27) (.tmp 37) rfl w.heap.size 0 (.slice As j cs) j _ rfl (hown.alloc _) (some ⟨_, 0, none⟩) 1 1 (fun _ => V) rfl (IntsAt.one _ 0 V 3 (Nat.zero_le _)) (by omega) (by simp; omega) ?_; intro v' w' h1 hb2)
        refine ⟨⟨j + 1, by omega, by simp, h1.congr (fun y hy => ?_), (hB.alloc hBs _).trans hb2⟩, by simp [intOf]; omega⟩
        unfold catF
        by_cases e : y < j
        · rw [if_pos e]
        · rw [if_neg e, show y = j by omega, HV.out]
    · obtain rfl : j = n := by omega
      go_wp2_with fail
      go_ret
      exact ⟨_, rfl, hown, hB⟩
end Go.Proofs.Ytcpcndacodcopaa
/- gathered -/
namespace Go.Proofs.Ytcpcndacodcopaa
open Go.RowKit Go.Shelf
attribute [local go_sem] Oper.semAt_some
/-- What the rounds so far have gathered at a place. -/
def gatherL (v n : Nat) (S : Nat → Int) {C : Nat} (pre : List (Fin C)) (p : Nat) : Int := pre.foldl (fun acc x => if p = placeN v n x.1 then acc + S x.1 else acc) 0
theorem gatherL_snoc {v n : Nat} {S : Nat → Int} {C : Nat} (pre : List (Fin C)) (x : Fin C) (p : Nat) : gatherL v n S (pre ++ [x]) p = if p = placeN v n x.1 then gatherL v n S pre p + S x.1 else gatherL v n S pre p := by
  unfold gatherL
  rw [List.foldl_append]
  rfl
theorem gatherL_seq {v n : Nat} {S : Nat → Int} {C : Nat} (p : Nat) : ∀ k, k ≤ C → gatherL v n S (seqTo C k) p = gatherF v n S k p
  | 0, _ => rfl
  | k + 1, hk => by
    rw [seqTo_succ (show k < C by omega), gatherL_snoc, gatherL_seq p k (by omega)]
    rfl
theorem foldl_le {v n p : Nat} {S : Nat → Int} {C : Nat} (hS : ∀ k, k < C → -1000000 ≤ S k ∧ S k ≤ 1000000) : ∀ (pre : List (Fin C)) (a : Int), a - (pre.length : Int) * 1000000 ≤ pre.foldl (fun acc x => if p = placeN v n x.1 then acc + S x.1 else acc) a ∧ pre.foldl (fun acc x => if p = placeN v n x.1 then acc + S x.1 else acc) a ≤ a + (pre.length : Int) * 1000000
  | [], a => by simp
  | x :: r, a => by
    have hx := hS x.1 x.2
    have h := foldl_le (v := v) (n := n) (p := p) hS r (if p = placeN v n x.1 then a + S x.1 else a)
    rw [List.foldl_cons, List.length_cons]
    have e : -1000000 ≤ (if p = placeN v n x.1 then a + S x.1 else a) - a ∧ (if p = placeN v n x.1 then a + S x.1 else a) - a ≤ 1000000 := by split <;> omega
    generalize (if p = placeN v n x.1 then a + S x.1 else a) = y at *
    omega
theorem gatherL_le {v n : Nat} {S : Nat → Int} {C : Nat} (hS : ∀ k, k < C → -1000000 ≤ S k ∧ S k ≤ 1000000) (pre : List (Fin C)) (p : Nat) (hl : pre.length < 1001) : -2000000000 ≤ gatherL v n S pre p ∧ gatherL v n S pre p ≤ 2000000000 := by
  have h := foldl_le (v := v) (n := n) (p := p) hS pre 0
  have e : gatherL v n S pre p = pre.foldl (fun acc x => if p = placeN v n x.1 then acc + S x.1 else acc) 0 := rfl
  rw [← e] at h
  omega

structure GInv (w W : World) (A : Option Addr) (n c C v : Nat) (S : Nat → Int) (pre : List (Fin C)) : Prop where
  row : W.rowIs (w.heap.size + 1) 3 n (fun p => .int .i64 (gatherL v n S pre p))
  b0 : Box W w.heap.size 26 #[.slice A C c]
  b2 : Box W (w.heap.size + 1 + 1) 26 #[.slice (some ⟨w.heap.size + 1, 0, none⟩) n n]
  below : Below w.heap.size w W
  size : w.heap.size + 6 ≤ W.heap.size
theorem GInv.grown {w W Y : World} {A : Option Addr} {n c C v : Nat} {S : Nat → Int} {pre : List (Fin C)} {row : Option Nat} (h : GInv w W A n c C v S pre) (hg : W.grownBy Y row) (hr : ∀ r, row = some r → w.heap.size + 6 ≤ r) : GInv w Y A n c C v S pre := by
  have hs := h.size
  have hk : ∀ k, k < w.heap.size + 6 → Y.heap[k]? = W.heap[k]? := fun k hk => hg.block k (by omega) (fun e => by have := hr k e.symm; omega)
  exact ⟨h.row.of_block (hk _ (by omega)), (hk _ (by omega)).trans h.b0, (hk _ (by omega)).trans h.b2, h.below.grown hg (Nat.le_trans (by omega) hs) (fun k e => by have := hr k e; omega), Nat.le_trans hs hg.size⟩
theorem GInv.set_ {w W : World} {A : Option Addr} {n c C v : Nat} {S : Nat → Int} {pre : List (Fin C)} (h : GInv w W A n c C v S pre) (x : Fin C) : GInv w (W.setCell ⟨w.heap.size + 1, placeN v n x.1, none⟩ (.int .i64 (gatherL v n S pre (placeN v n x.1) + S x.1))) A n c C v S (pre ++ [x]) := by
  refine ⟨(h.row.set (placeN v n x.1) _).congr (fun y _ => ?_), h.b0.other (by simp) _, h.b2.other (by simp) _, h.below.setCell (by simp) _, by simpa [World.setCell] using h.size⟩
  rw [gatherL_snoc]
  by_cases e : y = placeN v n x.1
  · subst e
    simp
  · rw [if_neg e, if_neg e]
theorem GInv.drew {w W : World} {A : Option Addr} {n c C v : Nat} {S : Nat → Int} {pre : List (Fin C)} (h : GInv w W A n c C v S pre) : GInv w W.drew A n c C v S pre := ⟨h.row, h.b0, h.b2, h.below.drew, h.size⟩

set_option maxHeartbeats 2000000 in
/-- A function handed back a new slice of n numbers, with no room behind them. -/
def GaveRow (w : World) (n : Nat) (F : Nat → Int) (v : Value) (w' : World) : Prop := (∃ g, v = .slice (some ⟨g, 0, none⟩) n n) ∧ GaveInts w n F v w'
theorem GaveRow.of_row {w w' : World} {g n : Nat} {t : TypeId} {F : Nat → Int} (h : w'.rowIs g t n (fun j => .int .i64 (F j))) (hg : w.heap.size ≤ g) (hb : Below w.heap.size w w') : GaveRow w n F (.slice (some ⟨g, 0, none⟩) n n) w' :=
  ⟨⟨g, rfl⟩, GaveInts.of_row h hg hb⟩
set_option maxRecDepth 100000 in
theorem gathered_row (A : Option Addr) (C c v n : Nat) (S : Nat → Int) (w : World) (hI : IntsAt w 0 A C S) (hS : ∀ k, k < C → -1000000 ≤ S k ∧ S k ≤ 1000000) (hv : v ≤ 3) (hn : 1 ≤ n) (hn9 : n ≤ 1000) (hC : C ≤ 1000) :
    Calls Try.prog 59 #[.slice A C c, .int .i64 (v : Int), .int .i64 (n : Int)] w fun e w' => ∃ x, e = .returned x ∧ GaveRow w n (gatherF v n S C) x w' := by
  obtain ⟨i0, hi, hz0, hz1, hz2⟩ := info_parts intInfo
  have hmk := fun W => run_make_row (P := Try.prog) 26 3 i0 (.int .i64 0) Try.underlying26 hi hz0 hz1 rfl .i64 .i64 n (by rw [hz2]; omega) (by omega) W
  have HI := hide hI
  have HS := hide hS
  clear hI hS hi hz0 hz1 hz2
  refine (callsIn_wide (n := 9)).1 ?_
  refine callsIn_of_wp_marks Try.func59 rfl trivial ?_ rfl
  refine wpIn_wide.2 ?_
  simp only [Try.ntmps59, List.size_toArray, List.length_cons, List.length_nil, Nat.reduceAdd, Nat.reduceSub, Array.replicate_succ, Array.replicate_zero, List.push_toArray, List.append_toArray, List.nil_append, List.cons_append]
  go_wp2_with fail
  refine (placesOf_any _ _ _ _).mono ?_
  rintro e w5 ⟨rfl, hw5⟩
  have hz5 : w5.heap.size = w.heap.size + 6 := by rw [← hw5]; simp
  have hA5 : GInv w w5 A n c C v S [] := by
    refine ⟨?_, ?_, ?_, ?_, by omega⟩
    · rw [← hw5]
      have h := World.rowIs_made (w.alloc (.cells #[.slice A C c] 26)) (.int .i64 0) n 3
      simp only [World.size_alloc] at h
      exact ((((h.alloc _).alloc _).alloc _).alloc _).congr (fun _ _ => rfl)
    · rw [← hw5]; exact (((((Box.made rfl).alloc _).alloc _).alloc _).alloc _).alloc _
    · rw [← hw5]; exact (((Box.made (by simp)).alloc _).alloc _).alloc _
    · rw [← hw5]; (repeat (first | (with_reducible exact Below.refl _ _) | (with_reducible refine below_drewN ?_ _) | (with_reducible refine Below.drew ?_) | (with_reducible refine Below.alloc ?_ (by first | exact Nat.le_refl _ | (simp; done) | (simp; omega) | omega) _) | (with_reducible refine Below.setCell ?_ (by first | exact Nat.le_refl _ | (simp; done) | (simp; omega) | omega) _)))
  have bv : Box w5 (w.heap.size + 3) 3 #[.int .i64 (v : Int)] := by rw [← hw5]; exact ((Box.made (by simp)).alloc _).alloc _
  have bn : Box w5 (w.heap.size + 3 + 1) 3 #[.int .i64 (n : Int)] := by rw [← hw5]; exact (Box.made (by simp)).alloc _
  have bc : Box w5 (w.heap.size + 3 + 1 + 1) 3 #[.int .i64 (C : Int)] := by rw [← hw5]; exact Box.made (by simp)
  clear hw5 hmk
  have HZ5 := hide hz5
  clear hz5
  simp only [World.size_alloc]
  go_wp2_with fail
  refine (wpIn_wide (n := 9)).1 ?_
  apply wpIn_rangeFunc_ownG (n := 9) (encs := encP v n C) (Kp := K3 (w.heap.size + 3)) rfl (by decide) rfl trivial (enters_of Try.func107 (by kernel_rfl) rfl)
    (places_stops 8 (w.heap.size + 3) v n C w5 bv bn bc hv hn hn9 hC)
    K3.trans (fun W l o o' hl h _ _ => K3.put (by have := HZ5.out; omega)) (Below.refl _ _) (fun _ => rfl)
    (fun pre W => GInv w W A n c C v S pre) (fun _ _ _ => False)
  case hI => exact fun pre X Y row hs hg hr => hs.grown hg (fun r e => by have := (hr r e).1; have := HZ5.out; omega)
  case hIx => exact fun c s X Y row hs _ _ => hs
  case h0 => exact hA5
  case hassign =>
    intro l x W K hK
    unfold encP
    gi_wp2
    exact hK
  case hbody =>
    rintro l pre x W hM hlen
    have hx2 := x.2
    have hpl := placeN_lt (v := v) (k := x.1) (show 0 < n by omega)
    have HM := hide (hM.drew.set_ x)
    have x2 : W.cell? ⟨w.heap.size + 1 + 1, 0, none⟩ = some (.slice (some ⟨w.heap.size + 1, 0, none⟩) n n) := hM.b2.at_ 0
    have hI := HI.out.below hM.below
    obtain ⟨b, o, rfl, -, hb, hcell⟩ := hI _ hx2
    have x0 : W.cell? ⟨w.heap.size, 0, none⟩ = some (.slice (some ⟨b, o, none⟩) C c) := hM.b0.at_ 0
    have hc := hM.row.cell hpl
    have hf := hM.row.frozen (placeN v n x.1)
    have hMz := hM.size
    have hg9 := gatherL_le (v := v) (n := n) HS.out pre (placeN v n x.1) (by omega)
    have hs9 := HS.out x.1 hx2
    have HO := hide ((Only.refl (w.heap.size + 1) W).drew.set_ (placeN v n x.1) (.int .i64 (gatherL v n S pre (placeN v n x.1) + S x.1)))
    generalize placeN v n x.1 = p at *
    generalize gatherL v n S pre p = y at *
    generalize S x.1 = u at *
    have q1 : IntKind.i64.wrap (y + u) = y + u := IntWalk.i64_in _ (by omega)
    gi_wp2_with fail
    refine wpIn_region_tail 10 (by kernel_rfl) (by kernel_rfl) (by kernel_rfl) (fun ⟨_, _, h⟩ => h) ?_
    simp only [List.take_succ_cons, List.take_zero, List.drop_succ_cons, List.drop_zero]
    repeat still_step
    try refine wpStill_nil ?_
    change wpList _ _ _ _ _ W.drew
    go_wp2_with fail
    go_goals
    all_goals
      exact ⟨⟨HO.out.size, fun q o' hq hk _ => (HO.out.block q (Array.getElem?_eq_some_iff.1 hk).1 (fun e => by injection e; have := HZ5.out; omega)).trans hk⟩, K3.of_only HO.out (by have := HZ5.out; omega) (by omega), HM.out⟩
  case hdone =>
    rintro D xs W hD hxs hM hK
    have x2 : W.cell? ⟨w.heap.size + 1 + 1, 0, none⟩ = some (.slice (some ⟨w.heap.size + 1, 0, none⟩) n n) := hM.b2.at_ 0
    have hK' := hide hK
    have HXS := hide hxs
    clear hxs hK
    have hlt := hM.b2.lt
    go_wp2_with fail
    refine ⟨by simp, .inl ⟨_, _, rfl, run_takeDeferred hK'.out, ?_⟩⟩
    refine ⟨_, by first | exact results_tmp rfl _ _ _ | rfl, _, rfl, ?_⟩
    have hDz : D < W.heap.size := (Array.getElem?_eq_some_iff.1 hK'.out).1
    have hMz := hM.size
    have hz5 := HZ5.out
    have hM3 : GInv w (W.putObj D (.deferred none)) A n c C v S xs := hM.grown (grownBy_putObj' W D _) (fun r e => by cases e; omega)
    have hr := hM3.row.congr (g := fun y => .int .i64 (gatherF v n S C y)) (fun y hy => by rw [HXS.out, gatherL_seq y C (Nat.le_refl _)])
    exact GaveRow.of_row hr (by omega) hM3.below
  case hstop => exact fun D c pre W _ _ h _ => h.elim
theorem gathered_any (A : Option Addr) (C c v n : Nat) (S : Nat → Int) (w : World) (hI : IntsAt w 0 A C S) (hS : ∀ k, k < C → -1000000 ≤ S k ∧ S k ≤ 1000000) (hv : v ≤ 3) (hn : 1 ≤ n) (hn9 : n ≤ 1000) (hC : C ≤ 1000) :
    Calls Try.prog 59 #[.slice A C c, .int .i64 (v : Int), .int .i64 (n : Int)] w fun e w' => ∃ x, e = .returned x ∧ GaveInts w n (gatherF v n S C) x w' :=
  (gathered_row A C c v n S w hI hS hv hn hn9 hC).mono fun _ _ ⟨x, h1, h2⟩ => ⟨x, h1, h2.2⟩
end Go.Proofs.Ytcpcndacodcopaa
