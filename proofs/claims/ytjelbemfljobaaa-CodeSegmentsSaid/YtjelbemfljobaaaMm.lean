/- Joined and Segments of the code where the rule, the length or the bits are wrong; mathematics of segments (what is cut is joined again); both, any input. -/
import Derived.Test.YtjelbemfljobaaaMi
import Derived.Test.YtjelbemfljobaaaMf
import Derived.Test.YtjelbemfljobaaaHm
namespace Go.Proofs.Ytjelbemfljobaaa
theorem firstBad_none {g : Nat → Int} : ∀ {n : Nat}, (∀ k, k < n → g k = 0) → firstBad g n = 0
  | 0, _ => rfl
  | n + 1, h => by
    unfold firstBad
    rw [if_pos (firstBad_none fun k hk => h k (by omega))]
    exact h n (by omega)
theorem segF_at {x y a f i k : Nat} {B : Nat → Int} (hk : k < a) : segF x y a f B i k = fillF f B (i * a + k) := if_pos hk
theorem segF_check {x y a f i k : Nat} {B : Nat → Int} : segF x y a f B i (a + k) = remB x y a (fun k => fillF f B (i * a + k)) k := by
  unfold segF catF
  rw [if_neg (by omega), Nat.add_sub_cancel_left]
theorem allF_seg {x y a f : Nat} {B : Nat → Int} (ha : 0 < a) (j : Nat) : allF a (segF x y a f B) j = fillF f B j := by
  unfold allF
  rw [segF_at (Nat.mod_lt _ ha), Nat.mul_comm, Nat.div_add_mod]
theorem segErr_seg {x y a f s i : Nat} {B : Nat → Int} (hb : ∀ k, k < s → IsBit (fillF f B k)) (hi : (i + 1) * a ≤ s) : segErrI x y a (a + x) (segF x y a f B i) = 0 := by
  rw [Nat.add_mul, Nat.one_mul] at hi
  unfold segErrI
  have h1 : bitsB (a + x) (segF x y a f B i) = true := bitsB_iff.2 fun k hk => by
    rcases Nat.lt_or_ge k a with h | h
    · rw [segF_at h]; exact hb _ (by omega)
    · obtain ⟨j, rfl⟩ := Nat.exists_eq_add_of_le h
      rw [segF_check]; exact remB_bit _ _ _ _ _
  have h2 : rightB x y (a + x) (segF x y a f B i) = true := by
    unfold rightB
    rw [Nat.add_sub_cancel]
    refine intsB_iff.2 ⟨rfl, fun j _ => ?_⟩
    rw [segF_check]
    unfold remB
    rw [remF_congr fun k hk => segF_at hk]
  rw [if_pos rfl, if_pos h1, if_pos h2]
theorem join_back {x y m n : Nat} {B : Nat → Int} (hx : x < m) (hm : m ≤ 100) (n0 : 0 < n) (n9 : n ≤ 200) (hb : ∀ k, k < n → IsBit (B k)) :
    joinErrI x y m n (cntN x m n) (fun _ => aheadN x m n + x) (segF x y (aheadN x m n) (cntN x m n * aheadN x m n - n) B) = 0 ∧
    joinNum x y m n (cntN x m n) (fun _ => aheadN x m n + x) (segF x y (aheadN x m n) (cntN x m n * aheadN x m n - n) B) = 0 ∧
    ∀ k, joinF x m n (segF x y (aheadN x m n) (cntN x m n * aheadN x m n - n) B) k = B k := by
  obtain ⟨c1, c2, c3, c4, c5, c6⟩ := cut_facts hx hm n0 n9
  have hz : firstBad (fun i => segErrI x y (aheadN x m n) (aheadN x m n + x) (segF x y (aheadN x m n) (cntN x m n * aheadN x m n - n) B i)) (cntN x m n) = 0 :=
    firstBad_none fun i hi => segErr_seg (s := cntN x m n * aheadN x m n) (fun k hk => fillF_bit hb k (by omega)) (Nat.mul_le_mul_right _ hi)
  have hh : hasB (cntN x m n * aheadN x m n - n) (allF (aheadN x m n) (segF x y (aheadN x m n) (cntN x m n * aheadN x m n - n) B)) 1 = false := by
    rw [← Bool.not_eq_true, hasB_iff]
    rintro ⟨j, hj, e⟩
    rw [allF_seg c3] at e
    unfold fillF catF at e
    rw [if_pos hj] at e
    exact absurd e (show ¬((0 : Int) = 1) by decide)
  refine ⟨?_, ?_, fun k => ?_⟩
  · rw [joinErr_def, if_pos rfl, if_pos hz, if_neg (by rw [hh]; decide)]
  · rw [joinNum_def, if_pos rfl, if_pos hz]
  · rw [joinF_def]
    show allF _ _ _ = _
    rw [allF_seg c3]
    unfold fillF catF
    rw [if_neg (by omega), Nat.add_sub_cancel_left]
open Go.RowKit Go.Shelf
set_option maxHeartbeats 2000000 in
set_option maxRecDepth 100000 in
theorem Joined_bad (d t M len : Int) (v : Value) (w : World) (hbad : firstE [ruleErrI d t M, unI (withinB len 1 200) 2] ≠ 0) :
    Calls Try.prog 34 #[.agg #[.int .i64 d, .int .i64 t, .int .i64 M], v, .int .i64 len] w fun e w' => e = .returned (.tuple #[.slice none 0 0, .int .i64 0, .int .i64 (firstE [ruleErrI d t M, unI (withinB len 1 200) 2])]) ∧ Below w.heap.size w w' := by
  have HRE := hide (fun W => ruleError_any d t M W)
  have HFE := hide (fun W t' => firstError_laid [ruleErrI d t M, unI (withinB len 1 200) 2] 2 t' W rfl (by decide))
  generalize firstE [ruleErrI d t M, unI (withinB len 1 200) 2] = E at *
  generalize ruleErrI d t M = R at *
  have t4 : (E != 0) = true := by simpa using hbad
  go_enter Try.func34, Try.ntmps34
  go_wp2_with fail
  refine (HRE.out _).mono ?_
  rintro e w1 ⟨rfl, hb1⟩
  go_wp2_with fail
  refine (lengthError_any _ _).mono ?_
  rintro e w2 ⟨rfl, rfl⟩
  generalize unI (withinB len 1 200) 2 = U at *
  go_wp2_with fail
  refine (HFE.out _ _).mono ?_
  rintro e w3 ⟨rfl, hw3⟩
  have hB3 : Below w.heap.size w w3 := by
    rw [← hw3]
    have h1 := below_of_alloc hb1
    exact h1.alloc h1.size _
  clear hw3 hb1
  go_wp2_with fail
  go_ret3
  exact ⟨rfl, hB3⟩
set_option maxHeartbeats 2000000 in
set_option maxRecDepth 100000 in
theorem Segments_bad (d t M : Int) (A : Option Addr) (n c : Nat) (B : Nat → Int) (w : World) (hn : n ≤ 100000) (hI : IntsAt w 0 A n B) (hbad : firstE [ruleErrI d t M, firstE [firstE [unI (decide (0 < n)) 10, unI (decide (n ≤ 200)) 8], unI (bitsB n B) 15]] ≠ 0) :
    Calls Try.prog 39 #[.agg #[.int .i64 d, .int .i64 t, .int .i64 M], .slice A n c] w fun e w' => e = .returned (.tuple #[.slice none 0 0, .int .i64 (firstE [ruleErrI d t M, firstE [firstE [unI (decide (0 < n)) 10, unI (decide (n ≤ 200)) 8], unI (bitsB n B) 15]])]) ∧ Below w.heap.size w w' := by
  have HI := hide hI
  have HRE := hide (fun W => ruleError_any d t M W)
  have HBE := hide (fun W (hb : Below w.heap.size w W) => bitsError_any A n c B W hn (hI.below hb))
  clear hI
  generalize firstE [firstE [unI (decide (0 < n)) 10, unI (decide (n ≤ 200)) 8], unI (bitsB n B) 15] = U at *
  have HFE := hide (fun W t' => firstError_laid [ruleErrI d t M, U] 2 t' W rfl (by decide))
  generalize firstE [ruleErrI d t M, U] = E at *
  generalize ruleErrI d t M = R at *
  have t4 : (E != 0) = true := by simpa using hbad
  go_enter Try.func39, Try.ntmps39
  go_wp2_with fail
  refine (HRE.out _).mono ?_
  rintro e w1 ⟨rfl, hb1⟩
  have hB1 := below_of_alloc hb1
  go_wp2_with fail
  refine (HBE.out _ hB1).mono ?_
  rintro e w2 ⟨rfl, hb2⟩
  have hB2 := hB1.trans (hb2.mono hB1.size)
  go_wp2_with fail
  refine (HFE.out _ _).mono ?_
  rintro e w3 ⟨rfl, hw3⟩
  have hB3 : Below w.heap.size w w3 := by
    rw [← hw3]
    exact hB2.alloc hB2.size _
  clear hw3 hb1 hb2
  go_wp2_with fail
  go_ret2
  exact ⟨rfl, hB3⟩
/-- The error ahead of joining: the rule's, then the length's. -/
def preErrI (d t M len : Int) : Int := firstE [ruleErrI d t M, unI (withinB len 1 200) 2]
def jErrI (d t M len : Int) (n : Nat) (L : Nat → Nat) (F : Nat → Nat → Int) : Int := if preErrI d t M len = 0 then joinErrI d.toNat t.toNat M.toNat len.toNat n L F else preErrI d t M len
def jNumI (d t M len : Int) (n : Nat) (L : Nat → Nat) (F : Nat → Nat → Int) : Nat := if preErrI d t M len = 0 then joinNum d.toNat t.toNat M.toNat len.toNat n L F else 0
def jF (d M len : Int) (F : Nat → Nat → Int) : Nat → Int := joinF d.toNat M.toNat len.toNat F
theorem preErr_zero {d t M len : Int} (h : preErrI d t M len = 0) : ruleErrI d t M = 0 ∧ ∃ l : Nat, len = l ∧ 0 < l ∧ l ≤ 200 := by
  obtain ⟨h1, h⟩ := firstE_zero_cons h
  obtain ⟨h2, -⟩ := firstE_zero_cons h
  have h2 := withinB_of (unI_zero (by decide) h2)
  obtain ⟨l, rfl⟩ := Int.eq_ofNat_of_zero_le (show 0 ≤ len by omega)
  exact ⟨h1, l, rfl, by omega, by omega⟩
theorem Joined_any (d t M len : Int) (n c : Nat) (A : Option Addr) (L : Nat → Nat) (F : Nat → Nat → Int) (w : World) (hn : n ≤ 1000) (hL : ∀ i, i < n → L i ≤ 100000) (hI : ListsAt w 0 A n L F) :
    Calls Try.prog 34 #[.agg #[.int .i64 d, .int .i64 t, .int .i64 M], .slice A n c, .int .i64 len] w (GaveJoin (jErrI d t M len n L F) (jNumI d t M len n L F) len.toNat (jF d M len F) w) := by
  unfold jErrI jNumI jF
  by_cases h : preErrI d t M len = 0
  · rw [if_pos h, if_pos h]
    obtain ⟨hr, l, rfl, l0, l9⟩ := preErr_zero h
    obtain ⟨x, y, m, ho⟩ := ruleErr_zero hr
    obtain ⟨rfl, rfl, rfl, d0, d1, t1, m0, m9⟩ := ho
    simp only [Int.toNat_natCast]
    exact Joined_ok x y m l n c A L F w hr d0 d1 t1 m0 m9 l0 l9 hn hL hI
  · rw [if_neg h, if_neg h]
    refine (Joined_bad d t M len _ w h).mono ?_
    rintro e w' ⟨rfl, hb⟩
    exact ⟨⟨_, rfl, .inl ⟨h, rfl⟩⟩, hb⟩
/-- The error ahead of cutting: the rule's, then that of the bits. -/
def segPreI (d t M : Int) (n : Nat) (B : Nat → Int) : Int := firstE [ruleErrI d t M, firstE [firstE [unI (decide (0 < n)) 10, unI (decide (n ≤ 200)) 8], unI (bitsB n B) 15]]
def GaveSegs (d t M : Int) (n : Nat) (B : Nat → Int) (w : World) (e : Ending) (w' : World) : Prop :=
  (∃ v, e = .returned (.tuple #[v, .int .i64 (segPreI d t M n B)]) ∧ ((segPreI d t M n B ≠ 0 ∧ v = .slice none 0 0) ∨ (segPreI d t M n B = 0 ∧ OwnLists w' w.heap.size v (cntN d.toNat M.toNat n) (fun _ => aheadN d.toNat M.toNat n + d.toNat) (segF d.toNat t.toNat (aheadN d.toNat M.toNat n) (cntN d.toNat M.toNat n * aheadN d.toNat M.toNat n - n) B)))) ∧ Below w.heap.size w w'
theorem segPre_zero {d t M : Int} {n : Nat} {B : Nat → Int} (h : segPreI d t M n B = 0) : ruleErrI d t M = 0 ∧ 0 < n ∧ n ≤ 200 ∧ ∀ k, k < n → IsBit (B k) := by
  obtain ⟨h1, h⟩ := firstE_zero_cons h
  obtain ⟨h2, -⟩ := firstE_zero_cons h
  obtain ⟨h3, h4⟩ := firstE_zero_cons h2
  obtain ⟨h4, -⟩ := firstE_zero_cons h4
  obtain ⟨h5, h6⟩ := firstE_zero_cons h3
  obtain ⟨h6, -⟩ := firstE_zero_cons h6
  exact ⟨h1, of_decide_eq_true (unI_zero (by decide) h5), of_decide_eq_true (unI_zero (by decide) h6), bitsB_iff.1 (unI_zero (by decide) h4)⟩
theorem Segments_any (d t M : Int) (A : Option Addr) (n c : Nat) (B : Nat → Int) (w : World) (hn : n ≤ 100000) (hI : IntsAt w 0 A n B) :
    Calls Try.prog 39 #[.agg #[.int .i64 d, .int .i64 t, .int .i64 M], .slice A n c] w (GaveSegs d t M n B w) := by
  by_cases h : segPreI d t M n B = 0
  · obtain ⟨hr, n0, n9, hb⟩ := segPre_zero h
    obtain ⟨x, y, m, ho⟩ := ruleErr_zero hr
    obtain ⟨rfl, rfl, rfl, d0, d1, t1, m0, m9⟩ := ho
    refine (Segments_ok x y m n c A B w hr d0 d1 t1 m0 m9 n0 n9 hI hb).mono ?_
    rintro e w' ⟨v, rfl, hown, hB⟩
    refine ⟨⟨v, by rw [h], .inr ⟨h, ?_⟩⟩, hB⟩
    simp only [Int.toNat_natCast]
    exact hown
  · refine (Segments_bad d t M A n c B w hn hI h).mono ?_
    rintro e w' ⟨rfl, hb⟩
    exact ⟨⟨_, rfl, .inl ⟨h, rfl⟩⟩, hb⟩
/-- What is cut is joined again: no error, the number 0, the same bits. -/
theorem cut_joined {d t M : Int} {n : Nat} {B : Nat → Int} (h : segPreI d t M n B = 0) :
    jErrI d t M n (cntN d.toNat M.toNat n) (fun _ => aheadN d.toNat M.toNat n + d.toNat) (segF d.toNat t.toNat (aheadN d.toNat M.toNat n) (cntN d.toNat M.toNat n * aheadN d.toNat M.toNat n - n) B) = 0 ∧
    jNumI d t M n (cntN d.toNat M.toNat n) (fun _ => aheadN d.toNat M.toNat n + d.toNat) (segF d.toNat t.toNat (aheadN d.toNat M.toNat n) (cntN d.toNat M.toNat n * aheadN d.toNat M.toNat n - n) B) = 0 ∧
    ∀ k, jF d M n (segF d.toNat t.toNat (aheadN d.toNat M.toNat n) (cntN d.toNat M.toNat n * aheadN d.toNat M.toNat n - n) B) k = B k := by
  obtain ⟨hr, n0, n9, hb⟩ := segPre_zero h
  have hp : preErrI d t M n = 0 := by
    unfold preErrI
    rw [hr, withinB_yes (by omega)]
    rfl
  obtain ⟨x, y, m, ho⟩ := ruleErr_zero hr
  obtain ⟨rfl, rfl, rfl, d0, d1, t1, m0, m9⟩ := ho
  unfold jErrI jNumI jF
  rw [if_pos hp, if_pos hp]
  simp only [Int.toNat_natCast]
  exact join_back m0 m9 n0 n9 hb
/-- The segments of a block give it back. -/
theorem Joined_back (d t M : Int) (n c : Nat) (A : Option Addr) (B : Nat → Int) (w : World) (h : segPreI d t M n B = 0)
    (hI : ListsAt w 0 A (cntN d.toNat M.toNat n) (fun _ => aheadN d.toNat M.toNat n + d.toNat) (segF d.toNat t.toNat (aheadN d.toNat M.toNat n) (cntN d.toNat M.toNat n * aheadN d.toNat M.toNat n - n) B)) :
    Calls Try.prog 34 #[.agg #[.int .i64 d, .int .i64 t, .int .i64 M], .slice A (cntN d.toNat M.toNat n) c, .int .i64 (n : Int)] w fun r w' => ∃ AZ cZ, r = .returned (.tuple #[.slice AZ n cZ, .int .i64 0, .int .i64 0]) ∧ IntsAt w' 0 AZ n B ∧ Below w.heap.size w w' := by
  obtain ⟨e1, e2, e3⟩ := cut_joined h
  obtain ⟨hr, n0, n9, hb⟩ := segPre_zero h
  obtain ⟨x, y, m, ho⟩ := ruleErr_zero hr
  obtain ⟨rfl, rfl, rfl, d0, d1, t1, m0, m9⟩ := ho
  simp only [Int.toNat_natCast] at hI e1 e2 e3 ⊢
  obtain ⟨c1, c2, c3, c4, -, -⟩ := cut_facts m0 m9 n0 n9
  refine (Joined_any x y m n (cntN x m n) c A _ _ w (by omega) (fun i _ => by show aheadN x m n + x ≤ 100000; omega) hI).mono ?_
  rw [e1, e2]
  rintro r w' ⟨⟨v, rfl, hv⟩, hB⟩
  rcases hv with ⟨h0, -⟩ | ⟨-, AZ, cZ, rfl, hIZ⟩
  · exact absurd rfl h0
  · exact ⟨AZ, cZ, rfl, fun k hk => by rw [← e3 k]; exact hIZ k hk, hB⟩
end Go.Proofs.Ytjelbemfljobaaa
