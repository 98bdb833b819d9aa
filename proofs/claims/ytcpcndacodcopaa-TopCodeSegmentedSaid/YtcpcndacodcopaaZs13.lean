/- Lemmas: Jh, Nf, Ng. -/
import Derived.Test.YtcpcndacodcopaaZs06
import Derived.Test.YtcpcndacodcopaaZs08
import Derived.Test.YtcpcndacodcopaaZs12
set_option linter.unusedVariables false
set_option linter.unusedSimpArgs false
/- Match and Gathered of the code, with their errors. -/
namespace Go.Proofs.Ytcpcndacodcopaa
open Go.RowKit Go.Shelf
def matchErr (n : Nat) (F : Nat → Int) (v c : Int) : Int := if bitsErrR n F = 0 then (if unI (withinB v 0 3) 15 = 0 then unI (withinB c 1 400) 2 else unI (withinB v 0 3) 15) else bitsErrR n F
def gathErr (n : Nat) (S : Nat → Int) (v l : Int) : Int := if sizedErrI n 400 S 1000000 = 0 then (if unI (withinB v 0 3) 15 = 0 then unI (withinB l 1 200) 2 else unI (withinB v 0 3) 15) else sizedErrI n 400 S 1000000
theorem first3 (a b c : Int) : firstE [a, b, c] = if a = 0 then (if b = 0 then c else b) else a := by
  rw [firstE_cons, firstE_cons, firstE_cons, firstE_nil]
  split
  · split
    · split
      · rename_i h; exact h.symm
      · rfl
    · rfl
  · rfl
theorem matchErr_zero {n : Nat} {F : Nat → Int} {v c : Int} (h : matchErr n F v c = 0) : bitsErrR n F = 0 ∧ (0 ≤ v ∧ v ≤ 3) ∧ 1 ≤ c ∧ c ≤ 400 := by
  unfold matchErr at h
  by_cases h1 : bitsErrR n F = 0
  · rw [if_pos h1] at h
    by_cases h2 : unI (withinB v 0 3) 15 = 0
    · rw [if_pos h2] at h
      exact ⟨h1, withinB_of (unI_zero (by decide) h2), withinB_of (unI_zero (by decide) h)⟩
    · rw [if_neg h2] at h; exact absurd h h2
  · rw [if_neg h1] at h; exact absurd h h1
theorem gathErr_zero {n : Nat} {S : Nat → Int} {v l : Int} (h : gathErr n S v l = 0) : sizedErrI n 400 S 1000000 = 0 ∧ (0 ≤ v ∧ v ≤ 3) ∧ 1 ≤ l ∧ l ≤ 200 := by
  unfold gathErr at h
  by_cases h1 : sizedErrI n 400 S 1000000 = 0
  · rw [if_pos h1] at h
    by_cases h2 : unI (withinB v 0 3) 15 = 0
    · rw [if_pos h2] at h
      exact ⟨h1, withinB_of (unI_zero (by decide) h2), withinB_of (unI_zero (by decide) h)⟩
    · rw [if_neg h2] at h; exact absurd h h2
  · rw [if_neg h1] at h; exact absurd h h1
set_option maxHeartbeats 1000000 in
theorem Match_any (A : Option Addr) (n c : Nat) (v C : Int) (B : Nat → Int) (w : World) (hI : IntsAt w 0 A n B) (hn : n ≤ 1000) :
    Calls Try.prog 76 #[.slice A n c, .int .i64 v, .int .i64 C] w (GaveOr (matchErr n B v C) C.toNat (fun k => B (placeN v.toNat n k)) w) := by
  have HI := hide hI
  clear hI
  go_enter Try.func76, Try.ntmps76
  go_wp2_with fail
  refine (bitsError_any A n c B _ (by omega) HI.out).mono ?_
  rintro e w1 ⟨rfl, hb1⟩
  rw [show firstE [firstE [unI (decide (0 < n)) 10, unI (decide (n ≤ 200)) 8], unI (bitsB n B) 15] = bitsErrR n B from bitsErrC_eq n B]
  go_wp2_with (first | (go_at_call 53; refine (versionError_any _ _).mono ?_; rintro e w' ⟨rfl, rfl⟩) | (go_at_call 91; refine (countError_any _ _).mono ?_; rintro e w' ⟨rfl, rfl⟩))
  refine (firstError_laid [bitsErrR n B, unI (withinB v 0 3) 15, unI (withinB C 1 400) 2] 3 _ _ rfl (by decide)).mono ?_
  rintro e w3 ⟨rfl, hw3⟩
  rw [show firstE [bitsErrR n B, unI (withinB v 0 3) 15, unI (withinB C 1 400) 2] = matchErr n B v C from first3 _ _ _]
  have hB3 : Below w.heap.size w w3 := by
    rw [← hw3]
    exact hb1.alloc hb1.size _
  clear hw3 hb1
  by_cases hz : matchErr n B v C = 0
  · rw [hz]
    obtain ⟨h1, ⟨v0, v1⟩, c0, c1⟩ := matchErr_zero hz
    obtain ⟨n0, n1, -⟩ := bitsErrR_zero h1
    have HZ := hide hz
    obtain ⟨v, rfl⟩ := Int.eq_ofNat_of_zero_le v0
    obtain ⟨C, rfl⟩ := Int.eq_ofNat_of_zero_le (show 0 ≤ C by omega)
    clear hz h1
    go_wp2_with fail
    refine (matched_any A n c v C B _ (HI.out.below hB3) (by omega) (by omega) (by omega) (by omega)).mono ?_
    rintro e w4 ⟨x, rfl, A4, c4, rfl, hc4, hI4, hb4⟩
    go_wp2_with fail
    go_ret2
    exact .inr ⟨HZ.out, _, rfl, A4, c4, rfl, hc4, hI4.weak hB3.size, hB3.trans (hb4.mono hB3.size)⟩
  · have HZ := hide hz
    have ht : (matchErr n B v C != 0) = true := by simpa using hz
    clear hz
    go_wp2_with fail
    go_ret2
    exact .inl ⟨HZ.out, rfl, hB3⟩
def GaveOrRow (err : Int) (n : Nat) (F : Nat → Int) (w : World) (e : Ending) (w' : World) : Prop :=
  (err ≠ 0 ∧ e = .returned (.tuple #[.slice none 0 0, .int .i64 err]) ∧ Below w.heap.size w w') ∨ (err = 0 ∧ ∃ v, e = .returned (.tuple #[v, .int .i64 0]) ∧ GaveRow w n F v w')
set_option maxHeartbeats 1000000 in
theorem Gathered_row (A : Option Addr) (n c : Nat) (v l : Int) (S : Nat → Int) (w : World) (hI : IntsAt w 0 A n S) (hn : n ≤ 1000) :
    Calls Try.prog 17 #[.slice A n c, .int .i64 v, .int .i64 l] w (GaveOrRow (gathErr n S v l) l.toNat (gatherF v.toNat l.toNat S n) w) := by
  have HI := hide hI
  clear hI
  go_enter Try.func17, Try.ntmps17
  go_wp2_with fail
  refine (softErr_any A n c S _ (by omega) HI.out).mono ?_
  rintro e w1 ⟨rfl, hb1⟩
  go_wp2_with (first | (go_at_call 53; refine (versionError_any _ _).mono ?_; rintro e w' ⟨rfl, rfl⟩) | (go_at_call 58; refine (lengthError_any _ _).mono ?_; rintro e w' ⟨rfl, rfl⟩))
  refine (firstError_laid [sizedErrI n 400 S 1000000, unI (withinB v 0 3) 15, unI (withinB l 1 200) 2] 3 _ _ rfl (by decide)).mono ?_
  rintro e w3 ⟨rfl, hw3⟩
  rw [show firstE [sizedErrI n 400 S 1000000, unI (withinB v 0 3) 15, unI (withinB l 1 200) 2] = gathErr n S v l from first3 _ _ _]
  have hB3 : Below w.heap.size w w3 := by
    rw [← hw3]
    exact hb1.alloc hb1.size _
  clear hw3 hb1
  by_cases hz : gathErr n S v l = 0
  · rw [hz]
    obtain ⟨h1, ⟨v0, v1⟩, c0, c1⟩ := gathErr_zero hz
    obtain ⟨n0, n1, hS⟩ := sizedErr_zero h1
    have HZ := hide hz
    have HS := hide hS
    obtain ⟨v, rfl⟩ := Int.eq_ofNat_of_zero_le v0
    obtain ⟨l, rfl⟩ := Int.eq_ofNat_of_zero_le (show 0 ≤ l by omega)
    clear hz h1 hS
    go_wp2_with fail
    refine (gathered_row A n c v l S _ (HI.out.below hB3) HS.out (by omega) (by omega) (by omega) (by omega)).mono ?_
    rintro e w4 ⟨x, rfl, ⟨g4, rfl⟩, hG4⟩
    have HG4 := hide hG4
    clear hG4
    go_wp2_with fail
    go_ret2
    obtain ⟨A4, c4, ev4, hc4, hI4, hb4⟩ := HG4.out
    exact .inr ⟨HZ.out, _, rfl, ⟨_, rfl⟩, A4, c4, ev4, hc4, hI4.weak hB3.size, hB3.trans (hb4.mono hB3.size)⟩
  · have HZ := hide hz
    have ht : (gathErr n S v l != 0) = true := by simpa using hz
    clear hz
    go_wp2_with fail
    go_ret2
    exact .inl ⟨HZ.out, rfl, hB3⟩
theorem Gathered_any (A : Option Addr) (n c : Nat) (v l : Int) (S : Nat → Int) (w : World) (hI : IntsAt w 0 A n S) (hn : n ≤ 1000) :
    Calls Try.prog 17 #[.slice A n c, .int .i64 v, .int .i64 l] w (GaveOr (gathErr n S v l) l.toNat (gatherF v.toNat l.toNat S n) w) :=
  (Gathered_row A n c v l S w hI hn).mono fun _ _ h => h.elim .inl fun ⟨h0, v, h1, h2⟩ => .inr ⟨h0, v, h1, h2.2⟩
end Go.Proofs.Ytcpcndacodcopaa
/- Sent, Gathered and Recovered of the code where all is right. -/
namespace Go.Proofs.Ytcpcndacodcopaa
open Go.RowKit Go.Shelf
theorem bitsErrR_of {n : Nat} {F : Nat → Int} (h0 : 0 < n) (h1 : n ≤ 200) (hb : ∀ k, k < n → IsBit (F k)) : bitsErrR n F = 0 := by rw [← bitsErrC_eq]; exact bitsErr_ok' h0 h1 hb
/-- All that a block and its chain keep, in natural numbers. -/
structure SendOk (x y q k n m : Nat) (F B : Nat → Int) : Prop where
  ce : chainErrI x y q n F k = 0
  sum : m + x = n
  n9 : n ≤ 66
  k80 : k ≤ 80
  k1 : 1 ≤ k
  q6 : q ≤ 6
  m0 : 0 < m
  polar : PolarOk q n F
  bits : ∀ i, i < m → IsBit (B i)
theorem sendOk_of {d t p k : Int} {n m : Nat} {F B : Nat → Int} (h : codeRightB d t p n F k m B = true) : ∃ x y q j : Nat, d = x ∧ t = y ∧ p = q ∧ k = j ∧ SendOk x y q j n m F B := by
  obtain ⟨h1, h2, h3, h4, h5⟩ := codeRight_iff.1 h
  obtain ⟨x, y, q, j, ok⟩ := chainErr_zero h2
  obtain ⟨rfl, rfl, rfl, rfl, d0, d1, t1, -, hpol, q6, hless, k1, k4⟩ := ok
  obtain ⟨m0, m9, hb⟩ := bitsErrR_zero h4
  exact ⟨x, y, q, j, rfl, rfl, rfl, rfl, h2, by omega, h1, by omega, k1, q6, m0, hpol, hb⟩
theorem SendOk.len {x y q k n m : Nat} {F B : Nat → Int} (h : SendOk x y q k n m F B) : 1 ≤ 2 ^ q ∧ 2 ^ q ≤ 64 := ⟨Nat.two_pow_pos q, by have : 2 ^ q ≤ 2 ^ 6 := Nat.pow_le_pow_right (by decide) h.q6; omega⟩
/-- The word that is sent. -/
def codeF (x y q n m : Nat) (F B : Nat → Int) (j : Nat) : Int := wordF (2 ^ q) (fun i => posF F (catF m B (remB x y m B)) i n) j
theorem codeF_bit (x y q n m : Nat) (F B : Nat → Int) (j : Nat) : IsBit (codeF x y q n m F B j) := wordF_bit _ _ _
theorem sentF_code (x y q n m v j : Nat) (F B : Nat → Int) : sentF x y q n F m B v j = codeF x y q n m F B (placeN v (2 ^ q) j) := rfl
theorem Sent_ok (x y q k n m v : Nat) (A C : Option Addr) (c e : Nat) (F B : Nat → Int) (w : World) (ok : SendOk x y q k n m F B) (hv : v ≤ 3) (hI : IntsAt w 0 A n F) (hJ : IntsAt w 0 C m B) :
    Calls Try.prog 15 #[.agg #[.int .i64 (x : Int), .int .i64 (y : Int), .int .i64 (q : Int), .slice A n c, .int .i64 (k : Int)], .slice C m e, .int .i64 (v : Int)] w fun r w' => ∃ A' c', r = .returned (.tuple #[.slice A' k c', .int .i64 0]) ∧ IntsAt w' w.heap.size A' k (sentF x y q n F m B v) ∧ Below w.heap.size w w' := by
  have hs := ok.sum
  have h9 := ok.n9
  have hz : sentErrI x y q n F k m B v = 0 := by
    unfold sentErrI
    rw [ok.ce, bitsErrR_of ok.m0 (by omega) ok.bits, decide_eq_true (by omega), withinB_yes (by omega)]
    rfl
  refine (Sent_any x y q k v A C n c m e F B w (by omega) (by omega) (by omega) hI hJ).mono ?_
  rintro r w' (⟨h0, -⟩ | ⟨-, v', rfl, A', c', rfl, -, hI', hb⟩)
  · exact absurd hz h0
  · simp only [Int.toNat_natCast] at hI' ⊢
    exact ⟨A', c', rfl, hI', hb⟩
theorem Gathered_ok (A : Option Addr) (n c v l : Nat) (S : Nat → Int) (w : World) (n0 : 1 ≤ n) (n9 : n ≤ 400) (hv : v ≤ 3) (l0 : 1 ≤ l) (l9 : l ≤ 200) (hS : ∀ j, j < n → -1000000 ≤ S j ∧ S j ≤ 1000000) (hI : IntsAt w 0 A n S) :
    Calls Try.prog 17 #[.slice A n c, .int .i64 (v : Int), .int .i64 (l : Int)] w fun r w' => ∃ g, r = .returned (.tuple #[.slice (some ⟨g, 0, none⟩) l l, .int .i64 0]) ∧ IntsAt w' w.heap.size (some ⟨g, 0, none⟩) l (gatherF v l S n) ∧ Below w.heap.size w w' := by
  have hz : gathErr n S v l = 0 := by
    unfold gathErr
    rw [if_pos (sizedErr_ok (by omega) (by omega) hS), withinB_yes (by omega), withinB_yes (by omega)]
    rfl
  refine (Gathered_row A n c v l S w hI (by omega)).mono ?_
  rintro r w' (⟨h0, -⟩ | ⟨-, v', rfl, ⟨g, rfl⟩, A', c', e', -, hI', hb⟩)
  · exact absurd hz h0
  · simp only [Int.toNat_natCast] at e' hI' ⊢
    injection e' with e1 e2 e3
    subst e1
    exact ⟨g, rfl, hI', hb⟩
theorem Recovered_ok (x y q k n m : Nat) (A C : Option Addr) (c e : Nat) (F B S : Nat → Int) (w : World) (ok : SendOk x y q k n m F B) (he0 : 2 ^ q ≤ e) (he : e ≤ 9223372036854775807)
    (hS : ∀ j, j < 2 ^ q → Tells (S j) (codeF x y q n m F B j)) (hS9 : ∀ j, j < 2 ^ q → -1000000000 ≤ S j ∧ S j ≤ 1000000000) (hI : IntsAt w 0 A n F) (hJ : IntsAt w 0 C (2 ^ q) S) :
    Calls Try.prog 20 #[.agg #[.int .i64 (x : Int), .int .i64 (y : Int), .int .i64 (q : Int), .slice A n c, .int .i64 (k : Int)], .slice C (2 ^ q) e] w fun r w' => ∃ A' c', r = .returned (.tuple #[.slice A' m c', .int .i64 0]) ∧ m ≤ c' ∧ c' ≤ 9223372036854775807 ∧ IntsAt w' w.heap.size A' m B ∧ Below w.heap.size w w' := by
  have hl := ok.len
  have h9 := ok.n9
  obtain ⟨ce, rfl, -, -, -, q6, -, hp, hb⟩ := ok
  have hz : recErrI x y q (m + x) F k (2 ^ q) S = 0 := recErr_ok ce q6 hp hb hS hS9
  have hB := (rec_checked hp hb hS).2
  refine (Recovered_cap x y q k A C (m + x) c (2 ^ q) e F S w (by omega) (by omega) he0 he hI hJ).mono ?_
  rintro r w' (⟨h0, -⟩ | ⟨-, v', rfl, ⟨A1, c1, rfl, hc1⟩, A', c', e', hc', hI', hb⟩)
  · exact absurd hz h0
  · simp only [Int.toNat_natCast, Nat.add_sub_cancel] at e' hc' hI' ⊢
    injection e' with e1 e2 e3
    subst e1
    subst e3
    exact ⟨A1, c1, rfl, hc', hc1, hI'.congr hB, hb⟩
/-- What is gathered of soft bits with the signs of what was sent tells the word. -/
theorem link_tells {x y q k n m v N z : Nat} {F B Z : Nat → Int} (hN : N = 2 ^ q) (hk : N ≤ k) (hk9 : k ≤ 400) :
    (∀ i, i < k → -1000000 ≤ softF z Z (sentF x y q n F m B v) i ∧ softF z Z (sentF x y q n F m B v) i ≤ 1000000) ∧
    (∀ i, i < N → Tells (gatherF v N (softF z Z (sentF x y q n F m B v)) k i) (codeF x y q n m F B i)) ∧
    (∀ i, i < N → -1000000000 ≤ gatherF v N (softF z Z (sentF x y q n F m B v)) k i ∧ gatherF v N (softF z Z (sentF x y q n F m B v)) k i ≤ 1000000000) := by
  have hb : ∀ i, IsBit (sentF x y q n F m B v i) := fun i => by rw [sentF_code]; exact codeF_bit _ _ _ _ _ _ _ _
  have h1 : ∀ i, i < k → -1000000 ≤ softF z Z (sentF x y q n F m B v) i ∧ softF z Z (sentF x y q n F m B v) i ≤ 1000000 := fun i _ => by
    have := (softF_tells (m := z) (Z := Z) (hb i)).2
    omega
  refine ⟨h1, fun i hi => gather_tells hk (fun j _ => ?_) hi, fun i hi => ?_⟩
  · have h2 := (softF_tells (m := z) (Z := Z) (hb j)).1
    rw [sentF_code, ← hN] at h2
    exact h2
  · have h3 := gatherF_le (v := v) (n := N) h1 (Nat.le_refl k) i
    omega
end Go.Proofs.Ytcpcndacodcopaa
/- A copy of lists whose rows lie each in a block of its own: one number of one row may be changed. -/
namespace Go.Proofs.Ytcpcndacodcopaa
open Go.RowKit Go.Shelf Go.Lib
def rowVals (n : Nat) (L c g : Nat → Nat) : List Value := (List.range n).map fun i => Value.slice (some ⟨g i, 0, none⟩) (L i) (c i)
theorem rowVals_len (n : Nat) (L c g : Nat → Nat) : (rowVals n L c g).length = n := by simp [rowVals]
theorem rowVals_get (n : Nat) (L c g : Nat → Nat) (i : Nat) (hi : i < n) : (rowVals n L c g)[i]? = some (.slice (some ⟨g i, 0, none⟩) (L i) (c i)) := by simp [rowVals, hi]
theorem rowVals_snoc (n : Nat) (L c g : Nat → Nat) (m d q : Nat) : rowVals n L c g ++ [Value.slice (some ⟨q, 0, none⟩) m d] = rowVals (n + 1) (snocN n L m) (snocN n c d) (snocN n g q) := by
  unfold rowVals
  rw [List.range_succ, List.map_append]
  have h1 : List.map (fun i => Value.slice (some ⟨g i, 0, none⟩) (L i) (c i)) (List.range n) = List.map (fun i => Value.slice (some ⟨snocN n g q i, 0, none⟩) (snocN n L m i) (snocN n c d i)) (List.range n) := by
    refine List.map_congr_left fun i hi => ?_
    have hi := List.mem_range.1 hi
    unfold snocN
    rw [if_pos hi, if_pos hi, if_pos hi]
  rw [h1]
  simp [snocN]
/-- A slice of slices of the call's own, each row of numbers in a block of its own. -/
def OwnRows (w : World) (base : Nat) (v : Value) (n : Nat) (L : Nat → Nat) (F : Nat → Nat → Int) (c g : Nat → Nat) : Prop :=
  w.ownsRow base 26 1 v n (rowVals n L c g) ∧ (∀ i, i < n → OwnInts w base (.slice (some ⟨g i, 0, none⟩) (L i) (c i)) (L i) (F i) ∧ v.ownBlock ≠ some (g i) ∧ g i < w.heap.size) ∧ ∀ i j, i < j → j < n → g i ≠ g j
theorem OwnRows.nil_ (w : World) (base : Nat) (L : Nat → Nat) (F : Nat → Nat → Int) (c g : Nat → Nat) : OwnRows w base (.slice none 0 0) 0 L F c g :=
  ⟨World.ownsRow_nil _ _ _ _, fun i h => absurd h (Nat.not_lt_zero i), fun i j _ h => absurd h (Nat.not_lt_zero j)⟩
theorem OwnRows.below {w w' : World} {base n : Nat} {v : Value} {L : Nat → Nat} {F : Nat → Nat → Int} {c g : Nat → Nat} (h : OwnRows w base v n L F c g) (hb : Below w.heap.size w w') : OwnRows w' base v n L F c g :=
  ⟨World.ownsRow.kept h.1 (row := none) ⟨hb.os, hb.tape, hb.output, hb.size, fun k hk _ => hb.block k hk⟩ (by cases v.ownBlock <;> simp), fun i hi => ⟨(h.2.1 i hi).1.below hb, (h.2.1 i hi).2.1, Nat.lt_of_lt_of_le (h.2.1 i hi).2.2 hb.size⟩, h.2.2⟩
theorem OwnRows.alloc {w : World} {base n : Nat} {v : Value} {L : Nat → Nat} {F : Nat → Nat → Int} {c g : Nat → Nat} (h : OwnRows w base v n L F c g) (o : Obj) : OwnRows (w.alloc o) base v n L F c g := h.below ((Below.refl _ _).alloc (Nat.le_refl _) _)
theorem OwnRows.lt {w : World} {base n : Nat} {v : Value} {L : Nat → Nat} {F : Nat → Nat → Int} {c g : Nat → Nat} (h : OwnRows w base v n L F c g) {k : Nat} (hk : v.ownBlock = some k) : base ≤ k ∧ k < w.heap.size := World.ownsRow.lt h.1 k hk
theorem OwnRows.form {w : World} {base n : Nat} {v : Value} {L : Nat → Nat} {F : Nat → Nat → Int} {c g : Nat → Nat} (h : OwnRows w base v n L F c g) (hn : 0 < n) : ∃ b d, v = .slice (some ⟨b, 0, none⟩) n d ∧ n ≤ d ∧ d ≤ 9223372036854775807 ∧ b < w.heap.size ∧ (∀ i, i < n → b ≠ g i) ∧ ∀ i, i < n → w.cell? ⟨b, i, none⟩ = some (.slice (some ⟨g i, 0, none⟩) (L i) (c i)) := by
  have hm9 : maxLen ≤ 9223372036854775807 := by decide
  have h1 := h.1
  have hlen := rowVals_len n L c g
  rcases h1.2 with ⟨rfl, h0⟩ | ⟨b, cap, cur, rfl, hb, hg, hnc, hm, -⟩
  · omega
  · refine ⟨b, cap, rfl, hnc, by omega, (Array.getElem?_eq_some_iff.1 hg).1, fun i hi e => (h.2.1 i hi).2.1 (by rw [← e]; rfl), fun i hi => ?_⟩
    have hc := World.ownsRow.cells h1 (g := b) rfl i _ (rowVals_get n L c g i hi)
    rw [Addr.add_lit, Nat.zero_add] at hc
    exact hc
theorem OwnRows.shape {w : World} {base n : Nat} {v : Value} {L : Nat → Nat} {F : Nat → Nat → Int} {c g : Nat → Nat} (h : OwnRows w base v n L F c g) : ∃ A d, v = .slice A n d ∧ n ≤ d ∧ d ≤ 9223372036854775807 := by
  have hm9 : maxLen ≤ 9223372036854775807 := by decide
  rcases h.1.2 with ⟨rfl, rfl⟩ | ⟨b, cap, cur, rfl, hb, hg, hnc, hm, -⟩
  · exact ⟨_, _, rfl, Nat.le_refl _, by decide⟩
  · exact ⟨_, _, rfl, hnc, by omega⟩
set_option maxRecDepth 100000 in
theorem run_append_row (w : World) (ty : TypeId) (base : Nat) (v : Value) (n : Nat) (L : Nat → Nat) (F : Nat → Nat → Int) (c g : Nat → Nat) (hown : OwnRows w base v n L F c g)
    (g1 q m d : Nat) (G : Nat → Int) (hc : w.cell? ⟨g1, 0, none⟩ = some (.slice (some ⟨q, 0, none⟩) m d)) (hr : OwnInts w base (.slice (some ⟨q, 0, none⟩) m d) m G) (ha : v.ownBlock ≠ some q ∧ q < w.heap.size) (hq : ∀ i, i < n → g i ≠ q) (hn : n ≤ 1000000) (hbase : base ≤ w.heap.size) :
    ∃ v' w', (Builtin.append_ #[36, 36] ty #[v, .slice (some ⟨g1, 0, none⟩) 1 1]).run Try.prog w = .ok v' w' ∧ OwnRows w' base v' (n + 1) (snocN n L m) (snocF n F G) (snocN n c d) (snocN n g q) ∧ Below base w w' := by
  obtain ⟨i0, hi, hz0, hz1, hz2⟩ := info_parts listInfo
  obtain ⟨h1, h2, h3⟩ := hown
  obtain ⟨v', w', hrun, hown', hg, -, hblk⟩ := run_append_own_at (P := Try.prog) w base 36 ty 26 i0 (.slice none 0 0) 1 24 Try.underlying36 hi hz0 hz1 hz2 rfl (by decide) v n (rowVals n L c g) h1 ⟨g1, 0, none⟩ 1 1 [.slice (some ⟨q, 0, none⟩) m d] rfl
    (fun j u hu => by
      match j, hu with
      | 0, hu =>
        simp at hu
        subst hu
        exact hc
      | j + 1, hu => simp at hu)
    (fun u hu => by
      simp at hu
      subst hu
      rfl) (by unfold maxLen; omega) (by omega) hbase
  have hb : Below base w w' := (Below.refl _ _).grown hg hbase (fun k hk => (World.ownsRow.lt h1 k hk).1)
  rw [rowVals_snoc] at hown'
  refine ⟨v', w', hrun, ⟨hown', fun i hi => ?_, fun i j hij hj => ?_⟩, hb⟩
  · have apart : ∀ x, v.ownBlock ≠ some x → x < w.heap.size → v'.ownBlock ≠ some x ∧ x < w'.heap.size := fun x x1 x2 => by
      refine ⟨?_, Nat.lt_of_lt_of_le x2 hg.size⟩
      rcases hblk with y | y
      · rw [y]; exact x1
      · rw [y]; intro z; injection z with z; omega
    by_cases hin : i < n
    · obtain ⟨k1, k2, k3⟩ := h2 i hin
      unfold snocN snocF
      rw [if_pos hin, if_pos hin, if_pos hin, if_pos hin]
      exact ⟨World.ownsRow.kept k1 hg (.inr fun e => k2 e.symm), apart _ k2 k3⟩
    · unfold snocN snocF
      rw [if_neg hin, if_neg hin, if_neg hin, if_neg hin]
      exact ⟨World.ownsRow.kept hr hg (.inr fun e => ha.1 e.symm), apart q ha.1 ha.2⟩
  · unfold snocN
    by_cases hjn : j < n
    · rw [if_pos (by omega), if_pos hjn]; exact h3 i j hij hjn
    · rw [if_pos (by omega), if_neg hjn]; exact hq i (by omega)
theorem wpList_append_row {ops : Array Oper} {rest : List Oper} {o : Oper} {a : Act} {Q : Exit → Act → World → Prop} (w : World) (hgd : o.guard = none) (s x : Operand)
    (ho : o.op = .call { callee := .builtin .append, args := #[s, x], argTypes := #[36, 36] })
    (base : Nat) (v : Value) (n : Nat) (L : Nat → Nat) (F : Nat → Nat → Int) (c g : Nat → Nat) (hs : a.eval s = v) (hown : OwnRows w base v n L F c g)
    (g1 q m d : Nat) (G : Nat → Int) (hx : a.eval x = .slice (some ⟨g1, 0, none⟩) 1 1) (hc : w.cell? ⟨g1, 0, none⟩ = some (.slice (some ⟨q, 0, none⟩) m d)) (hr : OwnInts w base (.slice (some ⟨q, 0, none⟩) m d) m G) (ha : v.ownBlock ≠ some q ∧ q < w.heap.size) (hq : ∀ i, i < n → g i ≠ q) (hn : n ≤ 1000000) (hbase : base ≤ w.heap.size)
    (h : ∀ v' w', OwnRows w' base v' (n + 1) (snocN n L m) (snocF n F G) (snocN n c d) (snocN n g q) → Below base w w' → wpList Try.prog ops Q rest (a.put o.dst v') w') : wpList Try.prog ops Q (o :: rest) a w :=
  wpList_plain hgd fun _ hK => by
    obtain ⟨v', w', hrun, h1, h2⟩ := run_append_row w o.type base v n L F c g hown g1 q m d G hc hr ha hq hn hbase
    unfold Oper.wp execOp
    simp only [ho, resolve, invoke, builtin, Sem.run_bind, Sem.run_pure, Result.andThen_ok, List.map_toArray, List.map_cons, List.map_nil, hs, hx, hrun]
    exact hK _ _ (h v' w' h1 h2)
theorem OwnRows.congr {w : World} {base n : Nat} {v : Value} {L : Nat → Nat} {F : Nat → Nat → Int} {c g : Nat → Nat} (h : OwnRows w base v n L F c g) {L' : Nat → Nat} {F' : Nat → Nat → Int} (e : ∀ i, i < n → L i = L' i ∧ ∀ k, k < L i → F i k = F' i k) : OwnRows w base v n L' F' c g := by
  obtain ⟨h1, h2, h3⟩ := h
  have e1 : rowVals n L c g = rowVals n L' c g := List.map_congr_left fun i hi => by rw [(e i (List.mem_range.1 hi)).1]
  rw [e1] at h1
  refine ⟨h1, fun i hi => ?_, h3⟩
  obtain ⟨k1, k2, k3⟩ := h2 i hi
  rw [← (e i hi).1]
  exact ⟨k1.congr (e i hi).2, k2, k3⟩
theorem ownInts_weak {w : World} {base base' n : Nat} {v : Value} {F : Nat → Int} (h : OwnInts w base v n F) (hb : base' ≤ base) : OwnInts w base' v n F :=
  ⟨h.1, h.2.elim .inl fun ⟨g, cap, cur, e, k, r⟩ => .inr ⟨g, cap, cur, e, Nat.le_trans hb k, r⟩⟩
set_option maxHeartbeats 2000000 in
theorem copyLists_rows (A : Option Addr) (n c : Nat) (L : Nat → Nat) (F : Nat → Nat → Int) (w : World) (hn : n ≤ 100000) (hL : ∀ i, i < n → 0 < L i ∧ L i ≤ 100000) (hI : ListsAt w 0 A n L F) :
    Calls Try.prog 23 #[.slice A n c] w fun e w' => ∃ v, e = .returned v ∧ (∃ c g, OwnRows w' w.heap.size v n L F c g) ∧ Below w.heap.size w w' := by
  have HI := hide hI
  have HL := hide hL
  clear hI hL
  go_enter Try.func23, Try.ntmps23
  go_wp2_with fail
  go_loopw [3, 4] (fun x i wr => ∃ k : Nat, k ≤ n ∧ i = .int .i64 k ∧ Hid (∃ c g, OwnRows wr w.heap.size x k L F c g) ∧ Below w.heap.size w wr) (fun _ i _ => n - (intOf i).toNat)
  case atStart => exact ⟨0, Nat.zero_le _, rfl, hide ⟨fun _ => 0, fun _ => 0, OwnRows.nil_ _ _ _ _ _ _⟩, Below.refl _ _⟩
  case round =>
    obtain ⟨k, hk, rfl, HO, hB⟩ := hrel
    have hBs := hB.size
    by_cases hlt : k < n
    · have hltz : (k : Int) < (n : Int) := by omega
      obtain ⟨b, o, Ai, ci, rfl, -, hb, hcell, hlc, hc9, hIk⟩ := (HI.out.below hB) k hlt
      have hl0 := (HL.out k hlt).1
      obtain ⟨cc, gg, hown⟩ := HO.out
      obtain ⟨As, cs, rfl, hcs, hcs9⟩ := hown.shape
      have HOW := hide hown
      clear hown HO
      go_wp2_with fail
      refine (copyInts_own Ai (L k) ci (F k) _ (by have := (HL.out k hlt).2; omega) hIk).mono ?_
      rintro e w2 ⟨v2, rfl, hown2, hb2⟩
      obtain ⟨q, d, rfl, hq1, hq2⟩ := hown2.row hl0
      have hb2s := hb2.size
      have HNQ := hide (fun i (hi : i < k) => (by have := (HOW.out.2.1 i hi).2.2; omega : gg i ≠ q))
      have HOQ := hide ((⟨fun z => by have h2 := (HOW.out.lt z).2; omega, by simp; omega⟩ : (Value.slice As k cs).ownBlock ≠ some q ∧ q < (w2.alloc (.cells #[.slice (some ⟨q, 0, none⟩) (L k) d] 26)).heap.size))
      have HOI := hide ((ownInts_weak hown2 hBs).alloc (.cells #[.slice (some ⟨q, 0, none⟩) (L k) d] 26))
      have HO2 := hide ((HOW.out.below hb2).alloc (.cells #[.slice (some ⟨q, 0, none⟩) (L k) d] 26))
      clear hown2
      go_wp2_with (at_builtin; refine wpList_append_row _ rfl (.tmp 11) (.tmp 17) rfl w.heap.size (.slice As k cs) k L F cc gg rfl HO2.out w2.heap.size q (L k) d (F k) rfl ((Box.made rfl : Box _ w2.heap.size 26 #[.slice (some ⟨q, 0, none⟩) (L k) d]).at_ 0) HOI.out HOQ.out HNQ.out (by omega) (by simp; omega) ?_; intro v' w' h1 hb3)
      refine ⟨⟨k + 1, by omega, by simp, hide ⟨_, _, h1.congr (fun i hi => ?_)⟩, ((hB.trans (hb2.mono hBs)).alloc (by omega) _).trans hb3⟩, by simp [intOf]; omega⟩
      unfold snocN snocF
      by_cases e : i < k
      · rw [if_pos e, if_pos e]; exact ⟨rfl, fun _ _ => rfl⟩
      · obtain rfl : i = k := by omega
        rw [if_neg e, if_neg e]; exact ⟨rfl, fun _ _ => rfl⟩
    · obtain rfl : k = n := by omega
      go_wp2_with fail
      go_ret
      exact ⟨_, rfl, HO.out, hB⟩
/-- One number of one row changed. -/
theorem OwnRows.turn {w : World} {base n : Nat} {v : Value} {L : Nat → Nat} {F : Nat → Nat → Int} {c g : Nat → Nat} (h : OwnRows w base v n L F c g) {u p : Nat} (x : Int) (hu : u < n) {A : Option Addr} {d : Nat} (hv : v = .slice A n d) :
    ListsAt (w.setCell ⟨g u, p, none⟩ (.int .i64 x)) 0 A n L (turnF F u p x) := by
  obtain ⟨b, d', e, -, -, hb, hne, hcell⟩ := h.form (by omega)
  rw [hv] at e
  injection e with e1 e2 e3
  subst e1
  have hon : w.grownBy (w.setCell ⟨g u, p, none⟩ (.int .i64 x)) (some (g u)) := (Only.refl (g u) w).set_ p (.int .i64 x)
  intro i hi
  obtain ⟨k1, k2, k3⟩ := h.2.1 i hi
  have hcap := k1.cap_any
  refine ⟨b, 0, some ⟨g i, 0, none⟩, c i, rfl, Nat.zero_le _, Nat.lt_of_lt_of_le hb hon.size, ?_, hcap.1, hcap.2, ?_⟩
  · rw [Nat.zero_add]
    exact (World.cell?_of_block (a := ⟨b, i, none⟩) (hon.block b hb (fun e => by injection e with e; exact hne u hu e))).trans (hcell i hi)
  · unfold turnF
    by_cases e : i = u
    · subst e
      rw [if_pos rfl]
      obtain ⟨A', c', e', -, hI⟩ := (k1.set_ p x).form
      injection e' with e1 e2 e3
      rw [← e1] at hI
      exact hI.weak (Nat.zero_le _)
    · rw [if_neg e]
      obtain ⟨A', c', e', -, hI⟩ := k1.form
      injection e' with e1 e2 e3
      rw [← e1] at hI
      refine (hI.weak (Nat.zero_le _)).grown hon fun b' o' e4 => ?_
      injection e4 with e4
      injection e4 with e4 e5
      subst e4
      intro e6
      injection e6 with e6
      rcases Nat.lt_or_gt_of_ne e with h5 | h5
      · exact h.2.2 i u h5 hu e6.symm
      · exact h.2.2 u i h5 hi e6
end Go.Proofs.Ytcpcndacodcopaa
