/- The error of a segment; whether a number stands in a list; what is joined (without a walk). -/
import Derived.Test.YtjelbemfljobaaaMb
import Derived.Test.YtjelbemfljobaaaMa
namespace Go.Proofs.Ytjelbemfljobaaa
open Go.RowKit Go.Shelf
/-- Are the last d of n bits the remainder of those ahead? -/
def rightB (d t n : Nat) (F : Nat → Int) : Bool := intsB d (remB d t (n - d) F) d (fun j => F (n - d + j))
def segErrI (d t a n : Nat) (F : Nat → Int) : Int := if n = a + d then (if bitsB n F = true then (if rightB d t n F = true then 0 else 21) else 15) else 10
theorem areBits_b (A : Option Addr) (n c : Nat) (F : Nat → Int) (w : World) (hn : n ≤ 100000) (hI : IntsAt w 0 A n F) :
    Calls Try.prog 102 #[.slice A n c] w fun e w' => e = .returned (.bool (bitsB n F)) ∧ Below w.heap.size w w' :=
  (areBits_any A n c F w hn hI).mono fun _ _ ⟨h, q, hq⟩ => ⟨h, by rw [hq]; exact below_drewN (Below.refl _ _) q⟩
set_option maxHeartbeats 2000000 in
theorem segmentError_any (d t a n c : Nat) (A : Option Addr) (F : Nat → Int) (w : World) (h0 : 1 ≤ d) (h1 : d ≤ 16) (t1 : t < 2 ^ d) (a0 : 0 < a) (a9 : a ≤ 1000) (hn : n ≤ 100000) (hnc : n ≤ c) (hc : c ≤ 9223372036854775807) (hI : IntsAt w 0 A n F) :
    Calls Try.prog 90 #[.agg #[.int .i64 (d : Int), .int .i64 (t : Int)], .slice A n c, .int .i64 (a : Int)] w fun e w' => e = .returned (.int .i64 (segErrI d t a n F)) ∧ Below w.heap.size w w' := by
  have HI := hide hI
  have q1 : IntKind.i64.wrap ((a : Int) + (d : Int)) = (a : Int) + (d : Int) := IntWalk.i64_in _ (by omega)
  clear hI
  by_cases hna : n = a + d
  · obtain ⟨b, o, rfl, -, -, -⟩ := HI.out 0 (by omega)
    have t2 : ((n : Int) != (a : Int) + (d : Int)) = false := by simp; omega
    have HAB := hide (fun W hW => areBits_b (some ⟨b, o, none⟩) n c F W hn hW)
    cases hb : bitsB n F
    · have HE := hide (show segErrI d t a n F = 15 from by unfold segErrI; rw [if_pos hna, hb]; rfl)
      rw [hb] at HAB
      generalize segErrI d t a n F = R at *
      clear hna
      go_enter Try.func90, Try.ntmps90
      go_wp2_with fail
      refine (HAB.out _ (HI.out.alloc _)).mono ?_
      rintro e w1 ⟨rfl, hb1⟩
      go_wp2_with fail
      go_ret
      exact ⟨ret_int HE.out.symm, below_of_alloc hb1⟩
    · have hbits := bitsB_iff.1 hb
      have HR := hide (fun W hW => isRight_any d t b o n c F W h0 h1 t1 (by omega) hn hnc hc hW hbits)
      have HE := hide (show segErrI d t a n F = if rightB d t n F = true then 0 else 21 from by unfold segErrI; rw [if_pos hna, hb]; rfl)
      rw [hb] at HAB
      rw [show intsB d (remB d t (n - d) F) d (fun j => F (n - d + j)) = rightB d t n F from rfl] at HR
      generalize segErrI d t a n F = R at *
      clear hna hbits
      cases hr : rightB d t n F
      all_goals
        rw [hr] at HR HE
        go_enter Try.func90, Try.ntmps90
        go_wp2_with fail
        refine (HAB.out _ (HI.out.alloc _)).mono ?_
        rintro e w1 ⟨rfl, hb1⟩
        have bx1 : Box w1 w.heap.size 23 #[.int .i64 (d : Int), .int .i64 (t : Int)] := (Box.made rfl).below hb1
        have hB1 := below_of_alloc hb1
        have x0 := bx1.at_ 0
        have x1 := bx1.at_ 1
        simp only [List.getElem?_toArray] at x0 x1
        have hl := bx1.lt
        go_wp2_with fail
        refine (HR.out _ (HI.out.below hB1)).mono ?_
        rintro e w2 ⟨rfl, hb2⟩
        go_wp2_with fail
        go_ret
        exact ⟨ret_int (by rw [HE.out]; rfl), hB1.trans (hb2.mono hB1.size)⟩
  · have t2 : ((n : Int) != (a : Int) + (d : Int)) = true := by simp; omega
    have HE := hide (show segErrI d t a n F = 10 from if_neg hna)
    generalize segErrI d t a n F = R at *
    clear hna
    go_enter Try.func90, Try.ntmps90
    go_wp2_with fail
    go_ret
    exact ⟨ret_int HE.out.symm, by (repeat (first | (with_reducible exact Below.refl _ _) | (with_reducible refine below_drewN ?_ _) | (with_reducible refine Below.drew ?_) | (with_reducible refine Below.alloc ?_ (by first | exact Nat.le_refl _ | (simp; done) | (simp; omega) | omega) _) | (with_reducible refine Below.setCell ?_ (by first | exact Nat.le_refl _ | (simp; done) | (simp; omega) | omega) _)))⟩
set_option maxHeartbeats 1000000 in
theorem index_any (A : Option Addr) (n c : Nat) (F : Nat → Int) (x : Int) (w : World) (hn : n ≤ 100000) (hI : IntsAt w 0 A n F) :
    Calls Try.prog 118 #[.slice A n c, .int .i64 x] w fun e w' => ∃ r : Int, e = .returned (.int .i64 r) ∧ (0 ≤ r ↔ ∃ j, j < n ∧ F j = x) ∧ w = w' := by
  have HI := hide hI
  clear hI
  go_enter Try.func118, Try.ntmps118
  go_wp2_with fail
  go_loopw [8] (fun i wr => ∃ k : Nat, k ≤ n ∧ i = .int .i64 k ∧ wr = w ∧ Hid (∀ j, j < k → F j ≠ x)) (fun i _ => n - (intOf i).toNat)
  case atStart => exact ⟨0, Nat.zero_le _, rfl, rfl, hide fun j h => absurd h (Nat.not_lt_zero _)⟩
  case round =>
    obtain ⟨k, hk, rfl, rfl, HZ⟩ := hrel
    by_cases hlt : k < n
    · have hltz : (k : Int) < (n : Int) := by omega
      obtain ⟨b, o, rfl, -, hb, hcell⟩ := HI.out k hlt
      by_cases he : F k = x
      · have t1 : (x == F k) = true := by simp [he]
        have HE := hide he
        clear he
        go_wp2_with fail
        go_ret
        exact ⟨_, rfl, ⟨fun _ => ⟨k, hlt, HE.out⟩, fun _ => by omega⟩, rfl⟩
      · have t1 : (x == F k) = false := by simp; exact fun h => he h.symm
        have HE := hide he
        clear he
        go_wp2_with fail
        go_roundw
        case rel => exact ⟨k + 1, by omega, by go_num, trivial, hide fun j hj => (by
          rcases Nat.lt_or_ge j k with h | h
          · exact HZ.out j h
          · obtain rfl : j = k := by omega
            exact HE.out)⟩
        case measure => simp [intOf]; omega
    · obtain rfl : k = n := by omega
      go_wp2_with fail
      go_ret
      exact ⟨_, rfl, ⟨fun h => absurd h (by decide), fun ⟨j, hj, e⟩ => absurd e (HZ.out j hj)⟩, rfl⟩
/-- Does a number stand in a list? -/
def hasB (n : Nat) (F : Nat → Int) (x : Int) : Bool := anyN n fun j => F j == x
theorem hasB_iff {n : Nat} {F : Nat → Int} {x : Int} : hasB n F x = true ↔ ∃ j, j < n ∧ F j = x := by
  unfold hasB
  rw [anyN_iff]
  simp
set_option maxHeartbeats 1000000 in
theorem contains_any (A : Option Addr) (n c : Nat) (F : Nat → Int) (x : Int) (w : World) (hn : n ≤ 100000) (hI : IntsAt w 0 A n F) :
    Calls Try.prog 91 #[.slice A n c, .int .i64 x] w fun e w' => e = .returned (.bool (hasB n F x)) ∧ w = w' := by
  have HI := hide hI
  clear hI
  go_enter Try.func91, Try.ntmps91
  go_wp2_with fail
  refine (index_any A n c F x _ hn HI.out).mono ?_
  rintro e w1 ⟨r, rfl, hr, rfl⟩
  have HR := hide hr
  clear hr
  by_cases h0 : 0 ≤ r
  · have t1 : decide (0 ≤ r) = true := by simpa using h0
    have HE := hide (hasB_iff.2 (HR.out.1 h0))
    clear h0
    go_wp2_with fail
    go_ret
    exact ⟨ret_bool HE.out.symm, rfl⟩
  · have t1 : decide (0 ≤ r) = false := by simpa using h0
    have HE := hide (show hasB n F x = false from by rw [← Bool.not_eq_true, hasB_iff]; exact fun h => h0 (HR.out.2 h))
    clear h0
    go_wp2_with fail
    go_ret
    exact ⟨ret_bool HE.out.symm, rfl⟩
/-- The bits of segments of a bits each, one behind the other. -/
def allF (a : Nat) (F : Nat → Nat → Int) (j : Nat) : Int := F (j / a) (j % a)
theorem allF_snoc {a k : Nat} {F : Nat → Nat → Int} (ha : 0 < a) {j : Nat} (hj : j < k * a + a) : catF (k * a) (allF a F) (F k) j = allF a F j := by
  unfold catF
  by_cases h : j < k * a
  · rw [if_pos h]
  · rw [if_neg h]
    obtain ⟨r, hr⟩ : ∃ r, r = j - k * a := ⟨_, rfl⟩
    have e : j = a * k + r := by rw [Nat.mul_comm]; omega
    unfold allF
    rw [← hr, e, Nat.mul_add_div ha, Nat.mul_add_mod, Nat.div_eq_of_lt (by omega), Nat.mod_eq_of_lt (by omega)]
    rfl
/-- The number of the first error. -/
def firstIdx (g : Nat → Int) : Nat → Nat
  | 0 => 0
  | n + 1 => if firstBad g n = 0 then n else firstIdx g n
theorem firstIdx_at {g : Nat → Int} {k : Nat} (h : firstBad g k = 0) (hk : g k ≠ 0) : ∀ n, k < n → firstIdx g n = k
  | 0, hn => absurd hn (Nat.not_lt_zero _)
  | n + 1, hn => by
    unfold firstIdx
    rcases Nat.lt_or_ge k n with h1 | h1
    · have := firstBad_at h hk n h1
      rw [this, if_neg hk]
      exact firstIdx_at h hk n h1
    · obtain rfl : k = n := by omega
      rw [if_pos h]
/-- What joining n segments gives: an error, the number beside it, and which bits. -/
def joinErrI (x y m len n : Nat) (L : Nat → Nat) (F : Nat → Nat → Int) : Int :=
  if n = cntN x m len then
    (if firstBad (fun i => segErrI x y (aheadN x m len) (L i) (F i)) n = 0 then (if hasB (cntN x m len * aheadN x m len - len) (allF (aheadN x m len) F) 1 = true then 3 else 0)
     else firstBad (fun i => segErrI x y (aheadN x m len) (L i) (F i)) n)
  else 10
def joinNum (x y m len n : Nat) (L : Nat → Nat) (F : Nat → Nat → Int) : Nat :=
  if n = cntN x m len then (if firstBad (fun i => segErrI x y (aheadN x m len) (L i) (F i)) n = 0 then 0 else firstIdx (fun i => segErrI x y (aheadN x m len) (L i) (F i)) n) else 0
def joinF (x m len : Nat) (F : Nat → Nat → Int) (j : Nat) : Int := allF (aheadN x m len) F (cntN x m len * aheadN x m len - len + j)
def GaveJoin (err : Int) (num : Nat) (len : Nat) (G : Nat → Int) (w : World) (e : Ending) (w' : World) : Prop :=
  (∃ v, e = .returned (.tuple #[v, .int .i64 (num : Int), .int .i64 err]) ∧ ((err ≠ 0 ∧ v = .slice none 0 0) ∨ (err = 0 ∧ ∃ A c, v = .slice A len c ∧ IntsAt w' 0 A len G))) ∧ Below w.heap.size w w'
theorem segErr_zero {d t a n : Nat} {F : Nat → Int} (h : segErrI d t a n F = 0) : n = a + d ∧ ∀ k, k < n → IsBit (F k) := by
  unfold segErrI at h
  by_cases h1 : n = a + d
  · rw [if_pos h1] at h
    by_cases h2 : bitsB n F = true
    · exact ⟨h1, bitsB_iff.1 h2⟩
    · rw [if_neg h2] at h; exact absurd h (by decide)
  · rw [if_neg h1] at h; exact absurd h (by decide)
theorem joinErr_def (x y m len n : Nat) (L : Nat → Nat) (F : Nat → Nat → Int) : joinErrI x y m len n L F = if n = cntN x m len then
    (if firstBad (fun i => segErrI x y (aheadN x m len) (L i) (F i)) n = 0 then (if hasB (cntN x m len * aheadN x m len - len) (allF (aheadN x m len) F) 1 = true then 3 else 0)
     else firstBad (fun i => segErrI x y (aheadN x m len) (L i) (F i)) n)
  else 10 := rfl
theorem joinNum_def (x y m len n : Nat) (L : Nat → Nat) (F : Nat → Nat → Int) : joinNum x y m len n L F = if n = cntN x m len then (if firstBad (fun i => segErrI x y (aheadN x m len) (L i) (F i)) n = 0 then 0 else firstIdx (fun i => segErrI x y (aheadN x m len) (L i) (F i)) n) else 0 := rfl
theorem joinF_def (x m len : Nat) (F : Nat → Nat → Int) : joinF x m len F = fun j => allF (aheadN x m len) F (cntN x m len * aheadN x m len - len + j) := rfl
theorem OwnInts.made (w : World) (base g f : Nat) (hb : base ≤ w.heap.size) (hg : g = w.heap.size) (hf : f ≤ maxLen) : OwnInts (w.alloc (.cells (madeCells #[.int .i64 0] f) 3)) base (.slice (some ⟨g, 0, none⟩) f f) f (fun _ => 0) :=
  hg ▸ ⟨by rw [intCells_len, Nat.mul_one], .inr ⟨w.heap.size, f, _, rfl, hb, heap_alloc_new w _, Nat.le_refl _, hf, by simp [madeCells], by
    apply List.ext_getElem?
    intro j
    rw [intCells_get, Nat.mul_one]
    by_cases hj : j < f
    · rw [if_pos hj]; simp [madeCells, hj, Nat.mod_one]
    · rw [if_neg hj]; simp [madeCells, hj]⟩⟩
end Go.Proofs.Ytjelbemfljobaaa
