/- covers, word, Encode of the reference. -/
import Derived.Test.YtjelbemfljobaaaHe
import Derived.Test.YtjelbemfljobaaaEi
import Derived.Test.YtjelbemfljobaaaGa
namespace Go.Proofs.Ytjelbemfljobaaa
open Go.RowKit Go.Shelf
theorem and_half (i j : Nat) : (i &&& j = j) ↔ (¬ (j % 2 = 1 ∧ i % 2 = 0) ∧ (i / 2 &&& j / 2 = j / 2)) := by
  have h1 : (i &&& j) / 2 = i / 2 &&& j / 2 := Nat.and_div_two
  have h2 : (i &&& j) % 2 = (i % 2) * (j % 2) := by
    rw [← Nat.and_one_is_mod, ← Nat.and_one_is_mod, ← Nat.and_one_is_mod]
    have e := Nat.mod_two_eq_zero_or_one i
    have f := Nat.mod_two_eq_zero_or_one j
    rw [← Nat.and_one_is_mod] at e f
    have g : i &&& j &&& 1 = (i &&& 1) &&& (j &&& 1) := by
      apply Nat.eq_of_testBit_eq
      intro b
      simp only [Nat.testBit_and]
      cases i.testBit b <;> cases j.testBit b <;> cases (1 : Nat).testBit b <;> rfl
    rw [g]
    rcases e with e | e <;> rcases f with f | f <;> rw [e, f] <;> rfl
  have e := Nat.mod_two_eq_zero_or_one i
  have f := Nat.mod_two_eq_zero_or_one j
  constructor
  · intro h
    rw [h] at h1 h2
    refine ⟨?_, h1.symm⟩
    rintro ⟨a, b⟩
    rw [a, b] at h2
    omega
  · rintro ⟨a, b⟩
    rw [b] at h1
    have : (i &&& j) % 2 = j % 2 := by
      rw [h2]
      rcases e with e | e <;> rcases f with f | f <;> rw [e, f] <;> omega
    omega
def coversB (i j : Nat) : Bool := i &&& j == j
theorem coversB_zero (i : Nat) : coversB i 0 = true := by simp [coversB]
theorem coversB_no {i j : Nat} (h : j % 2 = 1) (h2 : i % 2 = 0) : coversB i j = false := by
  unfold coversB
  rw [beq_eq_false_iff_ne]
  intro e
  exact ((and_half i j).1 e).1 ⟨h, h2⟩
theorem coversB_half {i j : Nat} (h : ¬ (j % 2 = 1 ∧ i % 2 = 0)) : coversB i j = coversB (i / 2) (j / 2) := by
  unfold coversB
  rw [Bool.eq_iff_iff, beq_iff_eq, beq_iff_eq, and_half i j]
  exact ⟨fun x => x.2, fun x => ⟨h, x⟩⟩
set_option maxHeartbeats 1000000 in
theorem covers_any (i j : Nat) (w : World) (hi : i ≤ 1000000) (hj : j ≤ 1000000) :
    Calls Try.prog 125 #[.int .i64 (i : Int), .int .i64 (j : Int)] w fun e w' => e = .returned (.bool (coversB i j)) ∧ w = w' := by
  obtain ⟨R, hR⟩ : ∃ R, R = coversB i j := ⟨_, rfl⟩
  rw [← hR]
  have HR := hide hR
  clear hR
  go_enter Try.func125, Try.ntmps125
  go_wp2_with fail
  go_loopw [0, 1] (fun a b wr => ∃ x y : Nat, x ≤ 1000000 ∧ y ≤ 1000000 ∧ a = .int .i64 (x : Int) ∧ b = .int .i64 (y : Int) ∧ wr = w ∧ Hid (R = coversB x y)) (fun _ b _ => (intOf b).toNat)
  case atStart => exact ⟨i, j, hi, hj, rfl, rfl, rfl, HR⟩
  case round =>
    obtain ⟨x, y, hx, hy, rfl, rfl, rfl, HZ⟩ := hrel
    by_cases hy0 : y = 0
    · subst hy0
      go_wp2_with fail
      go_ret
      exact ⟨ret_bool (by rw [HZ.out, coversB_zero]), rfl⟩
    · have t0 : decide (0 < y) = true := by simp; omega
      have t0' : decide ((0 : Int) < (y : Int)) = true := by simp; omega
      by_cases h1 : y % 2 = 1
      · have e1 : ((y : Int) % 2 == 1) = true := by simp; omega
        by_cases h2 : x % 2 = 0
        · have e2 : ((x : Int) % 2 == 0) = true := by simp; omega
          have HC := hide (coversB_no h1 h2)
          clear h1 h2
          go_wp2_with fail
          go_ret
          exact ⟨ret_bool (by rw [HZ.out, HC.out]), rfl⟩
        · have e2 : ((x : Int) % 2 == 0) = false := by simp; omega
          have HC := hide (coversB_half (i := x) (j := y) (fun h => h2 h.2))
          clear h1 h2
          go_wp2_with fail
          go_roundw
          case rel => exact ⟨x / 2, y / 2, by omega, by omega, by simp, by simp, trivial, hide (by rw [HZ.out, HC.out])⟩
          case measure => simp [intOf]; omega
      · have e1 : ((y : Int) % 2 == 1) = false := by simp; omega
        have HC := hide (coversB_half (i := x) (j := y) (fun h => h1 h.1))
        clear h1
        go_wp2_with fail
        go_roundw
        case rel => exact ⟨x / 2, y / 2, by omega, by omega, by simp, by simp, trivial, hide (by rw [HZ.out, HC.out])⟩
        case measure => simp [intOf]; omega
/-- The sum at a place, of the first positions. -/
def psum (U : Nat → Int) (j : Nat) : Nat → Int
  | 0 => 0
  | i + 1 => if coversB i j = true then psum U j i + U i else psum U j i
theorem psum_le {U : Nat → Int} {j : Nat} : ∀ {i : Nat}, (∀ k, k < i → IsBit (U k)) → 0 ≤ psum U j i ∧ psum U j i ≤ i
  | 0, _ => by simp [psum]
  | i + 1, h => by
    have h1 := psum_le (U := U) (j := j) (i := i) (fun k hk => h k (by omega))
    have h2 := (h i (by omega)).le
    unfold psum
    split <;> omega
theorem psum_wsum {U : Nat → Int} {j : Nat} : ∀ {i : Nat}, psum U j i % 2 = wsum U j i
  | 0 => rfl
  | i + 1 => by
    have h1 := psum_wsum (U := U) (j := j) (i := i)
    unfold psum wsum coversB
    by_cases h : i &&& j = j
    · rw [if_pos h, if_pos (by simpa using h)]
      unfold xor1
      rw [← h1]
      omega
    · rw [if_neg h, if_neg (by simpa using h)]
      exact h1
set_option maxHeartbeats 1000000 in
theorem wordR_any (A : Option Addr) (n c : Nat) (U : Nat → Int) (w : World) (hn : n ≤ 100000) (hI : IntsAt w 0 A n U) (hU : ∀ k, k < n → IsBit (U k)) :
    Calls Try.prog 107 #[.slice A n c] w fun e w' => ∃ v, e = .returned v ∧ OwnInts w' w.heap.size v n (wordF n U) ∧ Below w.heap.size w w' := by
  have HI := hide hI
  have HU := hide hU
  clear hI hU
  go_enter Try.func107, Try.ntmps107
  go_wp2_with fail
  go_loopw [3, 4] (fun x i wr => ∃ j : Nat, j ≤ n ∧ i = .int .i64 j ∧ OwnInts wr w.heap.size x j (wordF n U) ∧ Below w.heap.size w wr) (fun _ i _ => n - (intOf i).toNat)
  case atStart => exact ⟨0, Nat.zero_le _, rfl, OwnInts.nil_ _ _ _, Below.refl _ _⟩
  case round =>
    obtain ⟨j, hj, rfl, hown, hB⟩ := hrel
    obtain ⟨As, cs, rfl, hcs, hIs⟩ := hown.form
    have hBs := hB.size
    by_cases hlt : j < n
    · have hltz : (j : Int) < (n : Int) := by omega
      have HS := hide (show ∀ i : Nat, i ≤ n → 0 ≤ psum U j i ∧ psum U j i ≤ i from fun i hi => psum_le (fun k hk => HU.out k (by omega)))
      go_wp2_with fail
      go_loopw [5, 6] (fun s i wx => ∃ k : Nat, k ≤ n ∧ i = .int .i64 k ∧ s = .int .i64 (psum U j k) ∧ wx = wr) (fun _ i _ => n - (intOf i).toNat)
      case atStart => exact ⟨0, Nat.zero_le _, rfl, rfl, rfl⟩
      case round =>
        obtain ⟨k, hk, rfl, rfl, rfl⟩ := hrel
        by_cases hlk : k < n
        · have hlkz : (k : Int) < (n : Int) := by omega
          have hI := HI.out.below hB
          obtain ⟨b, o, rfl, -, hb, hcell⟩ := hI k hlk
          have hs9 := HS.out k hk
          have hu9 := (HU.out k hlk).le
          have q1 : IntKind.i64.wrap (psum U j k + U k) = psum U j k + U k := IntWalk.i64_in _ (by omega)
          have HN := hide (show psum U j (k + 1) = if coversB k j = true then psum U j k + U k else psum U j k from rfl)
          generalize psum U j k = s at *
          go_wp2_with fail
          refine (covers_any k j _ (by omega) (by omega)).mono ?_
          rintro e w' ⟨rfl, rfl⟩
          cases hcv : coversB k j
          · have HN' := hide (show psum U j (k + 1) = s from by rw [HN.out, hcv]; rfl)
            clear hcv
            go_wp2_with fail
            go_roundw
            case rel => exact ⟨k + 1, by omega, by go_num, by rw [HN'.out], trivial⟩
            case measure => simp [intOf]; omega
          · have HN' := hide (show psum U j (k + 1) = s + U k from by rw [HN.out, hcv]; rfl)
            clear hcv
            go_wp2_with fail
            go_roundw
            case rel => exact ⟨k + 1, by omega, by go_num, by rw [HN'.out], trivial⟩
            case measure => simp [intOf]; omega
        · obtain rfl : k = n := by omega
          have hs9 := HS.out k hk
          have HE := hide (show psum U j k % 2 = wordF k U j from psum_wsum)
          generalize psum U j k = s at *
          go_wp2_with (at_builtin; refine wpList_append_ints _ rfl (.tmp 28) (.tmp 31) rfl w.heap.size 0 (.slice As j cs) j _ rfl (hown.alloc _) (some ⟨_, 0, none⟩) 1 1 (fun _ => s % 2) rfl (IntsAt.one _ 0 (s % 2) 3 (Nat.zero_le _)) (by omega) (by simp; omega) ?_; intro v' w' h1 hb2)
          refine ⟨⟨j + 1, by omega, by simp, h1.congr (fun x hx => ?_), (hB.alloc hBs _).trans hb2⟩, by simp [intOf]; omega⟩
          unfold catF
          by_cases e : x < j
          · rw [if_pos e]
          · rw [if_neg e, HE.out, show x = j by omega]
    · obtain rfl : j = n := by omega
      go_wp2_with fail
      go_ret
      exact ⟨_, rfl, hown, hB⟩
end Go.Proofs.Ytjelbemfljobaaa
