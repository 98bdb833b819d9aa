/- Lemmas: Bb, Bc, Bd, Wn, Wm. -/
import Derived.BigQuiet
import Derived.Deep.QuietTactic
import Derived.Deep.RegionHeld3
import Derived.Test.YtdkbjgnkehoplaaBy01
import Derived.Test.YtdkbjgnkehoplaaBy07
import Derived.Test.YtdkbjgnkehoplaaBy11
import Derived.Test.YtdkbjgnkehoplaaBy21
set_option linter.unusedVariables false
set_option linter.unusedSimpArgs false
/- Numbers of any size: wideOf, cmpDigits, digit, WideNeg. -/
namespace Go.Proofs.Ytdkbjgnkehoplaa
open Go.RowKit
def sgnT (s : Int) (t : Nat) : Int := if t = 0 then 0 else s
set_option maxHeartbeats 1000000 in
theorem wideOf_any (s : Int) (A : Option Addr) (n c : Nat) (D : Nat → Int) (w : World) (hn : n ≤ 1000) (hc : n ≤ c) (hI : IntsAt w 0 A n D) :
    Calls Try.prog 140 #[.int .i64 s, .slice A n c] w fun e w' => e = .returned (.agg #[.int .i64 (sgnT s (trimN D n)), .slice A (trimN D n) c]) ∧ Below w.heap.size w w' := by
  have HT := hide (fun W (h : IntsAt W 0 A n D) => trimmed_any A n c D W hn hc h)
  have HI := hide hI
  have HS := hide (show sgnT s (trimN D n) = if trimN D n = 0 then 0 else s from rfl)
  have hl := trimN_le D n
  generalize trimN D n = t at *
  clear hI
  have ht9 : t ≤ 1000 := by omega
  by_cases h0 : t = 0
  · have HS2 := hide (HS.out.trans (if_pos h0))
    subst h0
    clear HS
    go_enter Try.func140, Try.ntmps140
    go_upto_region 1 with fail
    obtain ⟨W, hW⟩ : ∃ q : World, q = w.alloc (.cells #[.int .i64 0, .slice none 0 0] 150) := ⟨_, rfl⟩
    rw [← hW]
    have b0 : Box W w.heap.size 150 #[.int .i64 0, .slice none 0 0] := by rw [hW]; exact Box.made rfl
    have hB : Below w.heap.size w W := by rw [hW]; (repeat (first | (with_reducible exact Below.refl _ _) | (with_reducible refine Go.below_drewN ?_ _) | (with_reducible refine Below.drew ?_) | (with_reducible refine Below.alloc ?_ (by first | exact Nat.le_refl _ | (simp; done) | (simp; omega) | omega) _) | (with_reducible refine Below.setCell ?_ (by first | exact Nat.le_refl _ | (simp; done) | (simp; omega) | omega) _)))
    clear hW
    have h0 := b0.at_ 0
    have h1 := b0.at_ 1
    simp only [List.getElem?_toArray] at h0 h1
    have f0 := b0.free 0
    have f1 := b0.free 1
    have hlt := b0.lt
    have HC := hide ((b0.set_ 0 (.int .i64 0)).set_ 1 (.slice A 0 c))
    have HL := hide ((hB.setCell (p := ⟨w.heap.size, 0, none⟩) (Nat.le_refl _) (.int .i64 0)).setCell (p := ⟨w.heap.size, 1, none⟩) (Nat.le_refl _) (.slice A 0 c))
    have HIW := hide (HI.out.below hB)
    clear b0 hB
    go_wp2_with (go_at_call 153; refine (HT.out _ HIW.out).mono ?_; rintro e w' ⟨rfl, rfl⟩)
    clear h0 h1
    have h0 := HC.out.at_ 0
    have h1 := HC.out.at_ 1
    simp only [Array.getElem?_setIfInBounds, List.setIfInBounds_toArray, List.getElem?_toArray] at h0 h1
    refine bodyPost_ret (v := .agg #[.int .i64 0, .slice A 0 c]) ?_ rfl ⟨by rw [HS2.out], HL.out⟩
    simp [results, Try.results140, go_sem, h0, h1]
  · have HS2 := hide (HS.out.trans (if_neg h0))
    have ht : ((t : Int) == 0) = false := by simp; omega
    clear HS h0
    go_enter Try.func140, Try.ntmps140
    go_upto_region 1 with fail
    obtain ⟨W, hW⟩ : ∃ q : World, q = w.alloc (.cells #[.int .i64 0, .slice none 0 0] 150) := ⟨_, rfl⟩
    rw [← hW]
    have b0 : Box W w.heap.size 150 #[.int .i64 0, .slice none 0 0] := by rw [hW]; exact Box.made rfl
    have hB : Below w.heap.size w W := by rw [hW]; (repeat (first | (with_reducible exact Below.refl _ _) | (with_reducible refine Go.below_drewN ?_ _) | (with_reducible refine Below.drew ?_) | (with_reducible refine Below.alloc ?_ (by first | exact Nat.le_refl _ | (simp; done) | (simp; omega) | omega) _) | (with_reducible refine Below.setCell ?_ (by first | exact Nat.le_refl _ | (simp; done) | (simp; omega) | omega) _)))
    clear hW
    have h0 := b0.at_ 0
    have h1 := b0.at_ 1
    simp only [List.getElem?_toArray] at h0 h1
    have f0 := b0.free 0
    have f1 := b0.free 1
    have hlt := b0.lt
    have HC := hide ((b0.set_ 0 (.int .i64 s)).set_ 1 (.slice A t c))
    have HL := hide ((hB.setCell (p := ⟨w.heap.size, 0, none⟩) (Nat.le_refl _) (.int .i64 s)).setCell (p := ⟨w.heap.size, 1, none⟩) (Nat.le_refl _) (.slice A t c))
    have HIW := hide (HI.out.below hB)
    clear b0 hB
    go_wp2_with (go_at_call 153; refine (HT.out _ HIW.out).mono ?_; rintro e w' ⟨rfl, rfl⟩)
    clear h0 h1
    have h0 := HC.out.at_ 0
    have h1 := HC.out.at_ 1
    simp only [Array.getElem?_setIfInBounds, List.setIfInBounds_toArray, List.getElem?_toArray] at h0 h1
    refine bodyPost_ret (v := .agg #[.int .i64 s, .slice A t c]) ?_ rfl ⟨by rw [HS2.out], HL.out⟩
    simp [results, Try.results140, go_sem, h0, h1]
set_option maxHeartbeats 1000000 in
theorem wideNeg_any (s : Int) (A : Option Addr) (n c : Nat) (w : World) (hs : -1 ≤ s ∧ s ≤ 1) :
    Calls Try.prog 155 #[.agg #[.int .i64 s, .slice A n c]] w fun e w' => e = .returned (.agg #[.int .i64 (-s), .slice A n c]) ∧ Below w.heap.size w w' := by
  have q1 : IntKind.i64.wrap (-s) = -s := IntWalk.i64_in _ (by omega)
  clear hs
  go_enter Try.func155, Try.ntmps155
  go_wp2_with fail
  have hb : Box ((w.alloc (.cells #[.int .i64 s, .slice A n c] 150)).alloc (.cells #[.int .i64 (-s), .slice A n c] 150)) (w.heap.size + 1) 150 #[.int .i64 (-s), .slice A n c] := Box.made (by simp)
  have h0 := hb.at_ 0
  have h1 := hb.at_ 1
  simp only [List.getElem?_toArray] at h0 h1
  refine bodyPost_ret (v := .agg #[.int .i64 (-s), .slice A n c]) ?_ rfl ⟨rfl, by (repeat (first | (with_reducible exact Below.refl _ _) | (with_reducible refine Go.below_drewN ?_ _) | (with_reducible refine Below.drew ?_) | (with_reducible refine Below.alloc ?_ (by first | exact Nat.le_refl _ | (simp; done) | (simp; omega) | omega) _) | (with_reducible refine Below.setCell ?_ (by first | exact Nat.le_refl _ | (simp; done) | (simp; omega) | omega) _)))⟩
  simp [results, Try.results155, go_sem, h0, h1]
def digN (n : Nat) (D : Nat → Int) (i : Nat) : Int := if i < n then D i else 0
set_option maxHeartbeats 1000000 in
theorem digit_any (A : Option Addr) (n c : Nat) (D : Nat → Int) (i : Nat) (w : World) (hI : IntsAt w 0 A n D) :
    Calls Try.prog 163 #[.slice A n c, .int .i64 (i : Int)] w fun e w' => e = .returned (.int .i64 (digN n D i)) ∧ w = w' := by
  by_cases h : i < n
  · have hz : (i : Int) < (n : Int) := by omega
    have HV := hide (show digN n D i = D i from if_pos h)
    obtain ⟨b, o, rfl, -, -, x0⟩ := hI i h
    generalize digN n D i = v at *
    generalize D i = x at *
    clear hI h
    go_enter Try.func163, Try.ntmps163
    go_wp2_with fail
    go_ret
    exact ⟨by rw [HV.out]; rfl, rfl⟩
  · have hz : ¬ (i : Int) < (n : Int) := by omega
    have HV := hide (show digN n D i = 0 from if_neg h)
    generalize digN n D i = v at *
    clear hI h
    go_enter Try.func163, Try.ntmps163
    go_wp2_with fail
    go_ret
    exact ⟨by rw [HV.out]; rfl, rfl⟩
set_option maxHeartbeats 2000000 in
theorem cmpDigits_any (A B : Option Addr) (n c m d : Nat) (D E : Nat → Int) (w : World) (hn : n ≤ 1000) (hm : m ≤ 1000) (hI : IntsAt w 0 A n D) (hJ : IntsAt w 0 B m E) (hD : Dig n D) (hE : Dig m E) (hDn : Norm n D) (hEn : Norm m E) :
    Calls Try.prog 160 #[.slice A n c, .slice B m d] w fun e w' => e = .returned (.int .i64 (cmpI (valD D n) (valD E m))) ∧ Below w.heap.size w w' := by
  rcases Nat.lt_trichotomy n m with h | h | h
  · have HV := hide (cmpI_lt (valD_fewer h hD hE hEn))
    have t1 : ((n : Int) != (m : Int)) = true := by simp; omega
    have t2 : (n : Int) < (m : Int) := by omega
    generalize cmpI (valD D n) (valD E m) = v at *
    clear hI hJ hD hE hDn hEn h
    go_enter Try.func160, Try.ntmps160
    go_wp2_with fail
    go_ret
    exact ⟨by rw [HV.out]; rfl, Below.refl _ _⟩
  · subst h
    have HI := hide hI
    have HJ := hide hJ
    have t1 : ((n : Int) != (n : Int)) = false := by simp
    have HLT := hide (fun i (hi : i < n) (h1 : D i < E i) (h2 : ∀ j, i < j → j < n → D j = E j) => cmpI_lt (valD_less hD hE hi h1 h2))
    have HGT := hide (fun i (hi : i < n) (h1 : E i < D i) (h2 : ∀ j, i < j → j < n → D j = E j) => cmpI_gt (valD_less hE hD hi h1 fun j a b => (h2 j a b).symm))
    have HEQ := hide (fun (h2 : ∀ j, j < n → D j = E j) => cmpI_eq (valD_congr n h2))
    have q0 : IntKind.i64.wrap ((n : Int) - 1) = (n : Int) - 1 := IntWalk.i64_in _ (by omega)
    generalize cmpI (valD D n) (valD E n) = v at *
    clear hI hJ hD hE hDn hEn hm
    go_enter Try.func160, Try.ntmps160
    go_wp2_with fail
    go_loopw [5] (fun x wr => ∃ k : Nat, k ≤ n ∧ x = .int .i64 ((k : Int) - 1) ∧ Hid (∀ j, k ≤ j → j < n → D j = E j) ∧ Below w.heap.size w wr) (fun x _ => (Go.RowKit.intOf x + 1).toNat)
    case atStart => exact ⟨n, Nat.le_refl _, rfl, hide (fun j h1 h2 => absurd h2 (by omega)), Below.refl _ _⟩
    case round =>
      obtain ⟨k, hk, rfl, HQ, hB⟩ := hrel
      obtain ⟨wA, rfl⟩ : ∃ x : World, x = wr := ⟨_, rfl⟩
      rcases k with _ | j
      · have hv := HEQ.out fun j hj => HQ.out j (Nat.zero_le _) hj
        have t3 : ¬ (((0 : Nat) : Int) - 1 ≥ 0) := by omega
        go_wp2_with fail
        go_ret
        exact ⟨by first | rfl | (rw [hv]; rfl), hB⟩
      · have e0 : ((j + 1 : Nat) : Int) - 1 = (j : Int) := by omega
        have hjn : (j : Int) < (n : Int) := by omega
        rw [e0]
        have t3 : (j : Int) ≥ 0 := by omega
        have q1 : IntKind.i64.wrap ((j : Int) - 1) = (j : Int) - 1 := IntWalk.i64_in _ (by omega)
        obtain ⟨b, o, rfl, -, -, x0⟩ := (HI.out.below hB) j (by omega)
        obtain ⟨b', o', rfl, -, -, y0⟩ := (HJ.out.below hB) j (by omega)
        have h2 : ∀ q, j < q → q < n → D q = E q := fun q a b => HQ.out q (by omega) b
        have HLj := hide (fun h1 => HLT.out j (by omega) h1 h2)
        have HGj := hide (fun h1 => HGT.out j (by omega) h1 h2)
        have HQj := hide (show D j = E j → ∀ q, j ≤ q → q < n → D q = E q from fun e q a b => by
          by_cases h : q = j
          · rw [h]; exact e
          · exact h2 q (by omega) b)
        generalize D j = x at *
        generalize E j = y at *
        rcases Int.lt_trichotomy x y with h | h | h
        · have hv := HLj.out h
          clear HLj HGj HQj h2
          go_wp2_with fail
          go_quiet (fail)
          go_wp2_with fail
          go_ret
          exact ⟨by first | rfl | (rw [hv]; rfl), ⟨hB.os, hB.tape, hB.output, hB.size, hB.block⟩⟩
        · subst h
          have HN := hide (HQj.out rfl)
          have t4 : ¬ (x < x) := by omega
          have t5 : ¬ (x > x) := by omega
          clear HLj HGj HQj h2
          go_wp2_with fail
          go_quiet (fail)
          go_wp2_with fail
          go_quiet (fail)
          go_wp2_with fail
          go_roundw
          case rel => exact ⟨j, by omega, by first | rfl | go_num, HN, ⟨hB.os, hB.tape, hB.output, hB.size, hB.block⟩⟩
          case measure => (simp [Go.RowKit.intOf]; first | done | omega)
        · have hv := HGj.out h
          have t4 : ¬ (x < y) := by omega
          have t5 : x > y := h
          clear HLj HGj HQj h2 h
          go_wp2_with fail
          go_quiet (fail)
          go_wp2_with fail
          go_quiet (fail)
          go_wp2_with fail
          go_ret
          exact ⟨by first | rfl | (rw [hv]; rfl), ⟨hB.os, hB.tape, hB.output, hB.size, hB.block⟩⟩
  · have HV := hide (cmpI_gt (valD_fewer h hE hD hDn))
    have t1 : ((n : Int) != (m : Int)) = true := by simp; omega
    have t2 : ¬ ((n : Int) < (m : Int)) := by omega
    generalize cmpI (valD D n) (valD E m) = v at *
    clear hI hJ hD hE hDn hEn h
    go_enter Try.func160, Try.ntmps160
    go_wp2_with fail
    go_ret
    exact ⟨by rw [HV.out]; rfl, Below.refl _ _⟩
end Go.Proofs.Ytdkbjgnkehoplaa
/- Numbers of any size: subDigits. -/
namespace Go.Proofs.Ytdkbjgnkehoplaa
open Go.RowKit
/-- The digit i of a difference, and the borrow behind the first i digits. -/
def subB (D G : Nat → Int) : Nat → Int
  | 0 => 0
  | k + 1 => if D k - G k - subB D G k < 0 then 1 else 0
def subD (D G : Nat → Int) (k : Nat) : Int := if D k - G k - subB D G k < 0 then D k - G k - subB D G k + BB else D k - G k - subB D G k
theorem subB_bit {D G : Nat → Int} : ∀ k, subB D G k = 0 ∨ subB D G k = 1
  | 0 => .inl rfl
  | k + 1 => by
    show (if _ then (1 : Int) else 0) = 0 ∨ (if _ then (1 : Int) else 0) = 1
    split
    · exact .inr rfl
    · exact .inl rfl
theorem subD_dig {D G : Nat → Int} {n : Nat} (hD : Dig n D) (hG : Dig n G) : Dig n (subD D G) := fun j hj => by
  obtain ⟨d0, d1⟩ := hD j hj
  obtain ⟨g0, g1⟩ := hG j hj
  have hb := subB_bit (D := D) (G := G) j
  unfold subD
  unfold BB at *
  generalize subB D G j = b at *
  rcases hb with rfl | rfl <;> split <;> omega
theorem subD_val {D G : Nat → Int} : ∀ n, valD (subD D G) n - subB D G n * BB ^ n = valD D n - valD G n
  | 0 => rfl
  | k + 1 => by
    have ih := subD_val (D := D) (G := G) k
    have hs : subD D G k = if D k - G k - subB D G k < 0 then D k - G k - subB D G k + BB else D k - G k - subB D G k := rfl
    show valD (subD D G) k + subD D G k * BB ^ k - (if D k - G k - subB D G k < 0 then (1 : Int) else 0) * BB ^ (k + 1) = valD D k + D k * BB ^ k - (valD G k + G k * BB ^ k)
    rw [Int.pow_succ, Int.mul_comm (BB ^ k) BB]
    generalize subD D G k = z at *
    generalize valD (subD D G) k = V at *
    generalize BB ^ k = p at *
    generalize subB D G k = b at *
    have e1 : (D k - G k - b + BB) * p = D k * p - G k * p - b * p + BB * p := by rw [Int.add_mul, Int.sub_mul, Int.sub_mul]
    have e2 : (D k - G k - b) * p = D k * p - G k * p - b * p := by rw [Int.sub_mul, Int.sub_mul]
    by_cases h : D k - G k - b < 0
    · rw [if_pos h] at hs ⊢
      rw [hs, e1, Int.one_mul]
      omega
    · rw [if_neg h] at hs ⊢
      rw [hs, e2, Int.zero_mul]
      omega
theorem digN_dig {n m : Nat} {E : Nat → Int} (hE : Dig m E) : Dig n (digN m E) := fun j _ => by
  unfold digN
  split
  · rename_i h; exact hE j h
  · exact ⟨Int.le_refl _, by decide⟩
theorem digN_val {m : Nat} {E : Nat → Int} : ∀ n, m ≤ n → valD (digN m E) n = valD E m
  | 0, h => by rw [show m = 0 by omega]; rfl
  | k + 1, h => by
    by_cases e : m = k + 1
    · rw [e]
      exact valD_congr (k + 1) fun j hj => if_pos hj
    · show valD (digN m E) k + digN m E k * BB ^ k = valD E m
      rw [digN_val k (by omega), show digN m E k = 0 from if_neg (by omega), Int.zero_mul, Int.add_zero]
/-- A difference that is not below 0. -/
theorem sub_val {D E : Nat → Int} {n m : Nat} (hD : Dig n D) (hE : Dig m E) (hm : m ≤ n) (h : valD E m ≤ valD D n) : valD (subD D (digN m E)) n = valD D n - valD E m := by
  have h1 := subD_val (D := D) (G := digN m E) n
  rw [digN_val n hm] at h1
  have h2 := (valD_range n (subD_dig hD (digN_dig hE (n := n)))).2
  have hp := pow_pos_BB n
  rcases subB_bit (D := D) (G := digN m E) n with e | e <;> rw [e] at h1
  · rw [Int.zero_mul] at h1; omega
  · rw [Int.one_mul] at h1; omega
set_option maxHeartbeats 4000000 in
set_option maxRecDepth 100000 in
theorem subDigits_any (A B : Option Addr) (n c m d : Nat) (D E : Nat → Int) (w : World) (hn : n ≤ 1000) (hI : IntsAt w 0 A n D) (hJ : IntsAt w 0 B m E) (hD : Dig n D) (hE : Dig m E) :
    Calls Try.prog 161 #[.slice A n c, .slice B m d] w fun e w' => ∃ R r, e = .returned (.slice R (trimN (subD D (digN m E)) n) r) ∧ n ≤ r ∧ IntsAt w' w.heap.size R n (subD D (digN m E)) ∧ Below w.heap.size w w' := by
  obtain ⟨G, hG⟩ : ∃ G, G = digN m E := ⟨_, rfl⟩
  have HI := hide hI
  have HJ := hide hJ
  have HD := hide hD
  have HG := hide (show Dig n G by rw [hG]; exact digN_dig hE)
  have HDI := hide (show ∀ (i : Nat) (W : World), IntsAt W 0 B m E → Calls Try.prog 163 #[.slice B m d, .int .i64 (i : Int)] W fun e w' => e = .returned (.int .i64 (G i)) ∧ w' = W from fun i W h => by rw [hG]; exact (digit_any B m d E i W h).mono fun _ _ h => ⟨h.1, h.2.symm⟩)
  have HT := hide (fun (O : Option Addr) (o9 : Nat) (W : World) (h1 : n ≤ o9) (h2 : IntsAt W 0 O n (subD D G)) => trimmed_any O n o9 (subD D G) W hn h1 h2)
  rw [← hG]
  clear hI hJ hD hE hG
  go_enter Try.func161, Try.ntmps161
  go_wp2_with fail
  go_loopw [5, 6, 7] (fun v b x wr => ∃ k : Nat, k ≤ n ∧ b = .int .i64 (subB D G k) ∧ x = .int .i64 (k : Int) ∧ OwnInts wr w.heap.size v k (subD D G) ∧ Below w.heap.size w wr) (fun _ _ x _ => n - (Go.RowKit.intOf x).toNat)
  case atStart => exact ⟨0, Nat.zero_le _, rfl, rfl, OwnInts.nil_ _ _ _, Below.refl _ _⟩
  case round =>
    obtain ⟨k, hk, rfl, rfl, ho, hB⟩ := hrel
    obtain ⟨wA, rfl⟩ : ∃ x : World, x = wr := ⟨_, rfl⟩
    obtain ⟨O, o9, rfl, ho9, hO⟩ := ho.form
    have hBs := hB.size
    by_cases hlt : k < n
    · have hltz : (k : Int) < (n : Int) := by omega
      obtain ⟨b0, o0, rfl, -, -, x0⟩ := (HI.out.below hB) k hlt
      have HJA := hide (HJ.out.below hB)
      obtain ⟨d0, d1⟩ := HD.out k hlt
      obtain ⟨g0, g1⟩ := HG.out k hlt
      have hb := subB_bit (D := D) (G := G) k
      have HDk := hide (HDI.out k)
      have HS1 := hide (show subB D G (k + 1) = if D k - G k - subB D G k < 0 then 1 else 0 from rfl)
      have HS2 := hide (show subD D G k = if D k - G k - subB D G k < 0 then D k - G k - subB D G k + BB else D k - G k - subB D G k from rfl)
      generalize subB D G k = b at *
      generalize D k = p at *
      generalize G k = q at *
      obtain ⟨f, hf⟩ : ∃ f, f = p - q - b := ⟨_, rfl⟩
      rw [← hf] at HS1 HS2
      unfold BB at d1 g1 HS2
      have q1 : IntKind.i64.wrap (p - q) = p - q := IntWalk.i64_in _ (by omega)
      have q2 : IntKind.i64.wrap (p - q - b) = f := by rw [hf]; exact IntWalk.i64_in _ (by omega)
      have hf9 : -1000000002 ≤ f ∧ f ≤ 1000000002 := by omega
      have HO := hide ho
      have HB := hide hB
      clear hf d0 d1 g0 g1 hb ho hB hO
      by_cases hneg : f < 0
      · obtain ⟨z, hz⟩ : ∃ z, z = f + 1000000000 := ⟨_, rfl⟩
        have q3 : IntKind.i64.wrap (f + 1000000000) = z := by rw [hz]; exact IntWalk.i64_in _ (by omega)
        have HZ := hide (show subD D G k = z by rw [hz, HS2.out, if_pos hneg])
        have HY := hide (show subB D G (k + 1) = 1 by rw [HS1.out, if_pos hneg])
        clear hz HS1 HS2 hf9
        go_wp2_with fail
        go_quiet ((go_at_call 163; exact Calls.quiet_of_same (HDk.out _ HJA.out)))
        clear q1 q2
        go_wp2_with (at_builtin; refine wpList_append_ints _ rfl (.tmp 29) (.tmp 31) rfl w.heap.size 0 (.slice O k o9) k _ rfl ((HO.out.drewN _).alloc _) (some ⟨_, 0, none⟩) 1 1 (fun _ => z) rfl (IntsAt.one _ 0 z 3 (Nat.zero_le _)) (by omega) (by simp; omega) ?_; intro v' w' h1 hb4)
        go_roundw
        case rel =>
          refine ⟨k + 1, by omega, by rw [HY.out], by go_num, h1.congr fun j hj => ?_, ((Go.below_drewN HB.out _).alloc hBs _).trans hb4⟩
          unfold catF
          by_cases e : j < k
          · rw [if_pos e]
          · obtain rfl : j = k := by omega
            rw [if_neg e, HZ.out]
        case measure => simp [Go.RowKit.intOf]; omega
      · obtain ⟨z, hz⟩ : ∃ z, z = f := ⟨_, rfl⟩
        have HZ := hide (show subD D G k = f by rw [HS2.out, if_neg hneg])
        have HY := hide (show subB D G (k + 1) = 0 by rw [HS1.out, if_neg hneg])
        clear hz HS1 HS2 hf9
        go_wp2_with fail
        go_quiet ((go_at_call 163; exact Calls.quiet_of_same (HDk.out _ HJA.out)))
        clear q1 q2
        go_wp2_with (at_builtin; refine wpList_append_ints _ rfl (.tmp 29) (.tmp 31) rfl w.heap.size 0 (.slice O k o9) k _ rfl ((HO.out.drewN _).alloc _) (some ⟨_, 0, none⟩) 1 1 (fun _ => f) rfl (IntsAt.one _ 0 f 3 (Nat.zero_le _)) (by omega) (by simp; omega) ?_; intro v' w' h1 hb4)
        go_roundw
        case rel =>
          refine ⟨k + 1, by omega, by rw [HY.out], by go_num, h1.congr fun j hj => ?_, ((Go.below_drewN HB.out _).alloc hBs _).trans hb4⟩
          unfold catF
          by_cases e : j < k
          · rw [if_pos e]
          · obtain rfl : j = k := by omega
            rw [if_neg e, HZ.out]
        case measure => simp [Go.RowKit.intOf]; omega
    · obtain rfl : k = n := by omega
      have hltz : ¬ ((k : Int) < (k : Int)) := by omega
      have HTk := hide (HT.out O o9 wA ho9 (hO.weak (Nat.zero_le _)))
      clear hlt
      go_wp2_with fail
      refine HTk.out.mono ?_
      rintro e w' ⟨rfl, rfl⟩
      go_wp2_with fail
      go_ret
      exact ⟨O, o9, rfl, ho9, hO, hB⟩
end Go.Proofs.Ytdkbjgnkehoplaa
/- Numbers of any size: the mathematics of a product, and what a number of any size is in memory. -/
namespace Go.Proofs.Ytdkbjgnkehoplaa
open Go.RowKit
theorem valD_set {F : Nat → Int} {p : Nat} {v : Int} : ∀ N, p < N → valD (setF F p v) N = valD F N + (v - F p) * BB ^ p
  | 0, h => absurd h (Nat.not_lt_zero p)
  | k + 1, h => by
    show valD (setF F p v) k + setF F p v k * BB ^ k = valD F k + F k * BB ^ k + (v - F p) * BB ^ p
    by_cases e : p = k
    · subst e
      rw [valD_congr (D := setF F p v) (E := F) p fun j hj => if_neg (show ¬ j = p by omega), show setF F p v p = v from if_pos rfl, Int.sub_mul]
      omega
    · rw [valD_set k (by omega), show setF F p v k = F k from if_neg (by omega)]
      omega
theorem valD_zero : ∀ n, valD (fun _ => 0) n = 0
  | 0 => rfl
  | k + 1 => by
    show valD (fun _ => 0) k + 0 * BB ^ k = 0
    rw [valD_zero k, Int.zero_mul, Int.add_zero]
/-- One step of the schoolbook product. -/
theorem mul_step {F : Nat → Int} {q N k i : Nat} {a b c V0 vb s : Int} (hq : q = i + k) (hN : q < N) (hs : s = F q + a * b + c) (h : valD F N + c * BB ^ q = V0 + a * vb * BB ^ i) :
    valD (setF F q (s % BB)) N + s / BB * BB ^ (q + 1) = V0 + a * (vb + b * BB ^ k) * BB ^ i := by
  rw [valD_set N hN, Int.pow_succ, Int.mul_comm (BB ^ q) BB]
  have hm := Int.emod_add_mul_ediv s BB
  have e1 : s % BB * BB ^ q + s / BB * (BB * BB ^ q) = F q * BB ^ q + a * b * BB ^ q + c * BB ^ q := by
    rw [← Int.mul_assoc, Int.mul_comm (s / BB) BB, ← Int.add_mul, hm, hs, Int.add_mul, Int.add_mul]
  have e2 : a * (vb + b * BB ^ k) * BB ^ i = a * vb * BB ^ i + a * b * BB ^ q := by
    rw [Int.mul_add, Int.add_mul, ← Int.mul_assoc a b, Int.mul_assoc (a * b), ← Int.pow_add, Nat.add_comm k i, hq]
  rw [e2, Int.sub_mul]
  omega
theorem mul_bound {f a b c s : Int} (hs : s = f + a * b + c) (f0 : 0 ≤ f) (f1 : f < BB) (a0 : 0 ≤ a) (a1 : a < BB) (b0 : 0 ≤ b) (b1 : b < BB) (c0 : 0 ≤ c) (c1 : c < BB) :
    0 ≤ a * b ∧ a * b ≤ 999999998000000001 ∧ 0 ≤ s ∧ s < 1000000000000000000 ∧ 0 ≤ s % BB ∧ s % BB < BB ∧ 0 ≤ s / BB ∧ s / BB < BB := by
  unfold BB at *
  have h1 : 0 ≤ a * b := Int.mul_nonneg a0 b0
  have h2 : a * b ≤ 999999999 * 999999999 := Int.mul_le_mul (by omega) (by omega) b0 (by decide)
  omega
/-- A number of any size: its sign and its digits. -/
def WideAt (w : World) (lo : Nat) (V : Value) (m : Nat) (x : Int) : Prop :=
  ∃ (s : Int) (A : Option Addr) (n c : Nat) (D : Nat → Int), V = .agg #[.int .i64 s, .slice A n c] ∧ n ≤ m ∧ n ≤ c ∧ IntsAt w lo A n D ∧ Dig n D ∧ Norm n D ∧ (s = -1 ∨ s = 0 ∨ s = 1) ∧ (s = 0 ↔ n = 0) ∧ x = s * valD D n
theorem WideAt.below {w w' : World} {lo m : Nat} {V : Value} {x : Int} (h : WideAt w lo V m x) (hb : Below w.heap.size w w') : WideAt w' lo V m x := by
  obtain ⟨s, A, n, c, D, h1, h2, h3, h4, h5⟩ := h
  exact ⟨s, A, n, c, D, h1, h2, h3, h4.below hb, h5⟩
theorem WideAt.weak {w : World} {lo lo' m m' : Nat} {V : Value} {x : Int} (h : WideAt w lo V m x) (h1 : lo' ≤ lo) (h2 : m ≤ m') : WideAt w lo' V m' x := by
  obtain ⟨s, A, n, c, D, g1, g2, g3, g4, g5⟩ := h
  exact ⟨s, A, n, c, D, g1, Nat.le_trans g2 h2, g3, g4.weak h1, g5⟩
theorem sgnT_cases {s : Int} {n : Nat} {D : Nat → Int} (hD : Dig n D) (hs : s = 1 ∨ s = -1 ∨ (s = 0 ∧ valD D n = 0)) :
    (sgnT s (trimN D n) = -1 ∨ sgnT s (trimN D n) = 0 ∨ sgnT s (trimN D n) = 1) ∧ (sgnT s (trimN D n) = 0 ↔ trimN D n = 0) ∧ s * valD D n = sgnT s (trimN D n) * valD D (trimN D n) := by
  have hv := trimN_val D n
  have hp := norm_pos (n := trimN D n) (fun j hj => hD j (Nat.lt_of_lt_of_le hj (trimN_le D n))) (trimN_norm D n)
  rw [hv]
  rw [hv] at hp
  unfold sgnT
  by_cases h : trimN D n = 0
  · rw [if_pos h]
    have h0 : valD D n = 0 := by rw [← hv, h]; rfl
    rw [h0]
    exact ⟨.inr (.inl rfl), ⟨fun _ => h, fun _ => rfl⟩, by rw [Int.mul_zero, Int.mul_zero]⟩
  · rw [if_neg h]
    have h1 := hp (by omega)
    refine ⟨by omega, ⟨fun e => ?_, fun e => absurd e h⟩, rfl⟩
    omega
theorem WideAt.of {w : World} {lo m n c : Nat} {A : Option Addr} {D : Nat → Int} {s : Int} (hI : IntsAt w lo A n D) (hD : Dig n D) (hc : n ≤ c) (hm : n ≤ m) (hs : s = 1 ∨ s = -1 ∨ (s = 0 ∧ valD D n = 0)) :
    WideAt w lo (.agg #[.int .i64 (sgnT s (trimN D n)), .slice A (trimN D n) c]) m (s * valD D n) := by
  have ht := trimN_le D n
  obtain ⟨h1, h2, h3⟩ := sgnT_cases hD hs
  exact ⟨_, A, trimN D n, c, D, rfl, by omega, by omega, fun j hj => hI j (by omega), fun j hj => hD j (by omega), trimN_norm D n, h1, h2, h3⟩
theorem WideAt.sign_pos {w : World} {lo m : Nat} {V : Value} {x : Int} (h : WideAt w lo V m x) (hx : 0 < x) :
    ∃ (A : Option Addr) (n c : Nat) (D : Nat → Int), V = .agg #[.int .i64 1, .slice A n c] ∧ n ≤ m ∧ n ≤ c ∧ IntsAt w lo A n D ∧ Dig n D ∧ Norm n D ∧ 0 < n ∧ x = valD D n := by
  obtain ⟨s, A, n, c, D, h1, h2, h3, h4, h5, h6, h7, h8, h9⟩ := h
  have hv := (valD_range n h5).1
  rcases h7 with rfl | rfl | rfl
  · exfalso; omega
  · rw [Int.zero_mul] at h9; omega
  · rw [Int.one_mul] at h9
    exact ⟨A, n, c, D, h1, h2, h3, h4, h5, h6, by have := h8.2; omega, h9⟩
end Go.Proofs.Ytdkbjgnkehoplaa
/- An array by value, indexed. -/
namespace Go.Proofs.Ytdkbjgnkehoplaa
open Go.RowKit
end Go.Proofs.Ytdkbjgnkehoplaa
/- product of the code: a region that draws its order. -/
namespace Go.Proofs.Ytdkbjgnkehoplaa
open Go.RowKit
theorem bstH4 {B : Nat} {w1 W w2 : World} {p0 p1 p2 p3 p4 p5 p6 p7 : Prop} (hb : Below W.heap.size W w2) (h : p0 ∧ p1 ∧ p2 ∧ p3 ∧ p4 ∧ p5 ∧ p6 ∧ p7 ∧ Below B w1 W) (hB : B ≤ w1.heap.size) : Below B w1 w2 := h.2.2.2.2.2.2.2.2.trans (hb.mono (Nat.le_trans hB h.2.2.2.2.2.2.2.2.size))
theorem NumsAt.two {w : World} {b : Nat} {t : TypeId} {x y : Num} (h : Box w b t #[.int .i64 x.a, .int .i64 x.b, .int .i64 x.c, .int .i64 x.d, .int .i64 y.a, .int .i64 y.b, .int .i64 y.c, .int .i64 y.d]) : NumsAt w 0 (some ⟨b, 0, none⟩) 2 (fun i => if i = 0 then x else y) := fun i hi => by
  match i, hi with
  | 0, _ => exact ⟨b, 0, rfl, Nat.zero_le _, h.lt, h.at_ 0, h.at_ 1, h.at_ 2, h.at_ 3⟩
  | 1, _ => exact ⟨b, 0, rfl, Nat.zero_le _, h.lt, h.at_ 4, h.at_ 5, h.at_ 6, h.at_ 7⟩
theorem sum_two (x y : Num) : sumF (fun i => if i = 0 then x else y) 2 = x.add y := by
  show (Num.zero.add (if (0 : Nat) = 0 then x else y)).add (if (1 : Nat) = 0 then x else y) = x.add y
  rw [if_pos rfl, if_neg (by decide)]
  apply Num.same <;> simp [Num.add, Num.zero]
end Go.Proofs.Ytdkbjgnkehoplaa
