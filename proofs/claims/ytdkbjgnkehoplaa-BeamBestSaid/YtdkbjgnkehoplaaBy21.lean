/- Lemmas: E61, E16, E17, E27, Bi, Ba. -/
import Derived.Test.YtdkbjgnkehoplaaBy02
import Derived.Test.YtdkbjgnkehoplaaBy03
import Derived.Test.YtdkbjgnkehoplaaBy06
import Derived.Test.YtdkbjgnkehoplaaBy09
import Derived.Test.YtdkbjgnkehoplaaBy11
import Derived.Test.YtdkbjgnkehoplaaBy14
import Derived.Test.YtdkbjgnkehoplaaBy19
import Derived.Test.YtdkbjgnkehoplaaBy20
set_option linter.unusedVariables false
set_option linter.unusedSimpArgs false
/- The reference: Has, BookErr, SweepErr; book of the law. -/
namespace Go.Proofs.Ytdkbjgnkehoplaa
open Go.RowKit Go.Great
def hasB (F : Nat → Int) (n : Nat) (x : Int) : Bool := anyN n fun j => F j == x
set_option maxHeartbeats 2000000 in
set_option maxRecDepth 100000 in
theorem has_any (A : Option Addr) (n c : Nat) (F : Nat → Int) (x : Int) (w : World) (hn : n ≤ 100000) (hI : IntsAt w 0 A n F) :
    Calls Try.prog 26 #[.slice A n c, .int .i64 x] w fun e w' => e = .returned (.bool (hasB F n x)) ∧ Below w.heap.size w w' := by
  have HI := hide hI
  have HQ := hide (show hasB F n x = anyN n (fun j => F j == x) from rfl)
  obtain ⟨V, hV⟩ : ∃ z, hasB F n x = z := ⟨_, rfl⟩
  simp only [hV] at HQ ⊢
  clear hI hV
  go_enter Try.func26, Try.ntmps26
  go_wp2_with fail
  go_loopw [5] (fun i wr => ∃ k : Nat, k ≤ n ∧ i = .int .i64 (k : Int) ∧ Hid (∀ j, j < k → F j ≠ x) ∧ wr = w) (fun i _ => n - (Go.RowKit.intOf i).toNat)
  case atStart => exact ⟨0, Nat.zero_le _, rfl, hide fun j h => absurd h (Nat.not_lt_zero _), rfl⟩
  case round =>
    obtain ⟨k, hk, rfl, HN, rfl⟩ := hrel
    by_cases hlt : k < n
    · have hltz : (k : Int) < (n : Int) := by omega
      obtain ⟨b, o, rfl, -, hb, hc⟩ := HI.out k hlt
      have HF := hide (rfl : F k = F k)
      generalize hf : F k = f at hc
      have HFK := hide hf
      clear hf HF
      by_cases hx : f = x
      · subst hx
        obtain rfl : V = true := by rw [HQ.out, anyN_iff]; exact ⟨k, hlt, by rw [HFK.out]; simp⟩
        clear HQ
        go_wp2_with fail
        go_ret
        exact ⟨rfl, Below.refl _ _⟩
      · have t0 : (f == x) = false := by simpa using hx
        have HX := hide hx
        clear hx
        go_wp2_with fail
        go_roundw
        case rel =>
          exact ⟨k + 1, by omega, by go_num, hide (fun j hj => by
            rcases Nat.lt_or_ge j k with h | h
            · exact HN.out j h
            · obtain rfl : j = k := by omega
              rw [HFK.out]; exact HX.out), by first | rfl | trivial⟩
        case measure => simp [Go.RowKit.intOf]; omega
    · obtain rfl : k = n := by omega
      obtain rfl : V = false := by
        rw [HQ.out, Bool.eq_false_iff]
        intro h
        obtain ⟨j, hj, e⟩ := anyN_iff.1 h
        exact HN.out j hj (by simpa using e)
      clear HQ HN
      go_wp2_with fail
      go_ret
      exact ⟨rfl, Below.refl _ _⟩
/-- The error of a book. -/
def bokE (n : Nat) (L : Nat → Nat) (F : Nat → Nat → Int) : Int := if n = 0 then 10 else if n ≤ 16 then bkE n L F else 8
theorem swE_if (n m : Nat) (L : Nat → Nat) (F : Nat → Nat → Int) (X : Nat → Gau) : swE n L F m X = if bokE n L F = 0 then (if chE m X = 0 then fitE n L m else chE m X) else bokE n L F := by
  have e : ∀ x : Int, (if x = 0 then 0 else x) = x := fun x => by split <;> omega
  show (if unI (decide (0 < n)) 10 = 0 then (if unI (decide ((n : Int) ≤ 16)) 8 = 0 then (if bkE n L F = 0 then (if chE m X = 0 then (if fitE n L m = 0 then 0 else fitE n L m) else chE m X) else bkE n L F) else unI (decide ((n : Int) ≤ 16)) 8) else unI (decide (0 < n)) 10) = _
  rw [e (fitE n L m)]
  unfold bokE
  by_cases h0 : n = 0
  · subst h0
    rfl
  · rw [if_neg h0, show decide (0 < n) = true by simp; omega, if_pos (show unI true 10 = 0 from rfl)]
    by_cases h1 : n ≤ 16
    · rw [if_pos h1, show decide ((n : Int) ≤ 16) = true by simp; omega, if_pos (show unI true 8 = 0 from rfl)]
    · rw [if_neg h1, show decide ((n : Int) ≤ 16) = false by simp; omega]
      rfl
set_option maxHeartbeats 4000000 in
set_option maxRecDepth 100000 in
theorem BookErr_any (A : Option Addr) (n c : Nat) (L : Nat → Nat) (F : Nat → Nat → Int) (w : World) (hn9 : n ≤ 9223372036854775807) (hL : ∀ i, i < n → L i ≤ 9223372036854775807) (hI : BookAt w 0 A n L F) :
    Calls Try.prog 65 #[.slice A n c] w fun e w' => e = .returned (.int .i64 (bokE n L F)) ∧ Below w.heap.size w w' := by
  have HI := hide hI
  have HE := hide (show bokE n L F = if n = 0 then 10 else if n ≤ 16 then bkE n L F else 8 from rfl)
  have HGE := hide (show bkE n L F = badE (fun i => cbE (L i) (F i)) n from rfl)
  have HBE := hide (fun i (hi : i < n) (B : Option Addr) d W (h : IntsAt W 0 B (L i) (F i)) => BeamErr_any B (L i) d (F i) W (hL i hi) h)
  obtain ⟨V, hV⟩ : ∃ z, bokE n L F = z := ⟨_, rfl⟩
  obtain ⟨u, hu⟩ : ∃ z, bkE n L F = z := ⟨_, rfl⟩
  simp only [hV, hu] at HE HGE ⊢
  clear hI hV hu hL
  by_cases h0 : n = 0
  · subst h0
    obtain rfl : V = 10 := HE.out.trans (by rfl)
    clear HE HGE
    go_enter Try.func65, Try.ntmps65
    go_wp2_with fail
    go_ret
    exact ⟨rfl, Below.refl _ _⟩
  have t0 : ((n : Int) == 0) = false := by simp; omega
  have hE := HE.out
  rw [if_neg h0] at hE
  by_cases h8 : n ≤ 16
  case neg =>
    have h8z : (n : Int) > 16 := by omega
    obtain rfl : V = 8 := hE.trans (if_neg h8)
    clear HE HGE h0 h8 hE
    go_enter Try.func65, Try.ntmps65
    go_wp2_with fail
    go_ret
    exact ⟨rfl, Below.refl _ _⟩
  have h8z : ¬ (n : Int) > 16 := by omega
  rw [if_pos h8] at hE
  have HEE := hide hE
  clear HE h0 hE
  go_enter Try.func65, Try.ntmps65
  go_wp2_with fail
  go_loopw [3] (fun i wr => ∃ k : Nat, k ≤ n ∧ i = .int .i64 (k : Int) ∧ Hid (badE (fun i => cbE (L i) (F i)) k = 0) ∧ Hid (Below w.heap.size w wr)) (fun i _ => n - (Go.RowKit.intOf i).toNat)
  case atStart => exact ⟨0, Nat.zero_le _, rfl, hide rfl, hide (Below.refl _ _)⟩
  case round =>
    obtain ⟨k, hk, rfl, HK, HB⟩ := hrel
    obtain ⟨wA, rfl⟩ : ∃ x : World, x = wr := ⟨_, rfl⟩
    by_cases hlt : k < n
    · have hltz : (k : Int) < (n : Int) := by omega
      obtain ⟨b, o, Ai, ci, rfl, -, hb, hcell, -, -, hik⟩ := (HI.out.below HB.out) k hlt
      have HIK := hide hik
      have HBK := hide (HBE.out k hlt Ai ci)
      have HBAD := hide (fun (h : cbE (L k) (F k) ≠ 0) => (badE_at (g := fun i => cbE (L i) (F i)) HK.out h n hlt))
      have HGOOD := hide (fun (h : cbE (L k) (F k) = 0) => (badE_succ (g := fun i => cbE (L i) (F i)) HK.out).trans h)
      obtain ⟨z, hz⟩ : ∃ z, cbE (L k) (F k) = z := ⟨_, rfl⟩
      simp only [hz] at HBK HBAD HGOOD
      obtain ⟨m, hm⟩ : ∃ m, L k = m := ⟨_, rfl⟩
      simp only [hm] at hcell HBK HIK
      clear hz HK hik hm
      go_wp2_with fail
      refine (HBK.out _ HIK.out).mono ?_
      rintro e w2 ⟨rfl, hb2⟩
      have HB2 := hide (HB.out.trans (hb2.mono HB.out.size))
      clear hb2 hcell hb HB
      by_cases hz : z = 0
      · have HKK := hide (HGOOD.out hz)
        subst hz
        clear HBAD HGOOD
        go_wp2_with fail
        go_roundw
        case rel => exact ⟨k + 1, by omega, by go_num, HKK, HB2⟩
        case measure => simp [Go.RowKit.intOf]; omega
      · have tz : (z != 0) = true := by simpa using hz
        obtain rfl : V = z := by rw [HEE.out, HGE.out]; exact HBAD.out hz
        clear HBAD HGOOD hz HEE HGE
        go_wp2_with fail
        go_ret
        exact ⟨rfl, HB2.out⟩
    · obtain rfl : k = n := by omega
      obtain rfl : V = 0 := by rw [HEE.out, HGE.out]; exact HK.out
      clear HEE HGE HK
      go_wp2_with fail
      go_ret
      exact ⟨rfl, HB.out⟩
set_option maxHeartbeats 4000000 in
set_option maxRecDepth 100000 in
theorem SweepErr_any (A B : Option Addr) (n c m d : Nat) (L : Nat → Nat) (F : Nat → Nat → Int) (X : Nat → Gau) (w : World) (hn9 : n ≤ 9223372036854775807) (hm9 : m ≤ 9223372036854775807) (hL : ∀ i, i < n → L i ≤ 9223372036854775807) (hI : BookAt w 0 A n L F) (hJ : GausAt w 0 B m X) :
    Calls Try.prog 17 #[.slice A n c, .slice B m d] w fun e w' => e = .returned (.int .i64 (swE n L F m X)) ∧ Below w.heap.size w w' := by
  have HI := hide hI
  have HJ := hide hJ
  have HE := hide (swE_if n m L F X)
  have HFE := hide (show fitE n L m = badE (fun i => unI ((L i : Int) == (m : Int)) 13) n from rfl)
  have HBK := hide (fun W (h : BookAt W 0 A n L F) => BookErr_any A n c L F W hn9 hL h)
  have HCE := hide (fun W (h : GausAt W 0 B m X) => ChannelErr_any B m d X W hm9 h)
  obtain ⟨V, hV⟩ : ∃ z, swE n L F m X = z := ⟨_, rfl⟩
  obtain ⟨u, hu⟩ : ∃ z, bokE n L F = z := ⟨_, rfl⟩
  obtain ⟨v, hv⟩ : ∃ z, chE m X = z := ⟨_, rfl⟩
  obtain ⟨x, hx⟩ : ∃ z, fitE n L m = z := ⟨_, rfl⟩
  simp only [hV, hu, hv, hx] at HE HFE HBK HCE ⊢
  clear hI hJ hV hu hv hx hL
  go_enter Try.func17, Try.ntmps17
  go_wp2_with fail
  refine (HBK.out _ HI.out).mono ?_
  rintro e w1 ⟨rfl, hb1⟩
  have HB1 := hide hb1
  clear hb1 HBK
  by_cases h0 : u = 0
  case neg =>
    have tv : (u != 0) = true := by simpa using h0
    obtain rfl : V = u := HE.out.trans (if_neg h0)
    clear HE h0 HFE
    go_wp2_with fail
    go_ret
    exact ⟨rfl, HB1.out⟩
  have hE := HE.out
  rw [if_pos h0] at hE
  subst h0
  clear HE
  have HE := hide hE
  clear hE
  go_wp2_with fail
  refine (HCE.out _ (HJ.out.below HB1.out)).mono ?_
  rintro e w2 ⟨rfl, hb2⟩
  have HB2 := hide (HB1.out.trans (hb2.mono HB1.out.size))
  clear hb2 HB1 HCE
  by_cases h0 : v = 0
  case neg =>
    have tv : (v != 0) = true := by simpa using h0
    obtain rfl : V = v := HE.out.trans (if_neg h0)
    clear HE h0 HFE
    go_wp2_with fail
    go_ret
    exact ⟨rfl, HB2.out⟩
  have HE2 := hide (HE.out.trans (if_pos h0))
  subst h0
  clear HE
  go_wp2_with fail
  go_loopw [7] (fun i wr => ∃ k : Nat, k ≤ n ∧ i = .int .i64 (k : Int) ∧ Hid (badE (fun i => unI ((L i : Int) == (m : Int)) 13) k = 0) ∧ wr = w2) (fun i _ => n - (Go.RowKit.intOf i).toNat)
  case atStart => exact ⟨0, Nat.zero_le _, rfl, hide rfl, rfl⟩
  case round =>
    obtain ⟨k, hk, rfl, HK, rfl⟩ := hrel
    by_cases hlt : k < n
    · have hltz : (k : Int) < (n : Int) := by omega
      obtain ⟨b, o, Ai, ci, rfl, -, hb, hcell, -, -, -⟩ := (HI.out.below HB2.out) k hlt
      have HBAD := hide (fun (h : unI ((L k : Int) == (m : Int)) 13 ≠ 0) => (badE_at (g := fun i => unI ((L i : Int) == (m : Int)) 13) HK.out h n hlt))
      have HGOOD := hide (fun (h : unI ((L k : Int) == (m : Int)) 13 = 0) => (badE_succ (g := fun i => unI ((L i : Int) == (m : Int)) 13) HK.out).trans h)
      obtain ⟨l, hl⟩ : ∃ l, L k = l := ⟨_, rfl⟩
      simp only [hl] at hcell HBAD HGOOD
      clear hl HK
      by_cases hlm : (l : Int) = (m : Int)
      · have t1 : ((l : Int) != (m : Int)) = false := by simpa using hlm
        have HKK := hide (HGOOD.out (by rw [show ((l : Int) == (m : Int)) = true by simpa using hlm]; rfl))
        clear HBAD HGOOD hlm
        go_wp2_with fail
        go_roundw
        case rel => exact ⟨k + 1, by omega, by go_num, HKK, by first | rfl | trivial⟩
        case measure => simp [Go.RowKit.intOf]; omega
      · have t1 : ((l : Int) != (m : Int)) = true := by simpa using hlm
        have e13 : unI ((l : Int) == (m : Int)) 13 = 13 := by rw [show ((l : Int) == (m : Int)) = false by simpa using hlm]; rfl
        obtain rfl : V = 13 := by rw [HE2.out, HFE.out, HBAD.out (by rw [e13]; decide)]; exact e13
        clear HBAD HGOOD hlm HE2 HFE e13
        go_wp2_with fail
        go_ret
        exact ⟨rfl, HB2.out⟩
    · obtain rfl : k = n := by omega
      obtain rfl : V = 0 := by rw [HE2.out, HFE.out]; exact HK.out
      clear HE2 HFE HK
      go_wp2_with fail
      go_ret
      exact ⟨rfl, HB2.out⟩
/-- What the law asks of a book. -/
def bookB (n : Nat) (L : Nat → Nat) : Bool := (decide (n ≤ 6) || (decide (16 < n) && decide (n ≤ 18))) && !anyN n fun i => decide (10 < L i)
theorem bookB_true {n : Nat} {L : Nat → Nat} (h : bookB n L = true) : n ≤ 18 ∧ ∀ i, i < n → L i ≤ 10 := by
  unfold bookB at h
  simp only [Bool.and_eq_true, Bool.or_eq_true, decide_eq_true_eq, Bool.not_eq_true'] at h
  refine ⟨by omega, fun i hi => ?_⟩
  rcases Nat.lt_or_ge 10 (L i) with h1 | h1
  · have : anyN n (fun i => decide (10 < L i)) = true := anyN_iff.2 ⟨i, hi, by simpa using h1⟩
    rw [h.2] at this
    cases this
  · exact h1
set_option maxHeartbeats 4000000 in
set_option maxRecDepth 100000 in
theorem book_any (A : Option Addr) (n c : Nat) (L : Nat → Nat) (F : Nat → Nat → Int) (w : World) (hn9 : n ≤ 9223372036854775807) (hI : BookAt w 0 A n L F) :
    Calls Try.prog 11 #[.slice A n c] w fun e w' => e = .returned (.bool (bookB n L)) ∧ Below w.heap.size w w' := by
  have HI := hide hI
  have HQ := hide (show bookB n L = ((decide (n ≤ 6) || (decide (16 < n) && decide (n ≤ 18))) && !anyN n fun i => decide (10 < L i)) from rfl)
  obtain ⟨V, hV⟩ : ∃ z, bookB n L = z := ⟨_, rfl⟩
  simp only [hV] at HQ ⊢
  clear hI hV
  have hsplit : (n ≤ 6 ∨ (16 < n ∧ n ≤ 18)) ∨ (6 < n ∧ n ≤ 16) ∨ 18 < n := by omega
  rcases hsplit with h | h | h
  rotate_left
  · obtain rfl : V = false := by rw [HQ.out, show decide (n ≤ 6) = false by simp; omega, show decide (16 < n) = false by simp; omega]; rfl
    have h1 : (n : Int) > 6 := by omega
    have h2 : (n : Int) ≤ 16 := by omega
    have h3 : 6 < n := by omega
    have h4 : n ≤ 16 := by omega
    clear HQ h
    go_enter Try.func11, Try.ntmps11
    go_wp2_with fail
    go_ret
    exact ⟨rfl, Below.refl _ _⟩
  · obtain rfl : V = false := by rw [HQ.out, show decide (n ≤ 6) = false by simp; omega, show decide (n ≤ 18) = false by simp; omega]; simp
    have h1 : (n : Int) > 6 := by omega
    have h2 : ¬ (n : Int) ≤ 16 := by omega
    have h3 : (n : Int) > 18 := by omega
    have h4 : 6 < n := by omega
    have h5 : 18 < n := by omega
    clear HQ
    go_enter Try.func11, Try.ntmps11
    go_wp2_with fail
    go_ret
    exact ⟨rfl, Below.refl _ _⟩
  have HQ2 := hide (show V = !anyN n fun i => decide (10 < L i) by
    rw [HQ.out]
    rcases h with h | ⟨h, h'⟩
    · rw [show decide (n ≤ 6) = true by simpa using h]; rfl
    · rw [show decide (16 < n) = true by simpa using h, show decide (n ≤ 18) = true by simpa using h']; simp)
  have HAN := hide (fun (B : Option Addr) m d W => antennas_any B m d W)
  clear HQ
  rcases h with h | ⟨h, h'⟩
  · have h1 : ¬ (n : Int) > 6 := by omega
    have h2 : ¬ (n : Int) > 18 := by omega
    have h3 : ¬ 6 < n := by omega
    have h4 : ¬ 18 < n := by omega
    clear h
    go_enter Try.func11, Try.ntmps11
    go_wp2_with fail
    go_loopw [3] (fun i wr => ∃ k : Nat, k ≤ n ∧ i = .int .i64 (k : Int) ∧ Hid (∀ i, i < k → L i ≤ 10) ∧ Hid (Below w.heap.size w wr)) (fun i _ => n - (Go.RowKit.intOf i).toNat)
    case atStart => exact ⟨0, Nat.zero_le _, rfl, hide fun j h => absurd h (Nat.not_lt_zero _), hide (Below.refl _ _)⟩
    case round =>
      obtain ⟨k, hk, rfl, HK, HB⟩ := hrel
      obtain ⟨wA, rfl⟩ : ∃ x : World, x = wr := ⟨_, rfl⟩
      by_cases hlt : k < n
      · have hltz : (k : Int) < (n : Int) := by omega
        obtain ⟨b, o, Ai, ci, rfl, -, hb, hcell, -, -, -⟩ := (HI.out.below HB.out) k hlt
        have HLK := hide (rfl : L k = L k)
        generalize hl : L k = l at hcell
        have HLL := hide hl
        clear hl HLK
        have HA := hide (fun W => HAN.out Ai l ci W)
        by_cases h10 : l ≤ 10
        · have HA2 := hide (fun W => (show Calls Try.prog 62 #[.agg #[.slice Ai l ci]] W fun e w' => e = .returned (.bool true) ∧ Below W.heap.size W w' by
            have := HA.out W
            rw [show decide ((l : Int) ≤ 10) = true by simp; omega] at this
            exact this))
          clear HA HAN
          go_wp2_with fail
          refine (HA2.out _).mono ?_
          rintro e w2 ⟨rfl, hb2⟩
          have HB2 := hide (HB.out.trans (hb2.mono HB.out.size))
          clear hb2 hcell hb HB HA2
          go_wp2_with fail
          go_roundw
          case rel =>
            exact ⟨k + 1, by omega, by go_num, hide (fun j hj => by
              rcases Nat.lt_or_ge j k with h | h
              · exact HK.out j h
              · obtain rfl : j = k := by omega
                rw [HLL.out]; exact h10), HB2⟩
          case measure => simp [Go.RowKit.intOf]; omega
        · have HA2 := hide (fun W => (show Calls Try.prog 62 #[.agg #[.slice Ai l ci]] W fun e w' => e = .returned (.bool false) ∧ Below W.heap.size W w' by
            have := HA.out W
            rw [show decide ((l : Int) ≤ 10) = false by simp; omega] at this
            exact this))
          obtain rfl : V = false := by
            rw [HQ2.out, show (anyN n fun i => decide (10 < L i)) = true from anyN_iff.2 ⟨k, hlt, by rw [HLL.out]; simpa using h10⟩]; rfl
          clear HA HAN HQ2 h10
          go_wp2_with fail
          refine (HA2.out _).mono ?_
          rintro e w2 ⟨rfl, hb2⟩
          have HB2 := hide (HB.out.trans (hb2.mono HB.out.size))
          clear hb2 hcell hb HB HA2
          go_wp2_with fail
          go_ret
          exact ⟨rfl, HB2.out⟩
      · obtain rfl : k = n := by omega
        obtain rfl : V = true := by
          rw [HQ2.out, show (anyN k fun i => decide (10 < L i)) = false by
            rw [Bool.eq_false_iff]
            intro h
            obtain ⟨j, hj, e⟩ := anyN_iff.1 h
            have := HK.out j hj
            have : 10 < L j := by simpa using e
            omega]
          rfl
        clear HQ2 HK HAN
        go_wp2_with fail
        go_ret
        exact ⟨rfl, HB.out⟩
  · have h1 : (n : Int) > 6 := by omega
    have h2 : ¬ (n : Int) ≤ 16 := by omega
    have h3 : ¬ (n : Int) > 18 := by omega
    have h4 : 6 < n := by omega
    have h5 : ¬ n ≤ 16 := by omega
    have h6 : ¬ 18 < n := by omega
    clear h h'
    go_enter Try.func11, Try.ntmps11
    go_wp2_with fail
    go_loopw [3] (fun i wr => ∃ k : Nat, k ≤ n ∧ i = .int .i64 (k : Int) ∧ Hid (∀ i, i < k → L i ≤ 10) ∧ Hid (Below w.heap.size w wr)) (fun i _ => n - (Go.RowKit.intOf i).toNat)
    case atStart => exact ⟨0, Nat.zero_le _, rfl, hide fun j h => absurd h (Nat.not_lt_zero _), hide (Below.refl _ _)⟩
    case round =>
      obtain ⟨k, hk, rfl, HK, HB⟩ := hrel
      obtain ⟨wA, rfl⟩ : ∃ x : World, x = wr := ⟨_, rfl⟩
      by_cases hlt : k < n
      · have hltz : (k : Int) < (n : Int) := by omega
        obtain ⟨b, o, Ai, ci, rfl, -, hb, hcell, -, -, -⟩ := (HI.out.below HB.out) k hlt
        have HLK := hide (rfl : L k = L k)
        generalize hl : L k = l at hcell
        have HLL := hide hl
        clear hl HLK
        have HA := hide (fun W => HAN.out Ai l ci W)
        by_cases h10 : l ≤ 10
        · have HA2 := hide (fun W => (show Calls Try.prog 62 #[.agg #[.slice Ai l ci]] W fun e w' => e = .returned (.bool true) ∧ Below W.heap.size W w' by
            have := HA.out W
            rw [show decide ((l : Int) ≤ 10) = true by simp; omega] at this
            exact this))
          clear HA HAN
          go_wp2_with fail
          refine (HA2.out _).mono ?_
          rintro e w2 ⟨rfl, hb2⟩
          have HB2 := hide (HB.out.trans (hb2.mono HB.out.size))
          clear hb2 hcell hb HB HA2
          go_wp2_with fail
          go_roundw
          case rel =>
            exact ⟨k + 1, by omega, by go_num, hide (fun j hj => by
              rcases Nat.lt_or_ge j k with h | h
              · exact HK.out j h
              · obtain rfl : j = k := by omega
                rw [HLL.out]; exact h10), HB2⟩
          case measure => simp [Go.RowKit.intOf]; omega
        · have HA2 := hide (fun W => (show Calls Try.prog 62 #[.agg #[.slice Ai l ci]] W fun e w' => e = .returned (.bool false) ∧ Below W.heap.size W w' by
            have := HA.out W
            rw [show decide ((l : Int) ≤ 10) = false by simp; omega] at this
            exact this))
          obtain rfl : V = false := by
            rw [HQ2.out, show (anyN n fun i => decide (10 < L i)) = true from anyN_iff.2 ⟨k, hlt, by rw [HLL.out]; simpa using h10⟩]; rfl
          clear HA HAN HQ2 h10
          go_wp2_with fail
          refine (HA2.out _).mono ?_
          rintro e w2 ⟨rfl, hb2⟩
          have HB2 := hide (HB.out.trans (hb2.mono HB.out.size))
          clear hb2 hcell hb HB HA2
          go_wp2_with fail
          go_ret
          exact ⟨rfl, HB2.out⟩
      · obtain rfl : k = n := by omega
        obtain rfl : V = true := by
          rw [HQ2.out, show (anyN k fun i => decide (10 < L i)) = false by
            rw [Bool.eq_false_iff]
            intro h
            obtain ⟨j, hj, e⟩ := anyN_iff.1 h
            have := HK.out j hj
            have : 10 < L j := by simpa using e
            omega]
          rfl
        clear HQ2 HK HAN
        go_wp2_with fail
        go_ret
        exact ⟨rfl, HB.out⟩
end Go.Proofs.Ytdkbjgnkehoplaa
/- PanelErr, used, WantsErr and CheckSplit of the reference; CheckSplit of the code. -/
namespace Go.Proofs.Ytdkbjgnkehoplaa
open Go.RowKit Go.Great
theorem firstE_cons' (e : Int) (r : List Int) : firstE (e :: r) = if e = 0 then firstE r else e := rfl
theorem paE_ref (P M : Int) : paE P M = if withinB P 0 1000000 = true ∧ withinB M 0 1000000 = true then 0 else 2 := by
  unfold paE inE
  cases withinB P 0 1000000 <;> cases withinB M 0 1000000 <;> rfl
/-- The errors of CheckSplit, and what a split uses. -/
def csE (P M : Int) (n : Nat) (X : Nat → Int) : Int := firstE [paE P M, unI (decide ((n : Int) ≤ 12)) 8, badE (fun j => inE 0 M (X j)) n]
def csC (P M : Int) (n : Nat) (X : Nat → Int) : Int := if csE P M n X = 0 then (if P < usN M X n then 24 else 0) else csE P M n X
def csV (P M : Int) (n : Nat) (X : Nat → Int) : Int := if csC P M n X = 0 then usN M X n else 0
theorem csE_zero {P M : Int} {n : Nat} {X : Nat → Int} (h : csE P M n X = 0) : ((0 ≤ P ∧ P ≤ 1000000) ∧ 0 ≤ M ∧ M ≤ 1000000) ∧ n ≤ 12 ∧ ∀ j, j < n → 0 ≤ X j ∧ X j ≤ M := by
  obtain ⟨h1, h2⟩ := firstE_none2 h
  obtain ⟨h3, h4⟩ := firstE_none2 h2
  obtain ⟨h5, -⟩ := firstE_none2 h4
  have h3 := unI_none (by decide) h3
  simp at h3
  exact ⟨paE_zero h1, by omega, fun j hj => withinB_iff.1 (unI_none (by decide) (badE_none h5 j hj))⟩
end Go.Proofs.Ytdkbjgnkehoplaa
/- CheckSplit and SplitOf of the reference. -/
namespace Go.Proofs.Ytdkbjgnkehoplaa
open Go.RowKit Go.Great
theorem IntsAt.cell {w : World} {lo b o n k : Nat} {F : Nat → Int} (h : IntsAt w lo (some ⟨b, o, none⟩) n F) (hk : k < n) : w.cell? ⟨b, o + k, none⟩ = some (.int .i64 (F k)) := by
  obtain ⟨b', o', e, -, -, hc⟩ := h k hk
  injection e with e; injection e with e1 e2; subst e1; subst e2
  exact hc
end Go.Proofs.Ytdkbjgnkehoplaa
/- turn, plus and ResponseOf of the reference. -/
namespace Go.Proofs.Ytdkbjgnkehoplaa
open Go.RowKit Go.Great
set_option maxHeartbeats 2000000 in
theorem turn_any (x : Num) (n : Int) (w : World) (hx : x.Within 4611686018427387904) :
    Calls Try.prog 75 #[.agg #[.int .i64 x.a, .int .i64 x.b, .int .i64 x.c, .int .i64 x.d], .int .i64 n] w fun e w' => e = .returned (.agg #[.int .i64 (x.turns (n % 8).toNat).a, .int .i64 (x.turns (n % 8).toNat).b, .int .i64 (x.turns (n % 8).toNat).c, .int .i64 (x.turns (n % 8).toNat).d]) ∧ Below w.heap.size w w' := by
  have HX := hide hx
  clear hx
  obtain ⟨k, hk⟩ : ∃ k, k = (n % 8).toNat := ⟨_, rfl⟩
  have hkz : n % 8 = (k : Int) := by have := Int.emod_nonneg n (show (8 : Int) ≠ 0 by decide); omega
  have hk8 : k < 8 := by have := Int.emod_lt_of_pos n (show (0 : Int) < 8 by decide); omega
  rw [← hk]
  have HM := hide (fun W => mod8 n W)
  rw [hkz] at HM
  clear hk hkz
  go_enter Try.func75, Try.ntmps75
  go_wp2_with fail
  go_loopw [5] (fun i wr => ∃ j : Nat, j ≤ k ∧ i = .int .i64 (j : Int) ∧ Box wr w.heap.size 109 #[.int .i64 (x.turns j).a, .int .i64 (x.turns j).b, .int .i64 (x.turns j).c, .int .i64 (x.turns j).d] ∧ Box wr (w.heap.size + 1) 109 #[.int .i64 0, .int .i64 0, .int .i64 0, .int .i64 0] ∧ Below w.heap.size w wr) (fun i _ => k - (Go.RowKit.intOf i).toNat)
  case atStart => exact ⟨0, Nat.zero_le _, rfl, (Box.made rfl).alloc _, Box.made (by simp), by (repeat (first | (with_reducible exact Below.refl _ _) | (with_reducible refine Go.below_drewN ?_ _) | (with_reducible refine Below.drew ?_) | (with_reducible refine Below.alloc ?_ (by first | exact Nat.le_refl _ | (simp; done) | (simp; omega) | omega) _) | (with_reducible refine Below.setCell ?_ (by first | exact Nat.le_refl _ | (simp; done) | (simp; omega) | omega) _)))⟩
  case round =>
    obtain ⟨j, hj, rfl, bx, by', hB⟩ := hrel
    have hy := HX.out.turns j
    have HT := hide (show x.turns (j + 1) = (x.turns j).turn from rfl)
    obtain ⟨y, hyx⟩ : ∃ y, x.turns j = y := ⟨_, rfl⟩
    rw [hyx] at bx hy HT
    have HYX := hide hyx
    clear hyx
    obtain ⟨h1, h2, h3, h4⟩ := hy
    obtain ⟨z0, z1, z2, z3, f0, f1, f2, f3, hl⟩ := bx.cells4
    by_cases hlt : j < k
    · have hltz : (j : Int) < (k : Int) := by omega
      have q1 : IntKind.i64.wrap (-y.d) = -y.d := IntWalk.i64_in _ (by omega)
      have HBX := hide (bx.put4 (.int .i64 (-y.d)) (.int .i64 y.a) (.int .i64 y.b) (.int .i64 y.c))
      have HBY := hide (by'.other4 (c := w.heap.size) (by omega) (.int .i64 (-y.d)) (.int .i64 y.a) (.int .i64 y.b) (.int .i64 y.c))
      have HBL := hide (Below.put4 hB (Nat.le_refl _) (.int .i64 (-y.d)) (.int .i64 y.a) (.int .i64 y.b) (.int .i64 y.c))
      clear bx by' hB h1 h2 h3 h4
      go_wp2_with (go_at_call 120; refine (HM.out _).mono ?_; rintro e w' ⟨rfl, rfl⟩)
      go_roundw
      case rel => exact ⟨j + 1, by omega, by go_num, by rw [HT.out]; exact HBX.out, HBY.out, HBL.out⟩
      case measure => simp [Go.RowKit.intOf]; omega
    · obtain rfl : j = k := by omega
      obtain ⟨y0, y1, y2, y3, g0, g1, g2, g3, hl'⟩ := by'.cells4
      have HBY := hide (by'.put4 (.int .i64 y.a) (.int .i64 y.b) (.int .i64 y.c) (.int .i64 y.d))
      have HBL := hide (Below.put4 hB (Nat.le_succ _) (.int .i64 y.a) (.int .i64 y.b) (.int .i64 y.c) (.int .i64 y.d))
      clear bx by' hB h1 h2 h3 h4
      go_wp2_with (go_at_call 120; refine (HM.out _).mono ?_; rintro e w' ⟨rfl, rfl⟩)
      refine bodyPost_ret (v := .agg #[.int .i64 y.a, .int .i64 y.b, .int .i64 y.c, .int .i64 y.d]) ?_ rfl ⟨by rw [HYX.out], HBL.out⟩
      obtain ⟨y0, y1, y2, y3, -⟩ := HBY.out.cells4
      simp [results, Try.results75, go_sem, y0, y1, y2, y3]

set_option maxHeartbeats 2000000 in
set_option maxRecDepth 100000 in
theorem plus_any (x y : Num) (M : Int) (w : World) (hx : (x.add y).Within M) (hM : M ≤ 9223372036854775807) :
    Calls Try.prog 74 #[.agg #[.int .i64 x.a, .int .i64 x.b, .int .i64 x.c, .int .i64 x.d], .agg #[.int .i64 y.a, .int .i64 y.b, .int .i64 y.c, .int .i64 y.d]] w fun e w' => e = .returned (.agg #[.int .i64 (x.add y).a, .int .i64 (x.add y).b, .int .i64 (x.add y).c, .int .i64 (x.add y).d]) ∧ Below w.heap.size w w' := by
  obtain ⟨h1, h2, h3, h4⟩ := hx
  have q1 : IntKind.i64.wrap (x.a + y.a) = x.a + y.a := IntWalk.i64_in _ (by have : -M ≤ x.a + y.a ∧ x.a + y.a ≤ M := h1; omega)
  have q2 : IntKind.i64.wrap (x.b + y.b) = x.b + y.b := IntWalk.i64_in _ (by have : -M ≤ x.b + y.b ∧ x.b + y.b ≤ M := h2; omega)
  have q3 : IntKind.i64.wrap (x.c + y.c) = x.c + y.c := IntWalk.i64_in _ (by have : -M ≤ x.c + y.c ∧ x.c + y.c ≤ M := h3; omega)
  have q4 : IntKind.i64.wrap (x.d + y.d) = x.d + y.d := IntWalk.i64_in _ (by have : -M ≤ x.d + y.d ∧ x.d + y.d ≤ M := h4; omega)
  clear h1 h2 h3 h4 hM
  go_enter Try.func74, Try.ntmps74
  go_wp2_with fail
  have hb : Box (((w.alloc (.cells #[.int .i64 x.a, .int .i64 x.b, .int .i64 x.c, .int .i64 x.d] 109)).alloc (.cells #[.int .i64 y.a, .int .i64 y.b, .int .i64 y.c, .int .i64 y.d] 109)).alloc (.cells #[.int .i64 (x.a + y.a), .int .i64 (x.b + y.b), .int .i64 (x.c + y.c), .int .i64 (x.d + y.d)] 109)) (w.heap.size + 1 + 1) 109 #[.int .i64 (x.a + y.a), .int .i64 (x.b + y.b), .int .i64 (x.c + y.c), .int .i64 (x.d + y.d)] := Box.made (by simp)
  obtain ⟨y0, y1, y2, y3, -⟩ := hb.cells4
  refine bodyPost_ret (v := .agg #[.int .i64 (x.a + y.a), .int .i64 (x.b + y.b), .int .i64 (x.c + y.c), .int .i64 (x.d + y.d)]) ?_ rfl ⟨rfl, by (repeat (first | (with_reducible exact Below.refl _ _) | (with_reducible refine Go.below_drewN ?_ _) | (with_reducible refine Below.drew ?_) | (with_reducible refine Below.alloc ?_ (by first | exact Nat.le_refl _ | (simp; done) | (simp; omega) | omega) _) | (with_reducible refine Below.setCell ?_ (by first | exact Nat.le_refl _ | (simp; done) | (simp; omega) | omega) _)))⟩
  simp [results, Try.results74, go_sem, y0, y1, y2, y3]

def oneN : Num := ⟨1, 0, 0, 0⟩
theorem oneN_within : oneN.Within 4611686018427387904 := ⟨by decide, by decide, by decide, by decide⟩
theorem rs_on {F : Nat → Int} {s k : Nat} (h : F k ≠ -1) (hF : -1 ≤ F k) : rsN F s (k + 1) = (rsN F s k).add (oneN.turns ((F k + ((k * s : Nat) : Int)) % 8).toNat) := by
  have e : ahF F s k = (F k + ((k * s : Nat) : Int)) % 8 := if_neg h
  show (if ahF F s k = -1 then rsN F s k else (rsN F s k).add ((gnum oneG).turns (ahF F s k).toNat)) = _
  rw [if_neg (by rw [e]; omega), e]
  rfl
theorem rs_off {F : Nat → Int} {s k : Nat} (h : F k = -1) : rsN F s (k + 1) = rsN F s k := by
  have e : ahF F s k = -1 := if_pos h
  show (if ahF F s k = -1 then rsN F s k else _) = _
  rw [if_pos e]
end Go.Proofs.Ytdkbjgnkehoplaa
/- SquareOf and Compared of the code. -/
namespace Go.Proofs.Ytdkbjgnkehoplaa
open Go.RowKit
def sqRP (x : Num) : Int := if x.err 1000000 = 0 then x.sqP else 0
def sqRQ (x : Num) : Int := if x.err 1000000 = 0 then x.sqQ else 0
/-- The error of two squares that are compared, and what Compared hands back. -/
def cmE (a b c d : Int) : Int := Num.err 10000000000000 ⟨a, b, c, d⟩
def cmR (a b c d : Int) : Int := if cmE a b c d = 0 then compI (a - c) (d - b) else 0
end Go.Proofs.Ytdkbjgnkehoplaa
/- Numbers of any size (downtiltbase): mathematics of digits; trimmed, wideOf. -/
namespace Go.Proofs.Ytdkbjgnkehoplaa
open Go.RowKit
def BB : Int := 1000000000
def valD (D : Nat → Int) : Nat → Int
  | 0 => 0
  | k + 1 => valD D k + D k * BB ^ k
def Dig (n : Nat) (D : Nat → Int) : Prop := ∀ j, j < n → 0 ≤ D j ∧ D j < BB
def Norm (n : Nat) (D : Nat → Int) : Prop := n = 0 ∨ D (n - 1) ≠ 0
def trimN (D : Nat → Int) : Nat → Nat
  | 0 => 0
  | k + 1 => if D k = 0 then trimN D k else k + 1
theorem pow_pos_BB (k : Nat) : 0 < BB ^ k := Int.pow_pos (by decide)
theorem valD_congr {D E : Nat → Int} : ∀ n, (∀ j, j < n → D j = E j) → valD D n = valD E n
  | 0, _ => rfl
  | k + 1, h => by
    show valD D k + D k * BB ^ k = valD E k + E k * BB ^ k
    rw [valD_congr k fun j hj => h j (by omega), h k (Nat.lt_succ_self k)]
theorem valD_range {D : Nat → Int} : ∀ n, Dig n D → 0 ≤ valD D n ∧ valD D n < BB ^ n
  | 0, _ => ⟨Int.le_refl _, (by decide : (0 : Int) < BB ^ 0)⟩
  | k + 1, h => by
    obtain ⟨h1, h2⟩ := valD_range k fun j hj => h j (by omega)
    obtain ⟨d0, d1⟩ := h k (Nat.lt_succ_self k)
    have hp := pow_pos_BB k
    show 0 ≤ valD D k + D k * BB ^ k ∧ valD D k + D k * BB ^ k < BB ^ (k + 1)
    rw [Int.pow_succ, Int.mul_comm (BB ^ k) BB]
    have a1 : 0 ≤ D k * BB ^ k := Int.mul_nonneg d0 (by omega)
    have a2 : (D k + 1) * BB ^ k ≤ BB * BB ^ k := Int.mul_le_mul_of_nonneg_right (by omega) (by omega)
    rw [Int.add_mul, Int.one_mul] at a2
    omega
theorem trimN_le (D : Nat → Int) : ∀ n, trimN D n ≤ n
  | 0 => Nat.le_refl _
  | k + 1 => by
    unfold trimN
    split
    · have := trimN_le D k; omega
    · exact Nat.le_refl _
theorem trimN_norm (D : Nat → Int) : ∀ n, Norm (trimN D n) D
  | 0 => .inl rfl
  | k + 1 => by
    unfold trimN
    split
    · exact trimN_norm D k
    · rename_i h; exact .inr (by simpa using h)
theorem trimN_val (D : Nat → Int) : ∀ n, valD D (trimN D n) = valD D n
  | 0 => rfl
  | k + 1 => by
    unfold trimN
    split
    · rename_i h
      rw [trimN_val D k]
      show valD D k = valD D k + D k * BB ^ k
      rw [h, Int.zero_mul, Int.add_zero]
    · rfl
theorem norm_ge {D : Nat → Int} {n : Nat} (hd : Dig (n + 1) D) (hn : Norm (n + 1) D) : BB ^ n ≤ valD D (n + 1) := by
  rcases hn with h | h
  · exact absurd h (Nat.succ_ne_zero n)
  · rw [Nat.add_sub_cancel] at h
    have h1 := (valD_range n fun j hj => hd j (by omega)).1
    obtain ⟨d0, -⟩ := hd n (Nat.lt_succ_self n)
    have hp := pow_pos_BB n
    show BB ^ n ≤ valD D n + D n * BB ^ n
    have a2 : 1 * BB ^ n ≤ D n * BB ^ n := Int.mul_le_mul_of_nonneg_right (by omega) (by omega)
    omega
theorem norm_pos {D : Nat → Int} {n : Nat} (hd : Dig n D) (hn : Norm n D) (h : 0 < n) : 0 < valD D n := by
  obtain ⟨k, rfl⟩ : ∃ k, n = k + 1 := ⟨n - 1, by omega⟩
  have := norm_ge hd hn
  have := pow_pos_BB k
  omega
theorem pow_mono_BB {a b : Nat} (h : a ≤ b) : BB ^ a ≤ BB ^ b := by
  obtain ⟨d, rfl⟩ : ∃ d, b = a + d := ⟨b - a, by omega⟩
  induction d with
  | zero => exact Int.le_refl _
  | succ d ih =>
    have := ih (by omega)
    rw [← Nat.add_assoc, Int.pow_succ]
    have hp := pow_pos_BB (a + d)
    have : BB ^ (a + d) * 1 ≤ BB ^ (a + d) * BB := Int.mul_le_mul_of_nonneg_left (by decide) (by omega)
    omega
theorem valD_fewer {D E : Nat → Int} {n m : Nat} (h : n < m) (hd : Dig n D) (he : Dig m E) (hn : Norm m E) : valD D n < valD E m := by
  obtain ⟨k, rfl⟩ : ∃ k, m = k + 1 := ⟨m - 1, by omega⟩
  have h1 := (valD_range n hd).2
  have h2 := norm_ge he hn
  have h3 := pow_mono_BB (show n ≤ k by omega)
  omega
theorem valD_less {D E : Nat → Int} {i : Nat} : ∀ {n : Nat}, Dig n D → Dig n E → i < n → D i < E i → (∀ j, i < j → j < n → D j = E j) → valD D n < valD E n
  | 0, _, _, h, _, _ => absurd h (Nat.not_lt_zero i)
  | k + 1, hd, he, hi, hl, hq => by
    show valD D k + D k * BB ^ k < valD E k + E k * BB ^ k
    have hp := pow_pos_BB k
    by_cases e : i = k
    · subst e
      have h1 := (valD_range i fun j hj => hd j (by omega)).2
      have h2 := (valD_range i fun j hj => he j (by omega)).1
      have a2 : (D i + 1) * BB ^ i ≤ E i * BB ^ i := Int.mul_le_mul_of_nonneg_right (by omega) (by omega)
      rw [Int.add_mul, Int.one_mul] at a2
      omega
    · have h1 := valD_less (D := D) (E := E) (i := i) (n := k) (fun j hj => hd j (by omega)) (fun j hj => he j (by omega)) (by omega) hl fun j h1 h2 => hq j h1 (by omega)
      rw [hq k (by omega) (Nat.lt_succ_self k)]
      omega
set_option maxHeartbeats 1000000 in
theorem trimmed_any (A : Option Addr) (n c : Nat) (D : Nat → Int) (w : World) (hn : n ≤ 1000) (hc : n ≤ c) (hI : IntsAt w 0 A n D) :
    Calls Try.prog 153 #[.slice A n c] w fun e w' => e = .returned (.slice A (trimN D n) c) ∧ w = w' := by
  have HI := hide hI
  clear hI
  go_enter Try.func153, Try.ntmps153
  go_wp2_with fail
  go_loopw [3] (fun x wr => ∃ k : Nat, k ≤ n ∧ x = .int .i64 (k : Int) ∧ Hid (trimN D k = trimN D n) ∧ w = wr) (fun x _ => (Go.RowKit.intOf x).toNat)
  case atStart => exact ⟨n, Nat.le_refl _, rfl, hide rfl, rfl⟩
  case round =>
    obtain ⟨k, hk, rfl, HT, rfl⟩ := hrel
    have hkc : (k : Int) ≤ (c : Int) := by omega
    rcases k with _ | j
    · go_wp2_with fail
      go_ret
      exact ⟨by rw [show trimN D n = 0 from HT.out.symm]; rfl, rfl⟩
    · have h0 : ((j + 1 : Nat) : Int) > 0 := by omega
      have q1 : IntKind.i64.wrap (((j + 1 : Nat) : Int) - 1) = (j : Int) := by have h := IntWalk.i64_in (((j + 1 : Nat) : Int) - 1) (by omega); rw [h]; first | done | omega
      have hjn : (j : Int) < (n : Int) := by omega
      obtain ⟨b, o, rfl, -, -, x0⟩ := HI.out j (by omega)
      by_cases hz : D j = 0
      · have HT2 := hide (show trimN D j = trimN D n from by rw [← HT.out]; show _ = if D j = 0 then trimN D j else j + 1; rw [if_pos hz])
        rw [hz] at x0
        clear hz HT
        go_wp2_with fail
        go_roundw
        case rel => exact ⟨j, by omega, by first | rfl | go_num, HT2, by first | rfl | trivial⟩
        case measure => (simp [Go.RowKit.intOf]; first | done | omega)
      · have HT2 := hide (show trimN D n = j + 1 from by rw [← HT.out]; show (if D j = 0 then trimN D j else j + 1) = _; rw [if_neg hz])
        have t1 : (D j == 0) = false := by simpa using hz
        generalize D j = x at *
        clear hz HT
        go_wp2_with fail
        go_ret
        exact ⟨by rw [HT2.out]; rfl, rfl⟩
end Go.Proofs.Ytdkbjgnkehoplaa
