/- Lemmas: E44, E45. -/
import Derived.Test.YtdkbjgnkehoplaaBy07
import Derived.Test.YtdkbjgnkehoplaaBy12
import Derived.Test.YtdkbjgnkehoplaaBy13
set_option linter.unusedVariables false
set_option linter.unusedSimpArgs false
/- The reference: ChannelErr, BothErr, Energy, TwoErr; numbers of the law; GConj, GMul, GAdd of base. -/
namespace Go.Proofs.Ytdkbjgnkehoplaa
open Go.RowKit Go.Great
set_option maxHeartbeats 1000000 in
theorem numbers_any (A : Option Addr) (n c : Nat) (w : World) : Calls Try.prog 12 #[.slice A n c] w fun e w' => e = .returned (.bool (decide ((n : Int) ≤ 10))) ∧ Below w.heap.size w w' := by
  go_enter Try.func12, Try.ntmps12
  go_wp2_with fail
  go_ret
  exact ⟨rfl, Below.refl _ _⟩
theorem err_in (x : Gau) : x.err 30 = if withinB x.re (-30) 30 = true ∧ withinB x.im (-30) 30 = true then 0 else 2 := by
  unfold Gau.err Gau.isIn
  cases withinB x.re (-30) 30 <;> cases withinB x.im (-30) 30 <;> rfl
set_option maxHeartbeats 4000000 in
set_option maxRecDepth 100000 in
theorem ChannelErr_any (A : Option Addr) (n c : Nat) (X : Nat → Gau) (w : World) (hn9 : n ≤ 9223372036854775807) (hI : GausAt w 0 A n X) :
    Calls Try.prog 23 #[.slice A n c] w fun e w' => e = .returned (.int .i64 (chE n X)) ∧ Below w.heap.size w w' := by
  have HI := hide hI
  have HE := hide (show chE n X = if unI (decide (0 < n)) 10 = 0 then (if unI (decide ((n : Int) ≤ 8)) 8 = 0 then (if gausE 30 X n = 0 then 0 else gausE 30 X n) else unI (decide ((n : Int) ≤ 8)) 8) else unI (decide (0 < n)) 10 from rfl)
  have HGE := hide (show gausE 30 X n = badE (fun j => (X j).err 30) n from rfl)
  obtain ⟨V, hV⟩ : ∃ z, chE n X = z := ⟨_, rfl⟩
  obtain ⟨u, hu⟩ : ∃ z, gausE 30 X n = z := ⟨_, rfl⟩
  simp only [hV, hu] at HE HGE ⊢
  clear hI hV hu
  by_cases h0 : n = 0
  · subst h0
    obtain rfl : V = 10 := HE.out.trans (by rfl)
    clear HE HGE
    go_enter Try.func23, Try.ntmps23
    go_wp2_with fail
    go_ret
    exact ⟨rfl, Below.refl _ _⟩
  have t0 : ((n : Int) == 0) = false := by simp; omega
  by_cases h8 : n ≤ 8
  case neg =>
    have h8z : (n : Int) > 8 := by omega
    obtain rfl : V = 8 := HE.out.trans (by rw [show decide (0 < n) = true by simp; omega, show decide ((n : Int) ≤ 8) = false by simp; omega]; rfl)
    clear HE HGE h0 h8
    go_enter Try.func23, Try.ntmps23
    go_wp2_with fail
    go_ret
    exact ⟨rfl, Below.refl _ _⟩
  have h8z : ¬ (n : Int) > 8 := by omega
  have HEE := hide (show V = u from HE.out.trans (by
    rw [show decide (0 < n) = true by simp; omega, show decide ((n : Int) ≤ 8) = true by simp; omega]
    show (if u = 0 then 0 else u) = u
    split
    · rename_i h; exact h.symm
    · rfl))
  clear HE h0
  go_enter Try.func23, Try.ntmps23
  go_wp2_with fail
  go_loopw [3] (fun i wr => ∃ k : Nat, k ≤ n ∧ i = .int .i64 (k : Int) ∧ Hid (badE (fun j => (X j).err 30) k = 0) ∧ wr = w) (fun i _ => n - (Go.RowKit.intOf i).toNat)
  case atStart => exact ⟨0, Nat.zero_le _, rfl, hide rfl, rfl⟩
  case round =>
    obtain ⟨k, hk, rfl, HK, rfl⟩ := hrel
    by_cases hlt : k < n
    · have hltz : (k : Int) < (n : Int) := by omega
      obtain ⟨b, o, rfl, -, hb, c0, c1⟩ := HI.out k hlt
      have HW1 := hide (fun W => within_any (X k).re (-30) 30 W)
      have HW2 := hide (fun W => within_any (X k).im (-30) 30 W)
      have HER := hide (err_in (X k))
      have HBAD := hide (fun (h : (X k).err 30 ≠ 0) => (badE_at (g := fun j => (X j).err 30) HK.out h n hlt))
      have HGOOD := hide (fun (h : (X k).err 30 = 0) => (badE_succ (g := fun j => (X j).err 30) HK.out).trans h)
      obtain ⟨z, hz⟩ : ∃ z, (X k).err 30 = z := ⟨_, rfl⟩
      simp only [hz] at HER HBAD HGOOD
      clear hz HK
      generalize X k = x at *
      obtain ⟨b1, hb1⟩ : ∃ z, withinB x.re (-30) 30 = z := ⟨_, rfl⟩
      obtain ⟨b2, hb2⟩ : ∃ z, withinB x.im (-30) 30 = z := ⟨_, rfl⟩
      simp only [hb1, hb2] at HW1 HW2 HER
      clear hb1 hb2
      cases b1
      · obtain rfl : z = 2 := HER.out.trans (if_neg (by simp))
        obtain rfl : V = 2 := by rw [HEE.out, HGE.out]; exact HBAD.out (by decide)
        clear HER HBAD HGOOD HEE HGE
        go_wp2_with (go_at_call 25; refine (HW1.out _).mono ?_; rintro e w' ⟨rfl, rfl⟩)
        go_ret
        exact ⟨rfl, Below.refl _ _⟩
      · cases b2
        · obtain rfl : z = 2 := HER.out.trans (if_neg (by simp))
          obtain rfl : V = 2 := by rw [HEE.out, HGE.out]; exact HBAD.out (by decide)
          clear HER HBAD HGOOD HEE HGE
          go_wp2_with fail
          refine (HW1.out _).mono ?_
          rintro e w' ⟨rfl, rfl⟩
          go_wp2_with fail
          refine (HW2.out _).mono ?_
          rintro e w' ⟨rfl, rfl⟩
          go_wp2_with fail
          go_ret
          exact ⟨rfl, Below.refl _ _⟩
        · obtain rfl : z = 0 := HER.out.trans (if_pos (by simp))
          have HKK := hide (HGOOD.out (by first | rfl | trivial))
          clear HER HBAD HGOOD
          go_wp2_with fail
          refine (HW1.out _).mono ?_
          rintro e w' ⟨rfl, rfl⟩
          go_wp2_with fail
          refine (HW2.out _).mono ?_
          rintro e w' ⟨rfl, rfl⟩
          go_wp2_with fail
          go_roundw
          case rel => exact ⟨k + 1, by omega, by go_num, HKK, by first | rfl | trivial⟩
          case measure => simp [Go.RowKit.intOf]; omega
    · obtain rfl : k = n := by omega
      obtain rfl : V = 0 := by rw [HEE.out, HGE.out]; exact HK.out
      clear HEE HGE HK
      go_wp2_with fail
      go_ret
      exact ⟨rfl, Below.refl _ _⟩
theorem bthE_if (n m : Nat) (X Y : Nat → Gau) : bthE n m X Y = if chE n X = 0 then (if chE m Y = 0 then unI ((n : Int) == (m : Int)) 13 else chE m Y) else chE n X := by
  show (if chE n X = 0 then (if chE m Y = 0 then (if unI ((n : Int) == (m : Int)) 13 = 0 then 0 else unI ((n : Int) == (m : Int)) 13) else chE m Y) else chE n X) = _
  have e : (if unI ((n : Int) == (m : Int)) 13 = 0 then 0 else unI ((n : Int) == (m : Int)) 13) = unI ((n : Int) == (m : Int)) 13 := by
    split
    · rename_i h; exact h.symm
    · rfl
  rw [e]
set_option maxHeartbeats 4000000 in
set_option maxRecDepth 100000 in
theorem BothErr_any (A B : Option Addr) (n c m d : Nat) (X Y : Nat → Gau) (w : World) (hn9 : n ≤ 9223372036854775807) (hm9 : m ≤ 9223372036854775807) (hI : GausAt w 0 A n X) (hJ : GausAt w 0 B m Y) :
    Calls Try.prog 32 #[.slice A n c, .slice B m d] w fun e w' => e = .returned (.int .i64 (bthE n m X Y)) ∧ Below w.heap.size w w' := by
  have HI := hide hI
  have HJ := hide hJ
  have HCX := hide (fun W (h : GausAt W 0 A n X) => ChannelErr_any A n c X W hn9 h)
  have HCY := hide (fun W (h : GausAt W 0 B m Y) => ChannelErr_any B m d Y W hm9 h)
  have HE := hide (bthE_if n m X Y)
  obtain ⟨V, hV⟩ : ∃ z, bthE n m X Y = z := ⟨_, rfl⟩
  obtain ⟨u, hu⟩ : ∃ z, chE n X = z := ⟨_, rfl⟩
  obtain ⟨v, hv⟩ : ∃ z, chE m Y = z := ⟨_, rfl⟩
  simp only [hV, hu, hv] at HE HCX HCY ⊢
  clear hI hJ hV hu hv
  go_enter Try.func32, Try.ntmps32
  go_wp2_with fail
  refine (HCX.out _ HI.out).mono ?_
  rintro e w1 ⟨rfl, hb1⟩
  have HB1 := hide hb1
  clear hb1
  by_cases h0 : u = 0
  case neg =>
    have tv : (u != 0) = true := by simpa using h0
    obtain rfl : V = u := HE.out.trans (if_neg h0)
    clear HE h0
    go_wp2_with fail
    go_ret
    exact ⟨rfl, HB1.out⟩
  rw [if_pos h0] at HE
  subst h0
  go_wp2_with fail
  refine (HCY.out _ (HJ.out.below HB1.out)).mono ?_
  rintro e w2 ⟨rfl, hb2⟩
  have HB2 := hide (HB1.out.trans (hb2.mono HB1.out.size))
  clear hb2 HB1
  by_cases h0 : v = 0
  case neg =>
    have tv : (v != 0) = true := by simpa using h0
    obtain rfl : V = v := HE.out.trans (if_neg h0)
    clear HE h0
    go_wp2_with fail
    go_ret
    exact ⟨rfl, HB2.out⟩
  rw [if_pos h0] at HE
  subst h0
  by_cases hnm : (n : Int) = (m : Int)
  · have t1 : ((n : Int) != (m : Int)) = false := by simpa using hnm
    obtain rfl : V = 0 := HE.out.trans (by rw [show ((n : Int) == (m : Int)) = true by simpa using hnm]; rfl)
    clear HE hnm
    go_wp2_with fail
    go_ret
    exact ⟨rfl, HB2.out⟩
  · have t1 : ((n : Int) != (m : Int)) = true := by simpa using hnm
    obtain rfl : V = 13 := HE.out.trans (by rw [show ((n : Int) == (m : Int)) = false by simpa using hnm]; rfl)
    clear HE hnm
    go_wp2_with fail
    go_ret
    exact ⟨rfl, HB2.out⟩
set_option maxHeartbeats 4000000 in
set_option maxRecDepth 100000 in
theorem Energy_any (A : Option Addr) (n c : Nat) (X : Nat → Gau) (w : World) (h : OkC n X) (hI : GausAt w 0 A n X) :
    Calls Try.prog 56 #[.slice A n c] w fun e w' => e = .returned (.int .i64 (enI X n)) ∧ Below w.heap.size w w' := by
  have HI := hide hI
  have hn8 := h.n8
  have HS := hide (fun k => (show enI X (k + 1) = enI X k + ((X k).re * (X k).re + (X k).im * (X k).im) from rfl))
  have HBE := hide (fun k (hk : k ≤ n) => (OkC.mk (n := k) (X := X) (by omega) fun j hj => h.small j (by omega)).energy)
  have HGN := hide (fun j (hj : j < n) W => gnorm_any (X j).re (X j).im W ⟨sq_nonneg _, by have := part_sq (h.small j hj).re; omega⟩ ⟨sq_nonneg _, by have := part_sq (h.small j hj).im; omega⟩)
  have HPS := hide (fun j (hj : j < n) => (show (0 ≤ (X j).re * (X j).re ∧ (X j).re * (X j).re ≤ 900) ∧ 0 ≤ (X j).im * (X j).im ∧ (X j).im * (X j).im ≤ 900 from ⟨⟨sq_nonneg _, part_sq (h.small j hj).re⟩, sq_nonneg _, part_sq (h.small j hj).im⟩))
  clear hI h
  go_enter Try.func56, Try.ntmps56
  go_wp2_with fail
  go_loopw [3, 4] (fun s i wr => ∃ k : Nat, k ≤ n ∧ s = .int .i64 (enI X k) ∧ i = .int .i64 (k : Int) ∧ Hid (Below w.heap.size w wr)) (fun _ i _ => n - (Go.RowKit.intOf i).toNat)
  case atStart => exact ⟨0, Nat.zero_le _, rfl, rfl, hide (Below.refl _ _)⟩
  case round =>
    obtain ⟨k, hk, rfl, rfl, HL⟩ := hrel
    obtain ⟨wA, rfl⟩ : ∃ x : World, x = wr := ⟨_, rfl⟩
    by_cases hlt : k < n
    · have hltz : (k : Int) < (n : Int) := by omega
      obtain ⟨b, o, rfl, -, hb, c0, c1⟩ := (HI.out.below HL.out) k hlt
      have HG := hide (HGN.out k hlt)
      have hps := HPS.out k hlt
      have hbe := HBE.out k hk
      have HSK := hide (HS.out k)
      obtain ⟨s, hs⟩ : ∃ z, (X k).re * (X k).re + (X k).im * (X k).im = z := ⟨_, rfl⟩
      have hs1 : 0 ≤ s ∧ s ≤ 1800 := by omega
      simp only [hs] at HG HSK
      generalize X k = x at *
      obtain ⟨E, hE⟩ : ∃ z, enI X k = z := ⟨_, rfl⟩
      simp only [hE] at HSK hbe ⊢
      have q1 : IntKind.i64.wrap (E + s) = E + s := IntWalk.i64_in _ (by omega)
      clear hps hs hs1 hbe hE
      go_wp2_with fail
      refine (HG.out _).mono ?_
      rintro e w2 ⟨rfl, hb2⟩
      have HL2 := hide (HL.out.trans (hb2.mono HL.out.size))
      clear hb2 c0 c1
      go_wp2_with fail
      go_roundw
      case rel => exact ⟨k + 1, by omega, by rw [HSK.out], by go_num, HL2⟩
      case measure => simp [Go.RowKit.intOf]; omega
    · obtain rfl : k = n := by omega
      go_wp2_with fail
      go_ret
      exact ⟨rfl, HL.out⟩
theorem tchE_if (n m : Nat) (X Y : Nat → Gau) : tchE n m X Y = if bthE n m X Y = 0 then unI (hrB n X && hrB m Y) 11 else bthE n m X Y := by
  show (if bthE n m X Y = 0 then (if unI (hrB n X && hrB m Y) 11 = 0 then 0 else unI (hrB n X && hrB m Y) 11) else bthE n m X Y) = _
  have e : (if unI (hrB n X && hrB m Y) 11 = 0 then 0 else unI (hrB n X && hrB m Y) 11) = unI (hrB n X && hrB m Y) 11 := by
    split
    · rename_i h; exact h.symm
    · rfl
  rw [e]
set_option maxHeartbeats 4000000 in
set_option maxRecDepth 100000 in
theorem TwoErr_any (A B : Option Addr) (n c m d : Nat) (X Y : Nat → Gau) (w : World) (hn9 : n ≤ 9223372036854775807) (hm9 : m ≤ 9223372036854775807) (hI : GausAt w 0 A n X) (hJ : GausAt w 0 B m Y) :
    Calls Try.prog 34 #[.slice A n c, .slice B m d] w fun e w' => e = .returned (.int .i64 (tchE n m X Y)) ∧ Below w.heap.size w w' := by
  have HI := hide hI
  have HJ := hide hJ
  have HBT := hide (fun W (h : GausAt W 0 A n X) (k : GausAt W 0 B m Y) => BothErr_any A B n c m d X Y W hn9 hm9 h k)
  have HE := hide (tchE_if n m X Y)
  have HZ := hide (bthE_zero (n := n) (m := m) (X := X) (Y := Y))
  rw [hrB_energy, hrB_energy] at HE
  obtain ⟨V, hV⟩ : ∃ z, tchE n m X Y = z := ⟨_, rfl⟩
  obtain ⟨u, hu⟩ : ∃ z, bthE n m X Y = z := ⟨_, rfl⟩
  simp only [hV, hu] at HE HBT HZ ⊢
  clear hI hJ hV hu
  go_enter Try.func34, Try.ntmps34
  go_wp2_with fail
  refine (HBT.out _ HI.out HJ.out).mono ?_
  rintro e w1 ⟨rfl, hb1⟩
  have HB1 := hide hb1
  clear hb1
  by_cases h0 : u = 0
  case neg =>
    have tv : (u != 0) = true := by simpa using h0
    obtain rfl : V = u := HE.out.trans (if_neg h0)
    clear HE h0
    go_wp2_with fail
    go_ret
    exact ⟨rfl, HB1.out⟩
  rw [if_pos h0] at HE
  obtain ⟨k1, k2, rfl⟩ := HZ.out h0
  subst h0
  have HEX := hide (fun W (u : GausAt W 0 A m X) => Energy_any A m c X W (chE_ok k1) u)
  have HEY := hide (fun W (u : GausAt W 0 B m Y) => Energy_any B m d Y W (chE_ok k2) u)
  clear HZ k1 k2
  obtain ⟨E, hE⟩ : ∃ z, enI X m = z := ⟨_, rfl⟩
  obtain ⟨F, hF⟩ : ∃ z, enI Y m = z := ⟨_, rfl⟩
  simp only [hE, hF] at HE HEX HEY
  clear hE hF
  go_wp2_with fail
  refine (HEX.out _ (HI.out.below HB1.out)).mono ?_
  rintro e w2 ⟨rfl, hb2⟩
  have HB2 := hide (HB1.out.trans (hb2.mono HB1.out.size))
  clear hb2 HB1
  by_cases hE : E = 0
  · subst hE
    obtain rfl : V = 11 := HE.out.trans (by rfl)
    clear HE
    go_wp2_with fail
    go_ret
    exact ⟨rfl, HB2.out⟩
  have t1 : (E == 0) = false := by simpa using hE
  rw [show (E != 0) = true by simpa using hE, Bool.true_and] at HE
  go_wp2_with fail
  refine (HEY.out _ (HJ.out.below HB2.out)).mono ?_
  rintro e w3 ⟨rfl, hb3⟩
  have HB3 := hide (HB2.out.trans (hb3.mono HB2.out.size))
  clear hb3 HB2
  by_cases hF : F = 0
  · subst hF
    obtain rfl : V = 11 := HE.out.trans (by rfl)
    clear HE
    go_wp2_with fail
    go_ret
    exact ⟨rfl, HB3.out⟩
  · have t2 : (F == 0) = false := by simpa using hF
    obtain rfl : V = 0 := HE.out.trans (by rw [show (F != 0) = true by simpa using hF]; rfl)
    clear HE
    go_wp2_with fail
    go_ret
    exact ⟨rfl, HB3.out⟩
set_option maxHeartbeats 2000000 in
set_option maxRecDepth 100000 in
theorem gconj5_any (x : Gau) (w : World) (hx : x.Within 1000000) :
    Calls Try.prog 41 #[.agg #[.int .i64 x.re, .int .i64 x.im]] w fun e w' => e = .returned (.agg #[.int .i64 x.re, .int .i64 (-x.im)]) ∧ Below w.heap.size w w' := by
  have q1 : IntKind.i64.wrap (-x.im) = -x.im := IntWalk.i64_in _ (by have := hx.im; omega)
  clear hx
  go_enter Try.func41, Try.ntmps41
  go_wp2_with fail
  have hb : Box ((w.alloc (.cells #[.int .i64 x.re, .int .i64 x.im] 53)).alloc (.cells #[.int .i64 x.re, .int .i64 (-x.im)] 53)) (w.heap.size + 1) 53 #[.int .i64 x.re, .int .i64 (-x.im)] := Box.made (by simp)
  obtain ⟨y0, y1, -⟩ := hb.cells2
  refine bodyPost_ret (v := .agg #[.int .i64 x.re, .int .i64 (-x.im)]) ?_ rfl ⟨rfl, by (repeat (first | (with_reducible exact Below.refl _ _) | (with_reducible refine Go.below_drewN ?_ _) | (with_reducible refine Below.drew ?_) | (with_reducible refine Below.alloc ?_ (by first | exact Nat.le_refl _ | (simp; done) | (simp; omega) | omega) _) | (with_reducible refine Below.setCell ?_ (by first | exact Nat.le_refl _ | (simp; done) | (simp; omega) | omega) _)))⟩
  simp [results, Try.results41, go_sem, y0, y1]
set_option maxHeartbeats 2000000 in
set_option maxRecDepth 100000 in
theorem gadd5_any (x y : Gau) (w : World) (h1 : -9223372036854775808 ≤ x.re + y.re ∧ x.re + y.re ≤ 9223372036854775807) (h2 : -9223372036854775808 ≤ x.im + y.im ∧ x.im + y.im ≤ 9223372036854775807) :
    Calls Try.prog 39 #[.agg #[.int .i64 x.re, .int .i64 x.im], .agg #[.int .i64 y.re, .int .i64 y.im]] w fun e w' => e = .returned (.agg #[.int .i64 (x.re + y.re), .int .i64 (x.im + y.im)]) ∧ Below w.heap.size w w' := by
  have q1 : IntKind.i64.wrap (x.re + y.re) = x.re + y.re := IntWalk.i64_in _ (by omega)
  have q2 : IntKind.i64.wrap (x.im + y.im) = x.im + y.im := IntWalk.i64_in _ (by omega)
  clear h1 h2
  go_enter Try.func39, Try.ntmps39
  go_wp2_with fail
  have hb : Box (((w.alloc (.cells #[.int .i64 x.re, .int .i64 x.im] 53)).alloc (.cells #[.int .i64 y.re, .int .i64 y.im] 53)).alloc (.cells #[.int .i64 (x.re + y.re), .int .i64 (x.im + y.im)] 53)) (w.heap.size + 1 + 1) 53 #[.int .i64 (x.re + y.re), .int .i64 (x.im + y.im)] := Box.made (by simp)
  obtain ⟨y0, y1, -⟩ := hb.cells2
  refine bodyPost_ret (v := .agg #[.int .i64 (x.re + y.re), .int .i64 (x.im + y.im)]) ?_ rfl ⟨rfl, by (repeat (first | (with_reducible exact Below.refl _ _) | (with_reducible refine Go.below_drewN ?_ _) | (with_reducible refine Below.drew ?_) | (with_reducible refine Below.alloc ?_ (by first | exact Nat.le_refl _ | (simp; done) | (simp; omega) | omega) _) | (with_reducible refine Below.setCell ?_ (by first | exact Nat.le_refl _ | (simp; done) | (simp; omega) | omega) _)))⟩
  simp [results, Try.results39, go_sem, y0, y1]
set_option maxHeartbeats 4000000 in
set_option maxRecDepth 100000 in
theorem gmul5_any (x y : Gau) (M N : Int) (w : World) (hx : x.Within M) (hy : y.Within N) (hMN : M * N ≤ 1000000000000) :
    Calls Try.prog 40 #[.agg #[.int .i64 x.re, .int .i64 x.im], .agg #[.int .i64 y.re, .int .i64 y.im]] w fun e w' => e = .returned (.agg #[.int .i64 (x.re * y.re - x.im * y.im), .int .i64 (x.re * y.im + x.im * y.re)]) ∧ Below w.heap.size w w' := by
  have h1 := mul_within hx.re hy.re
  have h2 := mul_within hx.im hy.im
  have h3 := mul_within hx.re hy.im
  have h4 := mul_within hx.im hy.re
  have q1 : IntKind.i64.wrap (x.re * y.re) = x.re * y.re := IntWalk.i64_in _ (by omega)
  have q2 : IntKind.i64.wrap (x.im * y.im) = x.im * y.im := IntWalk.i64_in _ (by omega)
  have q3 : IntKind.i64.wrap (x.re * y.re - x.im * y.im) = x.re * y.re - x.im * y.im := IntWalk.i64_in _ (by omega)
  have q4 : IntKind.i64.wrap (x.re * y.im) = x.re * y.im := IntWalk.i64_in _ (by omega)
  have q5 : IntKind.i64.wrap (x.im * y.re) = x.im * y.re := IntWalk.i64_in _ (by omega)
  have q6 : IntKind.i64.wrap (x.re * y.im + x.im * y.re) = x.re * y.im + x.im * y.re := IntWalk.i64_in _ (by omega)
  clear h1 h2 h3 h4 hx hy hMN
  obtain ⟨P, hP⟩ : ∃ z, z = x.re * y.re - x.im * y.im := ⟨_, rfl⟩
  obtain ⟨Q, hQ⟩ : ∃ z, z = x.re * y.im + x.im * y.re := ⟨_, rfl⟩
  rw [← hP, ← hQ]
  replace q3 := q3.trans hP.symm
  replace q6 := q6.trans hQ.symm
  clear hP hQ
  go_enter Try.func40, Try.ntmps40
  go_wp2_with fail
  have hb : Box (((w.alloc (.cells #[.int .i64 x.re, .int .i64 x.im] 53)).alloc (.cells #[.int .i64 y.re, .int .i64 y.im] 53)).alloc (.cells #[.int .i64 P, .int .i64 Q] 53)) (w.heap.size + 1 + 1) 53 #[.int .i64 P, .int .i64 Q] := Box.made (by simp)
  obtain ⟨y0, y1, -⟩ := hb.cells2
  refine bodyPost_ret (v := .agg #[.int .i64 P, .int .i64 Q]) ?_ rfl ⟨rfl, by (repeat (first | (with_reducible exact Below.refl _ _) | (with_reducible refine Go.below_drewN ?_ _) | (with_reducible refine Below.drew ?_) | (with_reducible refine Below.alloc ?_ (by first | exact Nat.le_refl _ | (simp; done) | (simp; omega) | omega) _) | (with_reducible refine Below.setCell ?_ (by first | exact Nat.le_refl _ | (simp; done) | (simp; omega) | omega) _)))⟩
  simp [results, Try.results40, go_sem, y0, y1]
end Go.Proofs.Ytdkbjgnkehoplaa
/- InnerOf of the reference. -/
namespace Go.Proofs.Ytdkbjgnkehoplaa
open Go.RowKit Go.Great
set_option maxHeartbeats 8000000 in
set_option maxRecDepth 100000 in
theorem InnerOf_ref (A B : Option Addr) (n c d : Nat) (X Y : Nat → Gau) (w : World) (h : OkC n X) (k : OkC n Y) (hI : GausAt w 0 A n X) (hJ : GausAt w 0 B n Y) :
    Calls Try.prog 33 #[.slice A n c, .slice B n d] w fun e w' => e = .returned (.agg #[.int .i64 (inA X Y n), .int .i64 (inB X Y n)]) ∧ Below w.heap.size w w' := by
  have HI := hide hI
  have HJ := hide hJ
  have hn8 := h.n8
  have HSA := hide (fun k => (show inA X Y (k + 1) = inA X Y k + ((X k).re * (Y k).re + (X k).im * (Y k).im) from rfl))
  have HSB := hide (fun k => (show inB X Y (k + 1) = inB X Y k + ((X k).re * (Y k).im - (X k).im * (Y k).re) from rfl))
  have HBI := hide (fun j (hj : j ≤ n) => (OkC.mk (n := j) (X := X) (by omega) fun i hi => h.small i (by omega)).inner (OkC.mk (n := j) (X := Y) (by omega) fun i hi => k.small i (by omega)))
  have HX := hide h.small
  have HY := hide k.small
  have H0 := hide (show inA X Y 0 = 0 ∧ inB X Y 0 = 0 from ⟨rfl, rfl⟩)
  obtain ⟨I, hIa⟩ : ∃ z, inA X Y = z := ⟨_, rfl⟩
  obtain ⟨J, hJa⟩ : ∃ z, inB X Y = z := ⟨_, rfl⟩
  simp only [hIa, hJa] at HSA HSB HBI H0 ⊢
  clear hI hJ h k hIa hJa
  go_enter Try.func33, Try.ntmps33
  go_wp2_with fail
  go_loopw [6] (fun i wr => ∃ k : Nat, k ≤ n ∧ i = .int .i64 (k : Int) ∧ Hid (Box wr w.heap.size 53 #[.int .i64 0, .int .i64 0]) ∧ Hid (Box wr (w.heap.size + 1) 53 #[.int .i64 (I k), .int .i64 (J k)]) ∧ Hid (Below w.heap.size w wr)) (fun i _ => n - (Go.RowKit.intOf i).toNat)
  case atStart => exact ⟨0, Nat.zero_le _, rfl, hide ((Box.made rfl).alloc _), hide (by rw [H0.out.1, H0.out.2]; exact Box.made (by simp)), hide (by (repeat (first | (with_reducible exact Below.refl _ _) | (with_reducible refine Go.below_drewN ?_ _) | (with_reducible refine Below.drew ?_) | (with_reducible refine Below.alloc ?_ (by first | exact Nat.le_refl _ | (simp; done) | (simp; omega) | omega) _) | (with_reducible refine Below.setCell ?_ (by first | exact Nat.le_refl _ | (simp; done) | (simp; omega) | omega) _))))⟩
  case round =>
    obtain ⟨k, hk, rfl, HX0, HX1, HB⟩ := hrel
    obtain ⟨wA, rfl⟩ : ∃ x : World, x = wr := ⟨_, rfl⟩
    have ne01 : w.heap.size ≠ w.heap.size + 1 := by omega
    by_cases hlt : k < n
    case pos =>
      have hltz : (k : Int) < (n : Int) := by omega
      obtain ⟨b1, o1, rfl, -, l1, c0, c1⟩ := (HI.out.below HB.out) k hlt
      obtain ⟨b2, o2, rfl, -, l2, d0, d1⟩ := (HJ.out.below HB.out) k hlt
      have hl1 : b1 < w.heap.size := by
        obtain ⟨b, o, e, -, h', -, -⟩ := HI.out k hlt
        injection e with e; injection e with e _; subst e; exact h'
      have hl2 : b2 < w.heap.size := by
        obtain ⟨b, o, e, -, h', -, -⟩ := HJ.out k hlt
        injection e with e; injection e with e _; subst e; exact h'
      have hx := HX.out k hlt
      have hy := HY.out k hlt
      have hbi := HBI.out k hk
      have SA := HSA.out k
      have SB := HSB.out k
      generalize X k = x at *
      generalize Y k = y at *
      have HGC := hide (fun W => gconj5_any x W (hx.more (by decide)))
      have HGM := hide (fun W => gmul5_any ⟨x.re, -x.im⟩ y 30 30 W ⟨hx.re, by have := hx.im; show -30 ≤ -x.im ∧ -x.im ≤ 30; omega⟩ hy (by decide))
      have m1 := mul_le2 hx.re hy.re (by decide) (by decide)
      have m2 := mul_le2 hx.im hy.im (by decide) (by decide)
      have m3 := mul_le2 hx.re hy.im (by decide) (by decide)
      have m4 := mul_le2 hx.im hy.re (by decide) (by decide)
      have e1 : x.re * y.re - -x.im * y.im = x.re * y.re + x.im * y.im := by rw [Int.neg_mul]; omega
      have e2 : x.re * y.im + -x.im * y.re = x.re * y.im - x.im * y.re := by rw [Int.neg_mul]; omega
      obtain ⟨p, hp⟩ : ∃ z, x.re * y.re + x.im * y.im = z := ⟨_, rfl⟩
      obtain ⟨r, hr⟩ : ∃ z, x.re * y.im - x.im * y.re = z := ⟨_, rfl⟩
      have hpb : -1800 ≤ p ∧ p ≤ 1800 := by omega
      have hrb : -1800 ≤ r ∧ r ≤ 1800 := by omega
      simp only [e1, e2, hp, hr] at HGM SA SB
      obtain ⟨u, hu⟩ : ∃ z, I k = z := ⟨_, rfl⟩
      obtain ⟨v, hv⟩ : ∃ z, J k = z := ⟨_, rfl⟩
      simp only [hu, hv] at hbi SA SB HX1
      have HGA := hide (fun W => gadd5_any ⟨u, v⟩ ⟨p, r⟩ W (by show -9223372036854775808 ≤ u + p ∧ u + p ≤ 9223372036854775807; omega) (by show -9223372036854775808 ≤ v + r ∧ v + r ≤ 9223372036854775807; omega))
      have HUA := hide SA
      have HUB := hide SB
      obtain ⟨x0, hx0⟩ : ∃ z, x.re = z := ⟨_, rfl⟩
      obtain ⟨x1, hx1⟩ : ∃ z, x.im = z := ⟨_, rfl⟩
      obtain ⟨y0, hy0⟩ : ∃ z, y.re = z := ⟨_, rfl⟩
      obtain ⟨y1, hy1⟩ : ∃ z, y.im = z := ⟨_, rfl⟩
      simp only [hx0, hx1, hy0, hy1] at HGC HGM c0 c1 d0 d1
      have HC0 := hide (show CellV wA b1 (o1 + k * 2) (.int .i64 x0) from ⟨c0⟩)
      have HC1 := hide (show CellV wA b1 (o1 + k * 2 + 1) (.int .i64 x1) from ⟨c1⟩)
      have HD0 := hide (show CellV wA b2 (o2 + k * 2) (.int .i64 y0) from ⟨d0⟩)
      have HD1 := hide (show CellV wA b2 (o2 + k * 2 + 1) (.int .i64 y1) from ⟨d1⟩)
      clear c0 c1 d0 d1 hx hy hbi SA SB m1 m2 m3 m4 e1 e2 hp hr hpb hrb hu hv hx0 hx1 hy0 hy1 l1 l2
      go_upto_region 5 with fail
      refine wp_region_held_drew (S := fun w' => w'.cell? ⟨b1, o1 + k * 2, none⟩ = some (.int .i64 x0) ∧ w'.cell? ⟨b1, o1 + k * 2 + 1, none⟩ = some (.int .i64 x1) ∧ w'.cell? ⟨b2, o2 + k * 2, none⟩ = some (.int .i64 y0) ∧ w'.cell? ⟨b2, o2 + k * 2 + 1, none⟩ = some (.int .i64 y1)) (by kernel_rfl) ⟨HC0.out.c, HC1.out.c, HD0.out.c, HD1.out.c⟩ (fun hHeld => ?_)
      obtain ⟨w_1, hw_1⟩ : ∃ q : World, q = wA.drew := ⟨_, rfl⟩
      rw [← hw_1] at hHeld ⊢
      have hc_1 : Below wA.heap.size wA w_1 := by rw [hw_1]; exact (Below.refl _ _).drew
      clear hw_1
      replace HX0 := hide (HX0.out.below hc_1)
      replace HX1 := hide (HX1.out.below hc_1)
      replace HC0 := hide (HC0.out.below hc_1)
      replace HC1 := hide (HC1.out.below hc_1)
      replace HD0 := hide (HD0.out.below hc_1)
      replace HD1 := hide (HD1.out.below hc_1)
      replace HB := hide (HB.out.trans (hc_1.mono HB.out.size))
      clear hc_1
      refine wpAnyH_take (i := 1) (oi := ⟨some 14, _, _, _, _, _⟩) (v := ?_) rfl (by kernel_rfl) (by kernel_rfl) (by kernel_rfl) (fun _ _ _ h => h) (Or.inl ⟨by rfl, ?_⟩) (by assumption) ?_
      rotate_left
      · (intro w' hSw; (try dsimp only at hSw); go_simp <;> (with_reducible rfl))
      try simp only [Act.put, List.setIfInBounds_toArray, List.set_cons_zero, List.set_cons_succ]
      refine wpAnyH_take (i := 2) (oi := ⟨some 15, _, _, _, _, _⟩) (v := ?_) rfl (by kernel_rfl) (by kernel_rfl) (by kernel_rfl) (fun _ _ _ h => h) (Or.inl ⟨by rfl, ?_⟩) (by assumption) ?_
      rotate_left
      · (intro w' hSw; (try dsimp only at hSw); go_simp <;> (with_reducible rfl))
      try simp only [Act.put, List.setIfInBounds_toArray, List.set_cons_zero, List.set_cons_succ]
      refine wpAnyH_take (i := 3) (oi := ⟨some 16, _, _, _, _, _⟩) (v := ?_) rfl (by kernel_rfl) (by kernel_rfl) (by kernel_rfl) (fun _ _ _ h => h) (Or.inl ⟨by rfl, ?_⟩) (by assumption) ?_
      rotate_left
      · (intro w' hSw; (try dsimp only at hSw); go_simp <;> (with_reducible rfl))
      try simp only [Act.put, List.setIfInBounds_toArray, List.set_cons_zero, List.set_cons_succ]
      refine wpAnyH_take (i := 4) (oi := ⟨some 17, _, _, _, _, _⟩) (v := ?_) rfl (by kernel_rfl) (by kernel_rfl) (by kernel_rfl) (fun _ _ _ h => h) (Or.inl ⟨by rfl, ?_⟩) (by assumption) ?_
      rotate_left
      · (intro w' hSw; (try dsimp only at hSw); go_simp <;> (with_reducible rfl))
      try simp only [Act.put, List.setIfInBounds_toArray, List.set_cons_zero, List.set_cons_succ]
      refine wpAnyH_take (i := 6) (oi := ⟨some 19, _, _, _, _, _⟩) (v := ?_) rfl (by kernel_rfl) (by kernel_rfl) (by kernel_rfl) (fun _ _ _ h => h) (Or.inl ⟨by rfl, ?_⟩) (by assumption) ?_
      rotate_left
      · (intro w' hSw; (try dsimp only at hSw); go_simp <;> (with_reducible rfl))
      try simp only [Act.put, List.setIfInBounds_toArray, List.set_cons_zero, List.set_cons_succ]
      refine wpAnyH_take (i := 7) (oi := ⟨some 20, _, _, _, _, _⟩) (v := ?_) rfl (by kernel_rfl) (by kernel_rfl) (by kernel_rfl) (fun _ _ _ h => h) (Or.inl ⟨by rfl, ?_⟩) (by assumption) ?_
      rotate_left
      · (intro w' hSw; (try dsimp only at hSw); go_simp <;> (with_reducible rfl))
      try simp only [Act.put, List.setIfInBounds_toArray, List.set_cons_zero, List.set_cons_succ]
      refine wpAnyH_take (i := 8) (oi := ⟨some 21, _, _, _, _, _⟩) (v := ?_) rfl (by kernel_rfl) (by kernel_rfl) (by kernel_rfl) (fun _ _ _ h => h) (Or.inl ⟨by rfl, ?_⟩) (by assumption) ?_
      rotate_left
      · (intro w' hSw; (try dsimp only at hSw); go_simp <;> (with_reducible rfl))
      try simp only [Act.put, List.setIfInBounds_toArray, List.set_cons_zero, List.set_cons_succ]
      refine wpAnyH_take (i := 9) (oi := ⟨some 22, _, _, _, _, _⟩) (v := ?_) rfl (by kernel_rfl) (by kernel_rfl) (by kernel_rfl) (fun _ _ _ h => h) (Or.inl ⟨by rfl, ?_⟩) (by assumption) ?_
      rotate_left
      · (intro w' hSw; (try dsimp only at hSw); go_simp <;> (with_reducible rfl))
      try simp only [Act.put, List.setIfInBounds_toArray, List.set_cons_zero, List.set_cons_succ]
      refine wpAnyH_ready (rs := [0, 5]) (by kernel_rfl) (by simp) ?_
      refine AllReadyH.cons (o := ⟨some 13, _, _, _, _, _⟩) rfl (fun K' hK => ?_) (AllReadyH.cons (o := ⟨some 18, _, _, _, _, _⟩) rfl (fun K' hK => ?_) AllReadyH.nil)
      · skip
        obtain ⟨z0, z1, f0, f1, hly⟩ := HX1.out.c2
        go_simp
        clear z0 z1 f0 f1 hly
        refine hK.out _ _ ⟨HC0.out.c, HC1.out.c, HD0.out.c, HD1.out.c⟩ (fun hHeld => ?_)
        clear hK K'
        try simp only [Act.put, List.setIfInBounds_toArray, List.set_cons_zero, List.set_cons_succ]
        refine wpAnyH_ready (rs := [5]) (by kernel_rfl) (by simp) ?_
        refine AllReadyH.cons (o := ⟨some 18, _, _, _, _, _⟩) rfl (fun K' hK => ?_) AllReadyH.nil
        go_simp
        go_at_call 41
        refine (HGC.out _).mono ?_
        rintro e_ w_2 ⟨rfl, hb_2⟩
        replace HX0 := hide (HX0.out.below hb_2)
        replace HX1 := hide (HX1.out.below hb_2)
        replace HC0 := hide (HC0.out.below hb_2)
        replace HC1 := hide (HC1.out.below hb_2)
        replace HD0 := hide (HD0.out.below hb_2)
        replace HD1 := hide (HD1.out.below hb_2)
        replace HB := hide (HB.out.trans (hb_2.mono HB.out.size))
        clear hb_2
        go_wp2_with fail
        refine hK.out _ _ ⟨HC0.out.c, HC1.out.c, HD0.out.c, HD1.out.c⟩ (fun hHeld => ?_)
        clear hK K'
        try simp only [Act.put, List.setIfInBounds_toArray, List.set_cons_zero, List.set_cons_succ]
        refine wpAnyH_ready (rs := [10]) (by kernel_rfl) (by simp) ?_
        refine AllReadyH.cons (o := ⟨some 23, _, _, _, _, _⟩) rfl (fun K' hK => ?_) AllReadyH.nil
        go_simp
        go_at_call 40
        refine (HGM.out _).mono ?_
        rintro e_ w_3 ⟨rfl, hb_3⟩
        replace HX0 := hide (HX0.out.below hb_3)
        replace HX1 := hide (HX1.out.below hb_3)
        replace HC0 := hide (HC0.out.below hb_3)
        replace HC1 := hide (HC1.out.below hb_3)
        replace HD0 := hide (HD0.out.below hb_3)
        replace HD1 := hide (HD1.out.below hb_3)
        replace HB := hide (HB.out.trans (hb_3.mono HB.out.size))
        clear hb_3
        go_wp2_with fail
        refine hK.out _ _ ⟨HC0.out.c, HC1.out.c, HD0.out.c, HD1.out.c⟩ (fun hHeld => ?_)
        clear hK K'
        try simp only [Act.put, List.setIfInBounds_toArray, List.set_cons_zero, List.set_cons_succ]
        refine wpAnyH_ready (rs := [11]) (by kernel_rfl) (by simp) ?_
        refine AllReadyH.cons (o := ⟨some 24, _, _, _, _, _⟩) rfl (fun K' hK => ?_) AllReadyH.nil
        go_simp
        go_at_call 39
        refine (HGA.out _).mono ?_
        rintro e_ w_4 ⟨rfl, hb_4⟩
        replace HX0 := hide (HX0.out.below hb_4)
        replace HX1 := hide (HX1.out.below hb_4)
        replace HC0 := hide (HC0.out.below hb_4)
        replace HC1 := hide (HC1.out.below hb_4)
        replace HD0 := hide (HD0.out.below hb_4)
        replace HD1 := hide (HD1.out.below hb_4)
        replace HB := hide (HB.out.trans (hb_4.mono HB.out.size))
        clear hb_4
        go_wp2_with fail
        refine hK.out _ _ ⟨HC0.out.c, HC1.out.c, HD0.out.c, HD1.out.c⟩ (fun hHeld => ?_)
        clear hK K'
        try simp only [Act.put, List.setIfInBounds_toArray, List.set_cons_zero, List.set_cons_succ]
        refine wpAnyH_ready (rs := [12]) (by kernel_rfl) (by simp) ?_
        refine AllReadyH.cons (o := ⟨none, _, _, _, _, _⟩) rfl (fun K' hK => ?_) AllReadyH.nil
        obtain ⟨z0, z1, f0, f1, hly⟩ := HX1.out.c2
        go_simp
        clear z0 z1 f0 f1 hly
        replace HX0 := hide ((HX0.out.other (p := ⟨w.heap.size + 1, 0, none⟩) ne01 (.int .i64 (u + p))).other (p := ⟨w.heap.size + 1, 1, none⟩) ne01 (.int .i64 (v + r)))
        replace HX1 := hide (HX1.out.put2 (.int .i64 (u + p)) (.int .i64 (v + r)))
        replace HC0 := hide (CellV.mk (World.cell_put2 (c := w.heap.size + 1) (o := 0) HC0.out.c (by omega) (.int .i64 (u + p)) (.int .i64 (v + r))))
        replace HC1 := hide (CellV.mk (World.cell_put2 (c := w.heap.size + 1) (o := 0) HC1.out.c (by omega) (.int .i64 (u + p)) (.int .i64 (v + r))))
        replace HD0 := hide (CellV.mk (World.cell_put2 (c := w.heap.size + 1) (o := 0) HD0.out.c (by omega) (.int .i64 (u + p)) (.int .i64 (v + r))))
        replace HD1 := hide (CellV.mk (World.cell_put2 (c := w.heap.size + 1) (o := 0) HD1.out.c (by omega) (.int .i64 (u + p)) (.int .i64 (v + r))))
        replace HB := hide ((HB.out.setCell (p := ⟨w.heap.size + 1, 0, none⟩) (Nat.le_succ _) (.int .i64 (u + p))).setCell (p := ⟨w.heap.size + 1, 1, none⟩) (Nat.le_succ _) (.int .i64 (v + r)))
        obtain ⟨w_5, hw_5⟩ : ∃ q : World, (w_4.setCell ⟨w.heap.size + 1, 0, none⟩ (.int .i64 (u + p))).setCell ⟨w.heap.size + 1, 1, none⟩ (.int .i64 (v + r)) = q := ⟨_, rfl⟩
        simp only [Nat.zero_add] at HC0 HC1 HD0 HD1
        rw [hw_5] at HX0 HX1 HC0 HC1 HD0 HD1 HB ⊢
        clear hw_5
        refine hK.out _ _ ⟨HC0.out.c, HC1.out.c, HD0.out.c, HD1.out.c⟩ (fun hHeld => ?_)
        clear hK K'
        try simp only [Act.put, List.setIfInBounds_toArray, List.set_cons_zero, List.set_cons_succ]
        refine wpAnyH_done (by kernel_rfl) ?_ _
        go_wp2_with fail
        go_roundw
        case rel => exact ⟨k + 1, by omega, by go_num, HX0, hide (by rw [HUA.out, HUB.out]; exact HX1.out), HB⟩
        case measure => simp [Go.RowKit.intOf]; omega
      · skip
        go_simp
        go_at_call 41
        refine (HGC.out _).mono ?_
        rintro e_ w_6 ⟨rfl, hb_6⟩
        replace HX0 := hide (HX0.out.below hb_6)
        replace HX1 := hide (HX1.out.below hb_6)
        replace HC0 := hide (HC0.out.below hb_6)
        replace HC1 := hide (HC1.out.below hb_6)
        replace HD0 := hide (HD0.out.below hb_6)
        replace HD1 := hide (HD1.out.below hb_6)
        replace HB := hide (HB.out.trans (hb_6.mono HB.out.size))
        clear hb_6
        go_wp2_with fail
        refine hK.out _ _ ⟨HC0.out.c, HC1.out.c, HD0.out.c, HD1.out.c⟩ (fun hHeld => ?_)
        clear hK K'
        try simp only [Act.put, List.setIfInBounds_toArray, List.set_cons_zero, List.set_cons_succ]
        refine wpAnyH_ready (rs := [0, 10]) (by kernel_rfl) (by simp) ?_
        refine AllReadyH.cons (o := ⟨some 13, _, _, _, _, _⟩) rfl (fun K' hK => ?_) (AllReadyH.cons (o := ⟨some 23, _, _, _, _, _⟩) rfl (fun K' hK => ?_) AllReadyH.nil)
        · skip
          obtain ⟨z0, z1, f0, f1, hly⟩ := HX1.out.c2
          go_simp
          clear z0 z1 f0 f1 hly
          refine hK.out _ _ ⟨HC0.out.c, HC1.out.c, HD0.out.c, HD1.out.c⟩ (fun hHeld => ?_)
          clear hK K'
          try simp only [Act.put, List.setIfInBounds_toArray, List.set_cons_zero, List.set_cons_succ]
          refine wpAnyH_ready (rs := [10]) (by kernel_rfl) (by simp) ?_
          refine AllReadyH.cons (o := ⟨some 23, _, _, _, _, _⟩) rfl (fun K' hK => ?_) AllReadyH.nil
          go_simp
          go_at_call 40
          refine (HGM.out _).mono ?_
          rintro e_ w_7 ⟨rfl, hb_7⟩
          replace HX0 := hide (HX0.out.below hb_7)
          replace HX1 := hide (HX1.out.below hb_7)
          replace HC0 := hide (HC0.out.below hb_7)
          replace HC1 := hide (HC1.out.below hb_7)
          replace HD0 := hide (HD0.out.below hb_7)
          replace HD1 := hide (HD1.out.below hb_7)
          replace HB := hide (HB.out.trans (hb_7.mono HB.out.size))
          clear hb_7
          go_wp2_with fail
          refine hK.out _ _ ⟨HC0.out.c, HC1.out.c, HD0.out.c, HD1.out.c⟩ (fun hHeld => ?_)
          clear hK K'
          try simp only [Act.put, List.setIfInBounds_toArray, List.set_cons_zero, List.set_cons_succ]
          refine wpAnyH_ready (rs := [11]) (by kernel_rfl) (by simp) ?_
          refine AllReadyH.cons (o := ⟨some 24, _, _, _, _, _⟩) rfl (fun K' hK => ?_) AllReadyH.nil
          go_simp
          go_at_call 39
          refine (HGA.out _).mono ?_
          rintro e_ w_8 ⟨rfl, hb_8⟩
          replace HX0 := hide (HX0.out.below hb_8)
          replace HX1 := hide (HX1.out.below hb_8)
          replace HC0 := hide (HC0.out.below hb_8)
          replace HC1 := hide (HC1.out.below hb_8)
          replace HD0 := hide (HD0.out.below hb_8)
          replace HD1 := hide (HD1.out.below hb_8)
          replace HB := hide (HB.out.trans (hb_8.mono HB.out.size))
          clear hb_8
          go_wp2_with fail
          refine hK.out _ _ ⟨HC0.out.c, HC1.out.c, HD0.out.c, HD1.out.c⟩ (fun hHeld => ?_)
          clear hK K'
          try simp only [Act.put, List.setIfInBounds_toArray, List.set_cons_zero, List.set_cons_succ]
          refine wpAnyH_ready (rs := [12]) (by kernel_rfl) (by simp) ?_
          refine AllReadyH.cons (o := ⟨none, _, _, _, _, _⟩) rfl (fun K' hK => ?_) AllReadyH.nil
          obtain ⟨z0, z1, f0, f1, hly⟩ := HX1.out.c2
          go_simp
          clear z0 z1 f0 f1 hly
          replace HX0 := hide ((HX0.out.other (p := ⟨w.heap.size + 1, 0, none⟩) ne01 (.int .i64 (u + p))).other (p := ⟨w.heap.size + 1, 1, none⟩) ne01 (.int .i64 (v + r)))
          replace HX1 := hide (HX1.out.put2 (.int .i64 (u + p)) (.int .i64 (v + r)))
          replace HC0 := hide (CellV.mk (World.cell_put2 (c := w.heap.size + 1) (o := 0) HC0.out.c (by omega) (.int .i64 (u + p)) (.int .i64 (v + r))))
          replace HC1 := hide (CellV.mk (World.cell_put2 (c := w.heap.size + 1) (o := 0) HC1.out.c (by omega) (.int .i64 (u + p)) (.int .i64 (v + r))))
          replace HD0 := hide (CellV.mk (World.cell_put2 (c := w.heap.size + 1) (o := 0) HD0.out.c (by omega) (.int .i64 (u + p)) (.int .i64 (v + r))))
          replace HD1 := hide (CellV.mk (World.cell_put2 (c := w.heap.size + 1) (o := 0) HD1.out.c (by omega) (.int .i64 (u + p)) (.int .i64 (v + r))))
          replace HB := hide ((HB.out.setCell (p := ⟨w.heap.size + 1, 0, none⟩) (Nat.le_succ _) (.int .i64 (u + p))).setCell (p := ⟨w.heap.size + 1, 1, none⟩) (Nat.le_succ _) (.int .i64 (v + r)))
          obtain ⟨w_9, hw_9⟩ : ∃ q : World, (w_8.setCell ⟨w.heap.size + 1, 0, none⟩ (.int .i64 (u + p))).setCell ⟨w.heap.size + 1, 1, none⟩ (.int .i64 (v + r)) = q := ⟨_, rfl⟩
          simp only [Nat.zero_add] at HC0 HC1 HD0 HD1
          rw [hw_9] at HX0 HX1 HC0 HC1 HD0 HD1 HB ⊢
          clear hw_9
          refine hK.out _ _ ⟨HC0.out.c, HC1.out.c, HD0.out.c, HD1.out.c⟩ (fun hHeld => ?_)
          clear hK K'
          try simp only [Act.put, List.setIfInBounds_toArray, List.set_cons_zero, List.set_cons_succ]
          refine wpAnyH_done (by kernel_rfl) ?_ _
          go_wp2_with fail
          go_roundw
          case rel => exact ⟨k + 1, by omega, by go_num, HX0, hide (by rw [HUA.out, HUB.out]; exact HX1.out), HB⟩
          case measure => simp [Go.RowKit.intOf]; omega
        · skip
          go_simp
          go_at_call 40
          refine (HGM.out _).mono ?_
          rintro e_ w_10 ⟨rfl, hb_10⟩
          replace HX0 := hide (HX0.out.below hb_10)
          replace HX1 := hide (HX1.out.below hb_10)
          replace HC0 := hide (HC0.out.below hb_10)
          replace HC1 := hide (HC1.out.below hb_10)
          replace HD0 := hide (HD0.out.below hb_10)
          replace HD1 := hide (HD1.out.below hb_10)
          replace HB := hide (HB.out.trans (hb_10.mono HB.out.size))
          clear hb_10
          go_wp2_with fail
          refine hK.out _ _ ⟨HC0.out.c, HC1.out.c, HD0.out.c, HD1.out.c⟩ (fun hHeld => ?_)
          clear hK K'
          try simp only [Act.put, List.setIfInBounds_toArray, List.set_cons_zero, List.set_cons_succ]
          refine wpAnyH_ready (rs := [0]) (by kernel_rfl) (by simp) ?_
          refine AllReadyH.cons (o := ⟨some 13, _, _, _, _, _⟩) rfl (fun K' hK => ?_) AllReadyH.nil
          obtain ⟨z0, z1, f0, f1, hly⟩ := HX1.out.c2
          go_simp
          clear z0 z1 f0 f1 hly
          refine hK.out _ _ ⟨HC0.out.c, HC1.out.c, HD0.out.c, HD1.out.c⟩ (fun hHeld => ?_)
          clear hK K'
          try simp only [Act.put, List.setIfInBounds_toArray, List.set_cons_zero, List.set_cons_succ]
          refine wpAnyH_ready (rs := [11]) (by kernel_rfl) (by simp) ?_
          refine AllReadyH.cons (o := ⟨some 24, _, _, _, _, _⟩) rfl (fun K' hK => ?_) AllReadyH.nil
          go_simp
          go_at_call 39
          refine (HGA.out _).mono ?_
          rintro e_ w_11 ⟨rfl, hb_11⟩
          replace HX0 := hide (HX0.out.below hb_11)
          replace HX1 := hide (HX1.out.below hb_11)
          replace HC0 := hide (HC0.out.below hb_11)
          replace HC1 := hide (HC1.out.below hb_11)
          replace HD0 := hide (HD0.out.below hb_11)
          replace HD1 := hide (HD1.out.below hb_11)
          replace HB := hide (HB.out.trans (hb_11.mono HB.out.size))
          clear hb_11
          go_wp2_with fail
          refine hK.out _ _ ⟨HC0.out.c, HC1.out.c, HD0.out.c, HD1.out.c⟩ (fun hHeld => ?_)
          clear hK K'
          try simp only [Act.put, List.setIfInBounds_toArray, List.set_cons_zero, List.set_cons_succ]
          refine wpAnyH_ready (rs := [12]) (by kernel_rfl) (by simp) ?_
          refine AllReadyH.cons (o := ⟨none, _, _, _, _, _⟩) rfl (fun K' hK => ?_) AllReadyH.nil
          obtain ⟨z0, z1, f0, f1, hly⟩ := HX1.out.c2
          go_simp
          clear z0 z1 f0 f1 hly
          replace HX0 := hide ((HX0.out.other (p := ⟨w.heap.size + 1, 0, none⟩) ne01 (.int .i64 (u + p))).other (p := ⟨w.heap.size + 1, 1, none⟩) ne01 (.int .i64 (v + r)))
          replace HX1 := hide (HX1.out.put2 (.int .i64 (u + p)) (.int .i64 (v + r)))
          replace HC0 := hide (CellV.mk (World.cell_put2 (c := w.heap.size + 1) (o := 0) HC0.out.c (by omega) (.int .i64 (u + p)) (.int .i64 (v + r))))
          replace HC1 := hide (CellV.mk (World.cell_put2 (c := w.heap.size + 1) (o := 0) HC1.out.c (by omega) (.int .i64 (u + p)) (.int .i64 (v + r))))
          replace HD0 := hide (CellV.mk (World.cell_put2 (c := w.heap.size + 1) (o := 0) HD0.out.c (by omega) (.int .i64 (u + p)) (.int .i64 (v + r))))
          replace HD1 := hide (CellV.mk (World.cell_put2 (c := w.heap.size + 1) (o := 0) HD1.out.c (by omega) (.int .i64 (u + p)) (.int .i64 (v + r))))
          replace HB := hide ((HB.out.setCell (p := ⟨w.heap.size + 1, 0, none⟩) (Nat.le_succ _) (.int .i64 (u + p))).setCell (p := ⟨w.heap.size + 1, 1, none⟩) (Nat.le_succ _) (.int .i64 (v + r)))
          obtain ⟨w_12, hw_12⟩ : ∃ q : World, (w_11.setCell ⟨w.heap.size + 1, 0, none⟩ (.int .i64 (u + p))).setCell ⟨w.heap.size + 1, 1, none⟩ (.int .i64 (v + r)) = q := ⟨_, rfl⟩
          simp only [Nat.zero_add] at HC0 HC1 HD0 HD1
          rw [hw_12] at HX0 HX1 HC0 HC1 HD0 HD1 HB ⊢
          clear hw_12
          refine hK.out _ _ ⟨HC0.out.c, HC1.out.c, HD0.out.c, HD1.out.c⟩ (fun hHeld => ?_)
          clear hK K'
          try simp only [Act.put, List.setIfInBounds_toArray, List.set_cons_zero, List.set_cons_succ]
          refine wpAnyH_done (by kernel_rfl) ?_ _
          go_wp2_with fail
          go_roundw
          case rel => exact ⟨k + 1, by omega, by go_num, HX0, hide (by rw [HUA.out, HUB.out]; exact HX1.out), HB⟩
          case measure => simp [Go.RowKit.intOf]; omega
    obtain rfl : k = n := by omega
    obtain ⟨u, hu⟩ : ∃ z, I k = z := ⟨_, rfl⟩
    obtain ⟨v, hv⟩ : ∃ z, J k = z := ⟨_, rfl⟩
    simp only [hu, hv] at HX1
    have HEU := hide hu
    have HEV := hide hv
    clear hu hv
    have HP := hide (HX0.out.put2 (.int .i64 u) (.int .i64 v))
    have HQ := hide ((HB.out.setCell (p := ⟨w.heap.size, 0, none⟩) (Nat.le_refl _) (.int .i64 u)).setCell (p := ⟨w.heap.size, 1, none⟩) (Nat.le_refl _) (.int .i64 v))
    obtain ⟨x0, x1, f0, f1, hlx⟩ := HX0.out.c2
    obtain ⟨z0, z1, -, -, hly⟩ := HX1.out.c2
    go_wp2_with fail
    clear x0 x1 z0 z1
    obtain ⟨y0, y1, -, -, hly⟩ := HP.out.c2
    refine bodyPost_ret (v := .agg #[.int .i64 u, .int .i64 v]) ?_ rfl ⟨by rw [HEU.out, HEV.out], HQ.out⟩
    simp [results, Try.results33, go_sem, y0, y1]
end Go.Proofs.Ytdkbjgnkehoplaa
