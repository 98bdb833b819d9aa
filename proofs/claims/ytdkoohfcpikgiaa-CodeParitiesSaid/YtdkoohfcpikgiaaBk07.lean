/- Lemmas: Qb, Qc, Qd, Gb. -/
import Derived.Test.YtdkoohfcpikgiaaBk02
import Derived.Test.YtdkoohfcpikgiaaBk06
set_option linter.unusedVariables false
set_option linter.unusedSimpArgs false
/- rowError, CheckParity, parityError, wordLength of the code. -/
namespace Go.Proofs.Ytdkoohfcpikgiaa
open Go.RowKit
set_option maxHeartbeats 2000000 in
theorem rowError_any (A : Option Addr) (n c : Nat) (F : Nat → Int) (ck : Int) (w : World) (hn : n ≤ 9223372036854775807) (hI : IntsAt w 0 A n F) :
    Calls Try.prog 30 #[.slice A n c, .int .i64 ck] w fun e w' => e = .returned (.int .i64 (rowErrI ck n F)) ∧ Below w.heap.size w w' := by
  have HI := hide hI
  obtain ⟨X, hX⟩ : ∃ X, X = rowErrI ck n F := ⟨_, rfl⟩
  rw [← hX]
  have HX := hide hX
  clear hX hI
  by_cases h2 : n < 2
  · have HE := hide (show X = 10 from by rw [HX.out]; unfold rowErrI; rw [if_pos h2])
    have t1 : decide ((n : Int) < (2 : Int)) = true := decide_eq_true (by omega)
    have t1' : decide (n < 2) = true := decide_eq_true h2
    clear h2 HX
    go_enter Try.func30, Try.ntmps30
    go_wp2_with fail
    go_ret
    exact ⟨ret_int HE.out.symm, by (repeat (first | (with_reducible exact Below.refl _ _) | (with_reducible refine below_drewN ?_ _) | (with_reducible refine Below.drew ?_) | (with_reducible refine Below.alloc ?_ (by first | exact Nat.le_refl _ | (simp; done) | (simp; omega) | omega) _) | (with_reducible refine Below.setCell ?_ (by first | exact Nat.le_refl _ | (simp; done) | (simp; omega) | omega) _)))⟩
  have t1 : decide ((n : Int) < (2 : Int)) = false := decide_eq_false (by omega)
  have t1' : decide (n < 2) = false := decide_eq_false h2
  by_cases h8 : 8 < n
  · have HE := hide (show X = 8 from by rw [HX.out]; unfold rowErrI; rw [if_neg h2, if_pos h8])
    have t2 : decide ((8 : Int) < (n : Int)) = true := decide_eq_true (by omega)
    have t2' : decide (8 < n) = true := decide_eq_true h8
    clear h2 h8 HX
    go_enter Try.func30, Try.ntmps30
    go_wp2_with fail
    go_ret
    exact ⟨ret_int HE.out.symm, by (repeat (first | (with_reducible exact Below.refl _ _) | (with_reducible refine below_drewN ?_ _) | (with_reducible refine Below.drew ?_) | (with_reducible refine Below.alloc ?_ (by first | exact Nat.le_refl _ | (simp; done) | (simp; omega) | omega) _) | (with_reducible refine Below.setCell ?_ (by first | exact Nat.le_refl _ | (simp; done) | (simp; omega) | omega) _)))⟩
  have HE := hide (show X = if firstBad (rposErr ck F) n = 0 then (if F (n - 1) = ck then 0 else 23) else firstBad (rposErr ck F) n from by rw [HX.out]; unfold rowErrI; rw [if_neg h2, if_neg h8])
  have t2 : decide ((8 : Int) < (n : Int)) = false := decide_eq_false (by omega)
  have t2' : decide (8 < n) = false := decide_eq_false h8
  have hn2 : 2 ≤ n := by omega
  have hn8 : n ≤ 8 := by omega
  clear h2 h8 HX
  go_enter Try.func30, Try.ntmps30
  go_wp2_with fail
  clear t1 t1' t2 t2'
  go_loopw [5, 16] (fun r i wr => ∃ k : Nat, k ≤ n ∧ i = .int .i64 k ∧ r = .int .i64 (beforeI F k) ∧ Hid (firstBad (rposErr ck F) k = 0) ∧ Below w.heap.size w wr) (fun _ i _ => n - (intOf i).toNat)
  case atStart => exact ⟨0, Nat.zero_le _, rfl, rfl, hide rfl, by (repeat (first | (with_reducible exact Below.refl _ _) | (with_reducible refine below_drewN ?_ _) | (with_reducible refine Below.drew ?_) | (with_reducible refine Below.alloc ?_ (by first | exact Nat.le_refl _ | (simp; done) | (simp; omega) | omega) _) | (with_reducible refine Below.setCell ?_ (by first | exact Nat.le_refl _ | (simp; done) | (simp; omega) | omega) _)))⟩
  case round =>
    obtain ⟨k, hk, rfl, rfl, HZ, hB⟩ := hrel
    by_cases hlt : k < n
    · have hltz : (k : Int) < (n : Int) := by omega
      obtain ⟨b, o, rfl, -, hb, hcell⟩ := (HI.out.below hB) k hlt
      by_cases hr : 0 ≤ F k ∧ F k ≤ ck
      · have HWR := hide (withinB_yes hr)
        by_cases ho : F k ≤ beforeI F k
        · have HQ := hide (show X = 9 from by rw [HE.out, firstBad_at HZ.out (by rw [rposErr_nine hr ho]; decide) n hlt, rposErr_nine hr ho]; rfl)
          have t3 : decide (F k ≤ beforeI F k) = true := by simpa using ho
          clear hr ho
          generalize F k = f at *
          generalize beforeI F k = g at *
          go_wp2_with fail
          refine (isWithin_any _ _ _ _).mono ?_; rintro e w' ⟨rfl, rfl⟩
          rw [HWR.out]
          go_wp2_with fail
          go_ret
          exact ⟨ret_int HQ.out.symm, hB⟩
        · have HG := hide (show firstBad (rposErr ck F) (k + 1) = 0 from by rw [firstBad_succ HZ.out]; exact rposErr_zero hr ho)
          have t3 : decide (F k ≤ beforeI F k) = false := by simpa using ho
          have HF := hide (show beforeI F (k + 1) = F k from rfl)
          clear hr ho
          generalize F k = f at *
          generalize beforeI F k = g at *
          go_wp2_with fail
          refine (isWithin_any _ _ _ _).mono ?_; rintro e w' ⟨rfl, rfl⟩
          rw [HWR.out]
          go_wp2_with fail
          go_roundw
          case rel => exact ⟨k + 1, by omega, by go_num, by rw [HF.out], HG, hB⟩
          case measure => simp [intOf]; omega
      · have HWR := hide (withinB_no hr)
        have HQ := hide (show X = 2 from by rw [HE.out, firstBad_at HZ.out (by rw [rposErr_two hr]; decide) n hlt, rposErr_two hr]; rfl)
        clear hr
        go_wp2_with fail
        refine (isWithin_any _ _ _ _).mono ?_; rintro e w' ⟨rfl, rfl⟩
        rw [HWR.out]
        go_wp2_with fail
        go_ret
        exact ⟨ret_int HQ.out.symm, hB⟩
    · obtain rfl : k = n := by omega
      have HL := hide (show beforeI F k = F (k - 1) from by
        obtain ⟨l, rfl⟩ : ∃ l, k = l + 1 := ⟨k - 1, by omega⟩
        rfl)
      have HQ := hide (show X = if F (k - 1) = ck then 0 else 23 from by rw [HE.out, if_pos HZ.out])
      rw [HL.out]
      generalize F (k - 1) = f at *
      by_cases he : f = ck
      · have t4 : (f == ck) = true := by simpa using he
        have HR := hide (HQ.out.trans (if_pos he))
        clear he
        go_wp2_with (go_at_call 35; refine (unless_any _ _ _).mono ?_; rintro e w' ⟨rfl, rfl⟩)
        go_ret
        exact ⟨ret_int HR.out.symm, hB⟩
      · have t4 : (f == ck) = false := by simpa using he
        have HR := hide (HQ.out.trans (if_neg he))
        clear he
        go_wp2_with (go_at_call 35; refine (unless_any _ _ _).mono ?_; rintro e w' ⟨rfl, rfl⟩)
        go_ret
        exact ⟨ret_int HR.out.symm, hB⟩
theorem par_cells {W : World} {b : Nat} {m : Int} {A : Option Addr} {n c : Nat} (bx : Box W b 24 #[.int .i64 m, .slice A n c]) :
    W.cell? ⟨b, 0, none⟩ = some (.int .i64 m) ∧ W.cell? ⟨b, 1, none⟩ = some (.slice A n c) ∧ b < W.heap.size := ⟨bx.at_ 0, bx.at_ 1, bx.lt⟩
set_option maxHeartbeats 4000000 in
theorem checkParity_any (m : Int) (A : Option Addr) (n c : Nat) (L : Nat → Nat) (R : Nat → Nat → Int) (w : World) (hn : n ≤ 9223372036854775807) (hI : ListsAt w 0 A n L R) :
    Calls Try.prog 8 #[.agg #[.int .i64 m, .slice A n c]] w fun e w' => e = .returned (.tuple #[.int .i64 (parNum m n L R : Int), .int .i64 (parErrI m n L R)]) ∧ Below w.heap.size w w' := by
  have HI := hide hI
  obtain ⟨X, hX⟩ : ∃ X, X = parErrI m n L R := ⟨_, rfl⟩
  obtain ⟨Y, hY⟩ : ∃ Y, Y = parNum m n L R := ⟨_, rfl⟩
  rw [← hX, ← hY]
  have HX := hide hX
  have HY := hide hY
  clear hX hY hI
  by_cases hm : 1 ≤ m ∧ m ≤ 40
  · have HW := hide (withinB_yes hm)
    by_cases h0 : n = 0
    · have HE := hide (show X = 10 from by rw [HX.out]; unfold parErrI; rw [if_pos hm, if_pos h0])
      have HN := hide (show Y = 0 from by rw [HY.out]; unfold parNum; rw [if_pos hm, if_pos h0])
      subst h0
      clear hm HX HY
      go_enter Try.func8, Try.ntmps8
      go_wp2_with fail
      refine (isWithin_any _ _ _ _).mono ?_; rintro e w' ⟨rfl, rfl⟩
      rw [HW.out]
      go_wp2_with fail
      go_ret2
      exact ⟨by rw [HE.out, HN.out]; rfl, by (repeat (first | (with_reducible exact Below.refl _ _) | (with_reducible refine below_drewN ?_ _) | (with_reducible refine Below.drew ?_) | (with_reducible refine Below.alloc ?_ (by first | exact Nat.le_refl _ | (simp; done) | (simp; omega) | omega) _) | (with_reducible refine Below.setCell ?_ (by first | exact Nat.le_refl _ | (simp; done) | (simp; omega) | omega) _)))⟩
    have t0 : ((n : Int) == 0) = false := by simp; omega
    by_cases h20 : 20 < n
    · have HE := hide (show X = 8 from by rw [HX.out]; unfold parErrI; rw [if_pos hm, if_neg h0, if_pos h20])
      have HN := hide (show Y = 0 from by rw [HY.out]; unfold parNum; rw [if_pos hm, if_neg h0, if_pos h20])
      have t2 : decide ((20 : Int) < (n : Int)) = true := decide_eq_true (by omega)
      have t2' : decide (20 < n) = true := decide_eq_true h20
      clear hm h0 h20 HX HY
      go_enter Try.func8, Try.ntmps8
      go_wp2_with fail
      refine (isWithin_any _ _ _ _).mono ?_; rintro e w' ⟨rfl, rfl⟩
      rw [HW.out]
      go_wp2_with fail
      go_ret2
      exact ⟨by rw [HE.out, HN.out]; rfl, by (repeat (first | (with_reducible exact Below.refl _ _) | (with_reducible refine below_drewN ?_ _) | (with_reducible refine Below.drew ?_) | (with_reducible refine Below.alloc ?_ (by first | exact Nat.le_refl _ | (simp; done) | (simp; omega) | omega) _) | (with_reducible refine Below.setCell ?_ (by first | exact Nat.le_refl _ | (simp; done) | (simp; omega) | omega) _)))⟩
    have HE := hide (HX.out.trans (parErrI_rows hm h0 h20))
    have HN := hide (HY.out.trans (parNum_rows hm h0 h20))
    have t2 : decide ((20 : Int) < (n : Int)) = false := decide_eq_false (by omega)
    have t2' : decide (20 < n) = false := decide_eq_false h20
    have hn0 : 0 < n := by omega
    have hn20 : n ≤ 20 := by omega
    obtain ⟨hm1, hm2⟩ := hm
    clear h0 h20 HX HY
    go_enter Try.func8, Try.ntmps8
    go_wp2_with fail
    refine (isWithin_any _ _ _ _).mono ?_; rintro e w' ⟨rfl, rfl⟩
    rw [HW.out]
    go_wp2_with fail
    clear t0 t2 t2'
    go_loopw [25] (fun i wr => ∃ k : Nat, k ≤ n ∧ i = .int .i64 k ∧ Hid (firstBad (parRow m L R) k = 0) ∧ Box wr w.heap.size 24 #[.int .i64 m, .slice A n c] ∧ Below w.heap.size w wr) (fun i _ => n - (intOf i).toNat)
    case atStart => exact ⟨0, Nat.zero_le _, rfl, hide rfl, Box.made rfl, by (repeat (first | (with_reducible exact Below.refl _ _) | (with_reducible refine below_drewN ?_ _) | (with_reducible refine Below.drew ?_) | (with_reducible refine Below.alloc ?_ (by first | exact Nat.le_refl _ | (simp; done) | (simp; omega) | omega) _) | (with_reducible refine Below.setCell ?_ (by first | exact Nat.le_refl _ | (simp; done) | (simp; omega) | omega) _)))⟩
    case round =>
      obtain ⟨k, hk, rfl, HZ, bx, hB⟩ := hrel
      obtain ⟨z0, z1, hlz⟩ := par_cells bx
      by_cases hlt : k < n
      · have hltz : (k : Int) < (n : Int) := by omega
        have q1 : IntKind.i64.wrap (m + (k : Int)) = m + (k : Int) := IntWalk.i64_in _ (by omega)
        obtain ⟨b, o, Ai, ci, rfl, -, hb, hcell, hlc, hc9, hIk⟩ := (HI.out.below hB) k hlt
        have HIk := hide hIk
        have HRE := hide (fun W hW => rowError_any Ai (L k) ci (R k) (m + k) W (by omega) hW)
        have hg := hide (show firstBad (parRow m L R) (k + 1) = rowErrI (m + k) (L k) (R k) from firstBad_succ HZ.out)
        have HFB := hide (show rowErrI (m + k) (L k) (R k) ≠ 0 → firstBad (parRow m L R) n = rowErrI (m + k) (L k) (R k) from fun h => firstBad_at HZ.out h n hlt)
        have HFI := hide (show rowErrI (m + k) (L k) (R k) ≠ 0 → firstIdx (parRow m L R) n = k from fun h => firstIdx_at HZ.out h n hlt)
        clear hIk
        generalize rowErrI (m + k) (L k) (R k) = r at *
        by_cases hz : r = 0
        · subst hz
          clear HFB HFI
          go_wp2_with fail
          refine (HRE.out _ HIk.out).mono ?_
          rintro e w2 ⟨rfl, hb2⟩
          go_wp2_with fail
          go_roundw
          case rel => exact ⟨k + 1, by omega, by go_num, hide hg.out, bx.below hb2, hB.trans (hb2.mono hB.size)⟩
          case measure => simp [intOf]; omega
        · have t5 : (r != 0) = true := by simpa using hz
          have HQ := hide (show X = r from by rw [HE.out, HFB.out hz])
          have HP := hide (show Y = k from by rw [HN.out, HFB.out hz, if_neg hz, HFI.out hz])
          clear hz hg HFB HFI
          go_wp2_with fail
          refine (HRE.out _ HIk.out).mono ?_
          rintro e w2 ⟨rfl, hb2⟩
          go_wp2_with fail
          go_ret2
          exact ⟨by rw [HQ.out, HP.out]; rfl, hB.trans (hb2.mono hB.size)⟩
      · obtain rfl : k = n := by omega
        have HQ := hide (show X = 0 from by rw [HE.out, HZ.out])
        have HP := hide (show Y = 0 from by rw [HN.out, HZ.out]; rfl)
        go_wp2_with fail
        go_ret2
        exact ⟨by rw [HQ.out, HP.out]; rfl, hB⟩
  · have HE := hide (show X = 2 from by rw [HX.out]; exact if_neg hm)
    have HN := hide (show Y = 0 from by rw [HY.out]; exact if_neg hm)
    have HW := hide (withinB_no hm)
    clear hm HX HY
    go_enter Try.func8, Try.ntmps8
    go_wp2_with fail
    refine (isWithin_any _ _ _ _).mono ?_; rintro e w' ⟨rfl, rfl⟩
    rw [HW.out]
    go_wp2_with fail
    go_ret2
    exact ⟨by rw [HE.out, HN.out]; rfl, by (repeat (first | (with_reducible exact Below.refl _ _) | (with_reducible refine below_drewN ?_ _) | (with_reducible refine Below.drew ?_) | (with_reducible refine Below.alloc ?_ (by first | exact Nat.le_refl _ | (simp; done) | (simp; omega) | omega) _) | (with_reducible refine Below.setCell ?_ (by first | exact Nat.le_refl _ | (simp; done) | (simp; omega) | omega) _)))⟩
set_option maxHeartbeats 1000000 in
theorem parityError_any (m : Int) (A : Option Addr) (n c : Nat) (L : Nat → Nat) (R : Nat → Nat → Int) (w : World) (hn : n ≤ 9223372036854775807) (hI : ListsAt w 0 A n L R) :
    Calls Try.prog 33 #[.agg #[.int .i64 m, .slice A n c]] w fun e w' => e = .returned (.int .i64 (parErrI m n L R)) ∧ Below w.heap.size w w' := by
  have HX := hide (fun W hW => checkParity_any m A n c L R W hn hW)
  have HI := hide hI
  clear hI
  go_enter Try.func33, Try.ntmps33
  go_wp2_with fail
  refine (HX.out _ (HI.out.alloc _)).mono ?_
  rintro e w1 ⟨rfl, hb1⟩
  go_wp2_with fail
  go_ret
  exact ⟨rfl, (((Below.refl _ _).alloc (Nat.le_refl _) _).trans (hb1.mono (by simp)))⟩
set_option maxHeartbeats 1000000 in
theorem wordLength_any (m : Int) (A : Option Addr) (n c : Nat) (w : World) :
    Calls Try.prog 54 #[.agg #[.int .i64 m, .slice A n c]] w fun e w' => e = .returned (.int .i64 (IntKind.i64.wrap (m + n))) ∧ Below w.heap.size w w' := by
  obtain ⟨z, hz⟩ : ∃ z, IntKind.i64.wrap (m + (n : Int)) = z := ⟨_, rfl⟩
  rw [hz]
  go_enter Try.func54, Try.ntmps54
  go_wp2_with fail
  go_ret
  exact ⟨rfl, by (repeat (first | (with_reducible exact Below.refl _ _) | (with_reducible refine below_drewN ?_ _) | (with_reducible refine Below.drew ?_) | (with_reducible refine Below.alloc ?_ (by first | exact Nat.le_refl _ | (simp; done) | (simp; omega) | omega) _) | (with_reducible refine Below.setCell ?_ (by first | exact Nat.le_refl _ | (simp; done) | (simp; omega) | omega) _)))⟩
end Go.Proofs.Ytdkoohfcpikgiaa
/- oddness, failed of the code. -/
namespace Go.Proofs.Ytdkoohfcpikgiaa
open Go.RowKit
set_option maxHeartbeats 2000000 in
theorem oddness_any (A C : Option Addr) (N c n d : Nat) (X R : Nat → Int) (w : World) (hn : n ≤ 1000) (hX : IntsAt w 0 A N X) (hR : IntsAt w 0 C n R) (hp : ∀ k, k < n → 0 ≤ R k ∧ (R k).toNat < N ∧ IsBit (X (R k).toNat)) :
    Calls Try.prog 37 #[.slice A N c, .slice C n d] w fun e w' => e = .returned (.int .i64 (psum X R n % 2)) ∧ w = w' := by
  have HX := hide hX
  have HR := hide hR
  have HP := hide hp
  clear hX hR hp
  go_enter Try.func37, Try.ntmps37
  go_wp2_with fail
  go_loopw [5, 10] (fun s i wr => ∃ k : Nat, k ≤ n ∧ i = .int .i64 k ∧ s = .int .i64 (psum X R k % 2) ∧ w = wr) (fun _ i _ => n - (intOf i).toNat)
  case atStart => exact ⟨0, Nat.zero_le _, rfl, rfl, rfl⟩
  case round =>
    obtain ⟨k, hk, rfl, rfl, rfl⟩ := hrel
    by_cases hlt : k < n
    · have hltz : (k : Int) < (n : Int) := by omega
      obtain ⟨h0, h1, h2⟩ := HP.out k hlt
      have HS := hide (psum_xor (R := R) h2)
      obtain ⟨b, o, rfl, -, hb, hcell⟩ := HR.out k hlt
      obtain ⟨p, hpe⟩ := Int.eq_ofNat_of_zero_le h0
      rw [hpe, Int.toNat_natCast] at h1 HS
      rw [hpe] at hcell
      obtain ⟨b2, o2, rfl, -, hb2, hcell2⟩ := HX.out p h1
      have h1z : (p : Int) < (N : Int) := by omega
      have HPE := hide hpe
      clear h0 h2 hpe
      generalize psum X R k % 2 = s at *
      go_wp2_with fail
      go_roundw
      case rel => exact ⟨k + 1, by omega, by go_num, by rw [HS.out], by first | rfl | trivial⟩
      case measure => simp [intOf]; omega
    · obtain rfl : k = n := by omega
      go_wp2_with fail
      go_ret
      exact ⟨rfl, rfl⟩
theorem odd_bit (X R : Nat → Int) (n : Nat) : psum X R n % 2 = if oddB X n R = true then 1 else 0 := by
  unfold oddB
  by_cases h : psum X R n % 2 = 1
  · rw [h]; rfl
  · rw [if_neg (by simpa using h)]; omega
/-- What the rows ask of a word of N bits. -/
def WordOk (N n : Nat) (L : Nat → Nat) (R : Nat → Nat → Int) (X : Nat → Int) : Prop := ∀ i k, i < n → k < L i → 0 ≤ R i k ∧ (R i k).toNat < N ∧ IsBit (X (R i k).toNat)
theorem WordOk.of {m n : Nat} {L : Nat → Nat} {R : Nat → Nat → Int} {X : Nat → Int} (h : ParOk m n L R) (hX : ∀ j, j < m + n → IsBit (X j)) : WordOk (m + n) n L R X := fun i k hi hk => by
  obtain ⟨h1, h2⟩ := h.place hi hk
  exact ⟨h1, h2, hX _ h2⟩
set_option maxHeartbeats 4000000 in
theorem failed_any (m : Int) (A C : Option Addr) (n c N d : Nat) (L : Nat → Nat) (R : Nat → Nat → Int) (X : Nat → Int) (w : World) (hn : n ≤ 1000) (hL : ∀ i, i < n → L i ≤ 1000) (hI : ListsAt w 0 A n L R) (hX : IntsAt w 0 C N X) (hp : WordOk N n L R X) :
    Calls Try.prog 39 #[.agg #[.int .i64 m, .slice A n c], .slice C N d] w fun e w' => ∃ v, e = .returned v ∧ OwnInts w' w.heap.size v (failN n L R X) (pickF (failP L R X) n) ∧ Below w.heap.size w w' := by
  have HI := hide hI
  have HX := hide hX
  have HL := hide hL
  have HP := hide hp
  clear hI hX hL hp
  go_enter Try.func39, Try.ntmps39
  go_wp2_with fail
  go_loopw [5, 11] (fun v i wr => ∃ k : Nat, k ≤ n ∧ i = .int .i64 k ∧ OwnInts wr w.heap.size v (pickN (failP L R X) k) (pickF (failP L R X) k) ∧ Below w.heap.size w wr) (fun _ i _ => n - (intOf i).toNat)
  case atStart => exact ⟨0, Nat.zero_le _, rfl, OwnInts.nil_ _ _ _, by (repeat (first | (with_reducible exact Below.refl _ _) | (with_reducible refine below_drewN ?_ _) | (with_reducible refine Below.drew ?_) | (with_reducible refine Below.alloc ?_ (by first | exact Nat.le_refl _ | (simp; done) | (simp; omega) | omega) _) | (with_reducible refine Below.setCell ?_ (by first | exact Nat.le_refl _ | (simp; done) | (simp; omega) | omega) _)))⟩
  case round =>
    obtain ⟨k, hk, rfl, hown, hB⟩ := hrel
    have hBs := hB.size
    by_cases hlt : k < n
    · have hltz : (k : Int) < (n : Int) := by omega
      obtain ⟨b, o, Ai, ci, rfl, -, hb, hcell, hlc, hc9, hIk⟩ := (HI.out.below hB) k hlt
      have HOD := hide (oddness_any C Ai N d (L k) ci X (R k) wr (HL.out k hlt) (HX.out.below hB) hIk (fun j hj => HP.out k j hlt hj))
      rw [odd_bit] at HOD
      have hle := pickN_le (failP L R X) k
      obtain ⟨As, cs, rfl, hcs, hIs⟩ := hown.form
      clear hIk hIs
      cases ho : oddB X (L k) (R k)
      · have ho' : failP L R X k = false := ho
        rw [ho] at HOD
        have HN := hide (pickN_no ho')
        have HF := hide (fun j => pickF_no ho' j)
        clear ho ho'
        go_wp2_with fail
        refine HOD.out.mono ?_
        rintro e w2 ⟨rfl, rfl⟩
        go_wp2_with fail
        go_roundw
        case rel => exact ⟨k + 1, by omega, by go_num, by rw [HN.out]; exact hown.congr fun j _ => (HF.out j).symm, hB⟩
        case measure => simp [intOf]; omega
      · have ho' : failP L R X k = true := ho
        rw [ho] at HOD
        have HN := hide (pickN_yes ho')
        have HF := hide (fun j hj => pickF_yes ho' (j := j) hj)
        clear ho ho'
        go_wp2_with fail
        refine HOD.out.mono ?_
        rintro e w2 ⟨rfl, rfl⟩
        go_wp2_with (at_builtin; refine wpList_append_ints _ rfl (.tmp 20) (.tmp 22) rfl w.heap.size 0 (.slice As (pickN (failP L R X) k) cs) (pickN (failP L R X) k) _ rfl (hown.alloc _) (some ⟨wr.heap.size, 0, none⟩) 1 1 (fun _ => (k : Int)) rfl (IntsAt.one _ _ _ _ (Nat.zero_le _)) (by omega) (by simp; omega) ?_; intro v' w' h1 hb2)
        go_roundw
        case rel => exact ⟨k + 1, by omega, by go_num, by rw [HN.out]; exact h1.congr HF.out, (hB.alloc hBs _).trans hb2⟩
        case measure => simp [intOf]; omega
    · obtain rfl : k = n := by omega
      go_wp2_with fail
      go_ret
      exact ⟨_, rfl, hown, hB⟩
end Go.Proofs.Ytdkoohfcpikgiaa
/- odd, CheckParity, ParityErr of the reference. -/
namespace Go.Proofs.Ytdkoohfcpikgiaa
open Go.RowKit Go.Shelf
set_option maxHeartbeats 2000000 in
theorem oddR_any (A C : Option Addr) (N c n d : Nat) (X R : Nat → Int) (w : World) (hn : n ≤ 1000) (hX : IntsAt w 0 A N X) (hR : IntsAt w 0 C n R) (hp : ∀ k, k < n → 0 ≤ R k ∧ (R k).toNat < N ∧ IsBit (X (R k).toNat)) :
    Calls Try.prog 42 #[.slice C n d, .slice A N c] w fun e w' => e = .returned (.bool (oddB X n R)) ∧ ∃ q, w' = w.drewN q := by
  have HX := hide hX
  have HR := hide hR
  have HP := hide hp
  have hs := psum_in (X := X) (R := R) (k := n) (fun j hj => (hp j hj).2.2)
  have hq2 := hide (show (psum X R n).tmod 2 = psum X R n % 2 from Int.tmod_eq_emod_of_nonneg hs.1)
  clear hX hR hp hs
  go_enter Try.func42, Try.ntmps42
  go_wp2_with fail
  go_loopw [5, 6] (fun s i wr => ∃ k q : Nat, k ≤ n ∧ i = .int .i64 k ∧ s = .int .i64 (psum X R k) ∧ wr = w.drewN q) (fun _ i _ => n - (intOf i).toNat)
  case atStart => exact ⟨0, 0, Nat.zero_le _, rfl, rfl, rfl⟩
  case round =>
    obtain ⟨k, q, hk, rfl, rfl, rfl⟩ := hrel
    by_cases hlt : k < n
    · have hltz : (k : Int) < (n : Int) := by omega
      obtain ⟨h0, h1, h2⟩ := HP.out k hlt
      have hle := psum_in (X := X) (R := R) (k := k) (fun j hj => (HP.out j (by omega)).2.2)
      have h3 := h2.le
      have q1 : IntKind.i64.wrap (psum X R k + X (R k).toNat) = psum X R k + X (R k).toNat := IntWalk.i64_in _ (by omega)
      have HS := hide (show psum X R (k + 1) = psum X R k + X (R k).toNat from rfl)
      obtain ⟨b, o, rfl, -, hb, hcell⟩ := HR.out k hlt
      obtain ⟨p, hpe⟩ := Int.eq_ofNat_of_zero_le h0
      rw [hpe, Int.toNat_natCast] at h1 HS q1
      rw [hpe] at hcell
      obtain ⟨b2, o2, rfl, -, hb2, hcell2⟩ := HX.out p h1
      have h1z : (p : Int) < (N : Int) := by omega
      clear h0 h2 hpe hle h3
      generalize psum X R k = s at *
      go_wp2_with fail
      go_roundw
      case rel => exact ⟨k + 1, _, by omega, by go_num, by rw [HS.out], by first | rfl | exact World.drewN_drewN _ _ _⟩
      case measure => simp [intOf]; omega
    · obtain rfl : k = n := by omega
      have q2 := hq2.out
      by_cases ho : psum X R k % 2 = 1
      · have HO := hide (show oddB X k R = true from by unfold oddB; simpa using ho)
        rw [ho] at q2
        clear ho
        go_wp2_with fail
        go_ret
        exact ⟨ret_bool HO.out.symm, _, rfl⟩
      · have HO := hide (show oddB X k R = false from by unfold oddB; simpa using ho)
        have hz : psum X R k % 2 = 0 := by omega
        rw [hz] at q2
        clear ho hz
        go_wp2_with fail
        go_ret
        exact ⟨ret_bool HO.out.symm, _, rfl⟩
set_option maxHeartbeats 8000000 in
set_option maxRecDepth 100000 in
theorem checkParityR_any (m : Int) (A : Option Addr) (n c : Nat) (L : Nat → Nat) (R : Nat → Nat → Int) (w : World) (hn : n ≤ 9223372036854775807) (hI : ListsAt w 0 A n L R) :
    Calls Try.prog 14 #[.agg #[.int .i64 m, .slice A n c]] w fun e w' => e = .returned (.tuple #[.int .i64 (parNum m n L R : Int), .int .i64 (parErrI m n L R)]) ∧ Below w.heap.size w w' := by
  have HI := hide hI
  obtain ⟨X, hX⟩ : ∃ X, X = parErrI m n L R := ⟨_, rfl⟩
  obtain ⟨Y, hY⟩ : ∃ Y, Y = parNum m n L R := ⟨_, rfl⟩
  rw [← hX, ← hY]
  have HX := hide hX
  have HY := hide hY
  clear hX hY hI
  by_cases hm : 1 ≤ m ∧ m ≤ 40
  · have HW := hide (withinB_yes hm)
    by_cases h0 : n = 0
    · have HE := hide (show X = 10 from by rw [HX.out]; unfold parErrI; rw [if_pos hm, if_pos h0])
      have HN := hide (show Y = 0 from by rw [HY.out]; unfold parNum; rw [if_pos hm, if_pos h0])
      subst h0
      clear hm HX HY
      go_enter Try.func14, Try.ntmps14
      go_wp2_with fail
      refine (within_any _ _ _ _).mono ?_; rintro e w' ⟨rfl, rfl⟩
      rw [HW.out]
      go_wp2_with fail
      go_ret2
      exact ⟨by rw [HE.out, HN.out]; rfl, by (repeat (first | (with_reducible exact Below.refl _ _) | (with_reducible refine below_drewN ?_ _) | (with_reducible refine Below.drew ?_) | (with_reducible refine Below.alloc ?_ (by first | exact Nat.le_refl _ | (simp; done) | (simp; omega) | omega) _) | (with_reducible refine Below.setCell ?_ (by first | exact Nat.le_refl _ | (simp; done) | (simp; omega) | omega) _)))⟩
    have t0 : ((n : Int) == 0) = false := by simp; omega
    by_cases h20 : 20 < n
    · have HE := hide (show X = 8 from by rw [HX.out]; unfold parErrI; rw [if_pos hm, if_neg h0, if_pos h20])
      have HN := hide (show Y = 0 from by rw [HY.out]; unfold parNum; rw [if_pos hm, if_neg h0, if_pos h20])
      have t2 : decide ((20 : Int) < (n : Int)) = true := decide_eq_true (by omega)
      have t2' : decide (20 < n) = true := decide_eq_true h20
      clear hm h0 h20 HX HY
      go_enter Try.func14, Try.ntmps14
      go_wp2_with fail
      refine (within_any _ _ _ _).mono ?_; rintro e w' ⟨rfl, rfl⟩
      rw [HW.out]
      go_wp2_with fail
      go_ret2
      exact ⟨by rw [HE.out, HN.out]; rfl, by (repeat (first | (with_reducible exact Below.refl _ _) | (with_reducible refine below_drewN ?_ _) | (with_reducible refine Below.drew ?_) | (with_reducible refine Below.alloc ?_ (by first | exact Nat.le_refl _ | (simp; done) | (simp; omega) | omega) _) | (with_reducible refine Below.setCell ?_ (by first | exact Nat.le_refl _ | (simp; done) | (simp; omega) | omega) _)))⟩
    have HE := hide (HX.out.trans (parErrI_rows hm h0 h20))
    have HN := hide (HY.out.trans (parNum_rows hm h0 h20))
    have t2 : decide ((20 : Int) < (n : Int)) = false := decide_eq_false (by omega)
    have t2' : decide (20 < n) = false := decide_eq_false h20
    have hn0 : 0 < n := by omega
    have hn20 : n ≤ 20 := by omega
    obtain ⟨hm1, hm2⟩ := hm
    clear h0 h20 HX HY
    go_enter Try.func14, Try.ntmps14
    go_wp2_with fail
    refine (within_any _ _ _ _).mono ?_; rintro e w' ⟨rfl, rfl⟩
    rw [HW.out]
    go_wp2_with fail
    clear t0 t2 t2'
    go_loopw [4] (fun i wr => ∃ k : Nat, k ≤ n ∧ i = .int .i64 k ∧ Hid (firstBad (parRow m L R) k = 0) ∧ Box wr w.heap.size 24 #[.int .i64 m, .slice A n c] ∧ Below w.heap.size w wr) (fun i _ => n - (intOf i).toNat)
    case atStart => exact ⟨0, Nat.zero_le _, rfl, hide rfl, Box.made rfl, by (repeat (first | (with_reducible exact Below.refl _ _) | (with_reducible refine below_drewN ?_ _) | (with_reducible refine Below.drew ?_) | (with_reducible refine Below.alloc ?_ (by first | exact Nat.le_refl _ | (simp; done) | (simp; omega) | omega) _) | (with_reducible refine Below.setCell ?_ (by first | exact Nat.le_refl _ | (simp; done) | (simp; omega) | omega) _)))⟩
    case round =>
      obtain ⟨k, hk, rfl, HZ, bx, hB⟩ := hrel
      obtain ⟨wA, rfl⟩ : ∃ x : World, x = wr := ⟨_, rfl⟩
      obtain ⟨z0, z1, hlz⟩ := par_cells bx
      by_cases hlt : k < n
      · have hltz : (k : Int) < (n : Int) := by omega
        have q1 : IntKind.i64.wrap (m + (k : Int)) = m + (k : Int) := IntWalk.i64_in _ (by omega)
        obtain ⟨b, o, Ai, ci, rfl, -, hb, hcell, hlc, hc9, hIk⟩ := (HI.out.below hB) k hlt
        have HIk := hide hIk
        have hg := hide (show firstBad (parRow m L R) (k + 1) = rowErrI (m + k) (L k) (R k) from firstBad_succ HZ.out)
        have HQ := hide (show rowErrI (m + k) (L k) (R k) ≠ 0 → X = rowErrI (m + k) (L k) (R k) from fun h => by rw [HE.out]; exact firstBad_at HZ.out h n hlt)
        have HP := hide (show rowErrI (m + k) (L k) (R k) ≠ 0 → Y = k from fun h => by
          have e : firstBad (parRow m L R) n = rowErrI (m + k) (L k) (R k) := firstBad_at HZ.out h n hlt
          rw [HN.out, e, if_neg h]
          exact firstIdx_at HZ.out h n hlt)
        obtain ⟨l, hl⟩ : ∃ l, l = L k := ⟨_, rfl⟩
        obtain ⟨F, hF⟩ : ∃ F, F = R k := ⟨_, rfl⟩
        rw [← hl] at hcell hlc HIk
        rw [← hF] at HIk
        rw [← hl, ← hF] at hg HQ HP
        clear hIk hl hF HI HE HN
        have hl9 : l ≤ 9223372036854775807 := by omega
        by_cases h2 : l < 2
        · have hr := hide (show rowErrI (m + k) l F = 10 from by unfold rowErrI; rw [if_pos h2])
          rw [hr.out] at HQ HP
          have t1 : decide ((l : Int) < (2 : Int)) = true := decide_eq_true (by omega)
          have t1' : decide (l < 2) = true := decide_eq_true h2
          have HQ' := hide (HQ.out (by decide))
          have HP' := hide (HP.out (by decide))
          clear h2 HQ HP
          go_wp2_with fail
          go_ret2
          exact ⟨by rw [HQ'.out, HP'.out]; rfl, by first | exact hB | exact hB.drew | exact below_drewN hB _⟩
        have t1 : decide ((l : Int) < (2 : Int)) = false := decide_eq_false (by omega)
        have t1' : decide (l < 2) = false := decide_eq_false h2
        by_cases h8 : 8 < l
        · have hr := hide (show rowErrI (m + k) l F = 8 from by unfold rowErrI; rw [if_neg h2, if_pos h8])
          rw [hr.out] at HQ HP
          have t3 : decide ((8 : Int) < (l : Int)) = true := decide_eq_true (by omega)
          have t3' : decide (8 < l) = true := decide_eq_true h8
          have HQ' := hide (HQ.out (by decide))
          have HP' := hide (HP.out (by decide))
          clear h2 h8 HQ HP
          go_wp2_with fail
          go_ret2
          exact ⟨by rw [HQ'.out, HP'.out]; rfl, by first | exact hB | exact hB.drew | exact below_drewN hB _⟩
        have t3 : decide ((8 : Int) < (l : Int)) = false := decide_eq_false (by omega)
        have t3' : decide (8 < l) = false := decide_eq_false h8
        have HR := hide (show rowErrI (m + k) l F = if firstBad (rposErr (m + k) F) l = 0 then (if F (l - 1) = m + k then 0 else 23) else firstBad (rposErr (m + k) F) l from by unfold rowErrI; rw [if_neg h2, if_neg h8])
        generalize rowErrI (m + k) l F = r at *
        have hl2 : 2 ≤ l := by omega
        have hl8 : l ≤ 8 := by omega
        obtain ⟨ck, hck⟩ : ∃ ck : Int, ck = m + k := ⟨_, rfl⟩
        rw [← hck] at HR
        have q3 : IntKind.i64.wrap (m + (k : Int)) = ck := q1.trans hck.symm
        have hck9 : 0 ≤ ck ∧ ck ≤ 100 := by omega
        obtain ⟨hck0, hck1⟩ := hck9
        clear h2 h8 hck q1
        go_wp2_with fail
        go_loopw [6] (fun i wr => ∃ j : Nat, j ≤ l ∧ i = .int .i64 j ∧ Hid (firstBad (rposErr ck F) j = 0) ∧ Box wr w.heap.size 24 #[.int .i64 m, .slice (some ⟨b, o, none⟩) n c] ∧ IntsAt wr 0 Ai l F ∧ Below w.heap.size w wr) (fun i _ => l - (intOf i).toNat)
        case atStart => exact ⟨0, Nat.zero_le _, rfl, hide rfl, bx, HIk.out, hB⟩
        case round =>
          clear bx hB z0 z1 hlz t1 t1' t3 t3' hcell
          obtain ⟨j, hj, rfl, HJ, bx, hIj, hB⟩ := hrel
          obtain ⟨z0, z1, hlz⟩ := par_cells bx
          by_cases hlj : j < l
          · have hljz : (j : Int) < (l : Int) := by omega
            obtain ⟨b1, o1, rfl, -, hb1, hcell1⟩ := hIj j hlj
            by_cases hr : 0 ≤ F j ∧ F j ≤ ck
            · have hw := withinB_yes hr
              by_cases hj0 : j = 0
              · have HG := hide (show rposErr ck F j = 0 from by unfold rposErr; rw [if_pos hr, if_neg (by omega)])
                have t4 : decide (0 < j) = false := by simp; omega
                have HIj := hide hIj
                clear hr hj0 hIj
                go_wp2_with fail
                go_quiet ((go_at_call 22; first | exact quiet_add_same ((within_any _ _ _ _).mono fun _ _ h => ⟨h.1, h.2.symm⟩) | exact Calls.quiet_of_same ((within_any _ _ _ _).mono fun _ _ h => ⟨h.1, h.2.symm⟩)))
                go_wp2_with fail
                go_quiet (fail)
                go_wp2_with fail
                go_roundw
                case rel => exact ⟨j + 1, by omega, by go_num, hide (by rw [firstBad_succ HJ.out]; exact HG.out), bx.drewN _, HIj.out.drewN _, below_drewN hB _⟩
                case measure => simp [intOf]; omega
              · have t4 : decide (0 < j) = true := by simp; omega
                obtain ⟨b2, o2, e2, -, hb2, hcell2⟩ := hIj (j - 1) (by omega)
                injection e2 with e2; injection e2 with e2 e3; subst e2; subst e3
                have q2 : IntKind.i64.wrap ((j : Int) - 1) = ((j - 1 : Nat) : Int) := by rw [IntWalk.i64_in _ (by omega)]; omega
                have hlt2 : ((j - 1 : Nat) : Int) < (l : Int) := by omega
                by_cases ho : F j ≤ F (j - 1)
                · have t5 : decide (F j ≤ F (j - 1)) = true := by simpa using ho
                  have HG := hide (show rposErr ck F j = 9 from by unfold rposErr; rw [if_pos hr, if_pos ⟨by omega, ho⟩])
                  have HV := hide (show r = 9 from by rw [HR.out, firstBad_at HJ.out (by rw [HG.out]; decide) l hlj, HG.out]; rfl)
                  have HQ' := hide (HQ.out (by rw [HV.out]; decide))
                  have HP' := hide (HP.out (by rw [HV.out]; decide))
                  clear hr hj0 ho hIj
                  go_wp2_with fail
                  go_quiet ((go_at_call 22; first | exact quiet_add_same ((within_any _ _ _ _).mono fun _ _ h => ⟨h.1, h.2.symm⟩) | exact Calls.quiet_of_same ((within_any _ _ _ _).mono fun _ _ h => ⟨h.1, h.2.symm⟩)))
                  go_wp2_with fail
                  go_quiet (fail)
                  go_wp2_with fail
                  go_ret2
                  exact ⟨by rw [HQ'.out, HP'.out, HV.out]; rfl, below_drewN (below_drewN hB _) _⟩
                · have t5 : decide (F j ≤ F (j - 1)) = false := by simpa using ho
                  have HG := hide (show rposErr ck F j = 0 from by unfold rposErr; rw [if_pos hr, if_neg (fun h => ho h.2)])
                  have HIj := hide hIj
                  clear hr hj0 ho hIj
                  go_wp2_with fail
                  go_quiet ((go_at_call 22; first | exact quiet_add_same ((within_any _ _ _ _).mono fun _ _ h => ⟨h.1, h.2.symm⟩) | exact Calls.quiet_of_same ((within_any _ _ _ _).mono fun _ _ h => ⟨h.1, h.2.symm⟩)))
                  go_wp2_with fail
                  go_quiet (fail)
                  go_wp2_with fail
                  go_roundw
                  case rel => exact ⟨j + 1, by omega, by go_num, hide (by rw [firstBad_succ HJ.out]; exact HG.out), bx.drewN _, HIj.out.drewN _, below_drewN hB _⟩
                  case measure => simp [intOf]; omega
            · have hw := withinB_no hr
              have HG := hide (show rposErr ck F j = 2 from if_neg hr)
              have HV := hide (show r = 2 from by rw [HR.out, firstBad_at HJ.out (by rw [HG.out]; decide) l hlj, HG.out]; rfl)
              have HQ' := hide (HQ.out (by rw [HV.out]; decide))
              have HP' := hide (HP.out (by rw [HV.out]; decide))
              clear hr hIj
              go_wp2_with fail
              go_quiet ((go_at_call 22; first | exact quiet_add_same ((within_any _ _ _ _).mono fun _ _ h => ⟨h.1, h.2.symm⟩) | exact Calls.quiet_of_same ((within_any _ _ _ _).mono fun _ _ h => ⟨h.1, h.2.symm⟩)))
              go_wp2_with fail
              go_ret2
              exact ⟨by rw [HQ'.out, HP'.out, HV.out]; rfl, below_drewN hB _⟩
          · obtain rfl : j = l := by omega
            obtain ⟨b2, o2, rfl, -, hb2, hcell2⟩ := hIj (j - 1) (by omega)
            have q2 : IntKind.i64.wrap ((j : Int) - 1) = ((j - 1 : Nat) : Int) := by rw [IntWalk.i64_in _ (by omega)]; omega
            have hlt2 : ((j - 1 : Nat) : Int) < (j : Int) := by omega
            have HR2 := hide (show r = if F (j - 1) = ck then 0 else 23 from by rw [HR.out, if_pos HJ.out])
            clear hIj
            generalize F (j - 1) = f at *
            by_cases he : f = ck
            · have t6 : (f != ck) = false := by simpa using he
              have HV := hide (HR2.out.trans (if_pos he))
              clear he HQ HP HR
              go_wp2_with fail
              go_quiet (fail)
              go_wp2_with fail
              go_roundw
              case rel => exact ⟨k + 1, by omega, by go_num, hide (by rw [hg.out, HV.out]), bx.drewN _, below_drewN hB _⟩
              case measure => simp [intOf]; omega
            · have t6 : (f != ck) = true := by simpa using he
              have HV := hide (HR2.out.trans (if_neg he))
              have HQ' := hide (HQ.out (by rw [HV.out]; decide))
              have HP' := hide (HP.out (by rw [HV.out]; decide))
              clear he HQ HP HR
              go_wp2_with fail
              go_quiet (fail)
              go_wp2_with fail
              go_ret2
              exact ⟨by rw [HQ'.out, HP'.out, HV.out]; rfl, below_drewN hB _⟩
      · obtain rfl : k = n := by omega
        have HQ := hide (show X = 0 from by rw [HE.out, HZ.out])
        have HP := hide (show Y = 0 from by rw [HN.out, HZ.out]; rfl)
        go_wp2_with fail
        go_ret2
        exact ⟨by rw [HQ.out, HP.out]; rfl, hB⟩
  · have HE := hide (show X = 2 from by rw [HX.out]; exact if_neg hm)
    have HN := hide (show Y = 0 from by rw [HY.out]; exact if_neg hm)
    have HW := hide (withinB_no hm)
    clear hm HX HY
    go_enter Try.func14, Try.ntmps14
    go_wp2_with fail
    refine (within_any _ _ _ _).mono ?_; rintro e w' ⟨rfl, rfl⟩
    rw [HW.out]
    go_wp2_with fail
    go_ret2
    exact ⟨by rw [HE.out, HN.out]; rfl, by (repeat (first | (with_reducible exact Below.refl _ _) | (with_reducible refine below_drewN ?_ _) | (with_reducible refine Below.drew ?_) | (with_reducible refine Below.alloc ?_ (by first | exact Nat.le_refl _ | (simp; done) | (simp; omega) | omega) _) | (with_reducible refine Below.setCell ?_ (by first | exact Nat.le_refl _ | (simp; done) | (simp; omega) | omega) _)))⟩
set_option maxHeartbeats 1000000 in
theorem parityErr_any (m : Int) (A : Option Addr) (n c : Nat) (L : Nat → Nat) (R : Nat → Nat → Int) (w : World) (hn : n ≤ 9223372036854775807) (hI : ListsAt w 0 A n L R) :
    Calls Try.prog 20 #[.agg #[.int .i64 m, .slice A n c]] w fun e w' => e = .returned (.int .i64 (parErrI m n L R)) ∧ Below w.heap.size w w' := by
  have HX := hide (fun W hW => checkParityR_any m A n c L R W hn hW)
  have HI := hide hI
  clear hI
  go_enter Try.func20, Try.ntmps20
  go_wp2_with fail
  refine (HX.out _ (HI.out.alloc _)).mono ?_
  rintro e w1 ⟨rfl, hb1⟩
  go_wp2_with fail
  go_ret
  exact ⟨rfl, (((Below.refl _ _).alloc (Nat.le_refl _) _).trans (hb1.mono (by simp)))⟩
end Go.Proofs.Ytdkoohfcpikgiaa
/- CopyPolar, CheckPolar of the reference -/
namespace Go.Proofs.Ytdkoohfcpikgiaa
open Go.RowKit
theorem ballocG {B : Nat} {w1 W : World} (h : Below B w1 W) (hB : B ≤ w1.heap.size) (o : Obj) : Below B w1 (W.alloc o) := h.alloc (Nat.le_trans hB h.size) o
theorem bstepG {B : Nat} {w1 W w2 : World} {p q : Prop} (hb : Below W.heap.size W w2) (h : p ∧ q ∧ Below B w1 W) (hB : B ≤ w1.heap.size) : Below B w1 w2 := h.2.2.trans (hb.mono (Nat.le_trans hB h.2.2.size))
end Go.Proofs.Ytdkoohfcpikgiaa
