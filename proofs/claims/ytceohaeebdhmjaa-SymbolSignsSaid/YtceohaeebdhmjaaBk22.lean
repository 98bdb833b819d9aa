/- Lemmas: S70, S75. -/
import Derived.Test.YtceohaeebdhmjaaBk07
import Derived.Test.YtceohaeebdhmjaaBk13
import Derived.Test.YtceohaeebdhmjaaBk21
set_option linter.unusedVariables false
set_option linter.unusedSimpArgs false
/- The reference: CheckMatrix, large; Small of the law. -/
namespace Go.Proofs.Ytceohaeebdhmjaa
open Go Go.RowKit Go.Lib
set_option maxHeartbeats 8000000 in
set_option maxRecDepth 100000 in
theorem CheckMatrixR_any (A : Option Addr) (n c : Nat) (L : Nat → Nat) (F : Nat → Nat → Gau) (w : World) (hn : n ≤ 100000) (hL : ∀ i, i < n → L i ≤ 100000) (hI : MatsAt w 0 A n L F) :
    Calls Try.prog 25 #[.slice A n c] w fun e w' => e = .returned (.int .i64 (matE n L F)) ∧ Below w.heap.size w w' := by
  obtain ⟨E, hE⟩ : ∃ z, matE n L F = z := ⟨_, rfl⟩
  rw [hE]
  unfold matE at hE
  by_cases h0 : n = 0
  · rw [if_pos h0] at hE
    subst hE
    have t0 : ((n : Int) == 0) = true := by simp; omega
    clear hI h0
    go_enter Try.func25, Try.ntmps25
    go_wp2_with fail
    go_ret
    exact ⟨rfl, Below.refl _ _⟩
  have t0 : ((n : Int) == 0) = false := by simp; omega
  rw [if_neg h0] at hE
  by_cases h1 : 4 < n
  · rw [if_pos h1] at hE
    subst hE
    have t1 : (4 : Int) < (n : Int) := by omega
    clear hI h0
    go_enter Try.func25, Try.ntmps25
    go_wp2_with fail
    go_ret
    exact ⟨rfl, Below.refl _ _⟩
  rw [if_neg h1] at hE
  have t1 : ¬ (4 : Int) < (n : Int) := by omega
  have HI := hide hI
  have HL := hide hL
  have HE := hide hE
  obtain ⟨B, hB⟩ : ∃ z, (fun i => rowE (L i) (L 0) (F i)) = z := ⟨_, rfl⟩
  rw [hB] at HE
  have HBE := hide (fun i => (show B i = rowE (L i) (L 0) (F i) by rw [← hB]))
  have HSZ := hide (fun i j W => sizedR_any (F i j) 1000 W (by decide))
  clear hI hL hE hB
  go_enter Try.func25, Try.ntmps25
  go_wp2_with fail
  go_loopw [3, 4] (fun i x wr => ∃ k : Nat, k ≤ n ∧ i = .int .i64 (k : Int) ∧ Hid (badE B k = 0) ∧ Hid (Below w.heap.size w wr)) (fun i _ _ => n - (Go.RowKit.intOf i).toNat)
  case atStart => exact ⟨0, Nat.zero_le _, rfl, hide rfl, hide (Below.refl _ _)⟩
  case round =>
    obtain ⟨k, hk, rfl, HZ, HB⟩ := hrel
    obtain ⟨wA, rfl⟩ : ∃ x : World, x = wr := ⟨_, rfl⟩
    by_cases hlt : k < n
    case neg =>
      obtain rfl : n = k := by omega
      have hltz : ¬ (n : Int) < (n : Int) := by omega
      obtain rfl : E = 0 := HE.out.symm.trans HZ.out
      clear HI HL HBE HSZ
      go_wp2_with fail
      go_ret
      exact ⟨rfl, HB.out⟩
    have hltz : (k : Int) < (n : Int) := by omega
    obtain ⟨b, o, A0, c0, rfl, -, -, y0, hc0, hc09, -⟩ := (HI.out.below HB.out) 0 (by omega)
    obtain ⟨Ak, ck, y1, hc1, hc2, hRow, -, -⟩ := mat_row (HI.out.below HB.out) hlt
    simp only [Nat.add_zero] at y0
    have hlk := HL.out k hlt
    have hbk := HBE.out k
    have HFST := hide (fun h : B k ≠ 0 => (badE_at HZ.out h n hlt).symm.trans HE.out)
    have HSU := hide (badE_succ (g := B) HZ.out)
    replace HSZ := hide (HSZ.out k)
    have HRW := hide hRow
    have HAT := hide (fun W (h : Below wA.heap.size wA W) => (⟨bcellW h y0, bcellW h y1⟩ : _ ∧ _))
    unfold rowE at hbk
    obtain ⟨bk, hbk2⟩ : ∃ z, B k = z := ⟨_, rfl⟩
    rw [hbk2] at HFST HSU hbk
    obtain ⟨lk, hlk2⟩ : ∃ z, L k = z := ⟨_, rfl⟩
    obtain ⟨l0, hl0⟩ : ∃ z, L 0 = z := ⟨_, rfl⟩
    obtain ⟨G, hG⟩ : ∃ z, F k = z := ⟨_, rfl⟩
    rw [hlk2] at hbk hlk hc1
    simp only [hlk2] at y1 HAT HRW
    rw [hl0] at hbk
    simp only [hl0] at HAT y0
    rw [hG] at hbk HSZ HRW
    clear hRow hbk2 HBE HI HL hc0 hlk2 hl0 hG HZ
    by_cases hz : lk = 0
    case pos =>
      rw [if_pos (.inl hz)] at hbk
      have tz : ((lk : Int) == 0) = true := by simp; omega
      have hne : bk ≠ 0 := by rw [hbk]; decide
      obtain rfl : E = 10 := (HFST.out hne).symm.trans hbk
      clear hz
      go_wp2_with fail
      go_quiet (fail)
      go_wp2_with fail
      go_ret
      exact ⟨rfl, Go.below_drewN HB.out _⟩
    have tz : ((lk : Int) == 0) = false := by simp; omega
    by_cases hq : (lk : Int) = (l0 : Int)
    case neg =>
      rw [if_pos (.inr hq)] at hbk
      have tq : ((lk : Int) != (l0 : Int)) = true := by simpa using hq
      have hne : bk ≠ 0 := by rw [hbk]; decide
      obtain rfl : E = 10 := (HFST.out hne).symm.trans hbk
      clear hz
      go_wp2_with fail
      go_quiet (fail)
      go_wp2_with fail
      go_ret
      exact ⟨rfl, Go.below_drewN HB.out _⟩
    rw [if_neg (by omega)] at hbk
    have tq : ((lk : Int) != (l0 : Int)) = false := by simpa using hq
    clear hq hz
    go_wp2_with fail
    go_quiet (fail)
    obtain ⟨wB, hwB⟩ : ∃ z, wA.drewN nq = z := ⟨_, rfl⟩
    rw [hwB]
    have hab : Below wA.heap.size wA wB := by rw [← hwB]; exact Go.below_drewN (Below.refl _ _) _
    clear hwB y0 y1
    obtain ⟨y0, y1⟩ := HAT.out _ hab
    have HB2 := hide (HB.out.trans (hab.mono HB.out.size))
    have HAB := hide hab
    clear hab
    by_cases h4 : 4 < lk
    case pos =>
      rw [if_pos h4] at hbk
      have t4 : (4 : Int) < (lk : Int) := by omega
      have hne : bk ≠ 0 := by rw [hbk]; decide
      obtain rfl : E = 8 := (HFST.out hne).symm.trans hbk
      clear HAT HAB HRW HSZ
      go_wp2_with fail
      go_ret
      exact ⟨rfl, HB2.out⟩
    rw [if_neg h4] at hbk
    have t4 : ¬ (4 : Int) < (lk : Int) := by omega
    have HBK := hide hbk
    clear hbk
    go_wp2_with fail
    go_loopw [4] (fun i wr => ∃ q : Nat, q ≤ lk ∧ i = .int .i64 (q : Int) ∧ Hid (∀ j, j < q → (G j).isIn 1000 = true) ∧ Hid (Below wA.heap.size wA wr)) (fun i _ => lk - (Go.RowKit.intOf i).toNat)
    case atStart => exact ⟨0, Nat.zero_le _, rfl, hide (fun j hj => absurd hj (Nat.not_lt_zero j)), HAB⟩
    case round =>
      obtain ⟨q, hq, rfl, HZ, HC⟩ := hrel
      obtain ⟨wC, rfl⟩ : ∃ x : World, x = wr := ⟨_, rfl⟩
      clear y0 y1 HAB
      obtain ⟨y0, y1⟩ := HAT.out _ HC.out
      clear y0
      have HB3 := hide (HB.out.trans (HC.out.mono HB.out.size))
      by_cases hlq : q < lk
      case neg =>
        obtain rfl : lk = q := by omega
        have hlqz : ¬ (lk : Int) < (lk : Int) := by omega
        have hb0 : bk = 0 := by rw [HBK.out, insideB_iff.2 (fun j hj => Gau.isIn_iff.1 (HZ.out j hj))]; rfl
        have HSU2 := hide (HSU.out.trans hb0)
        clear HBK HFST HSU HSZ HRW HAT
        go_wp2_with fail
        go_roundw
        case rel => exact ⟨k + 1, by omega, by go_num, HSU2, HB3⟩
        case measure => simp [Go.RowKit.intOf]; omega
      have hlqz : (q : Int) < (lk : Int) := by omega
      obtain ⟨b2, o2, rfl, -, hb2, d0, d1⟩ := (HRW.out.below HC.out) q hlq
      have HXk := hide (HSZ.out q)
      cases hv : (G q).isIn 1000
      · rw [hv] at HXk
        have hbk : bk = 2 := by rw [HBK.out, insideB_no hlq hv]; rfl
        have hne : bk ≠ 0 := by rw [hbk]; decide
        obtain rfl : E = 2 := (HFST.out hne).symm.trans hbk
        clear HBK HFST HSU HSZ HRW HAT HZ hbk hne hv
        generalize G q = x at *
        go_wp2_with fail
        refine (HXk.out _).mono ?_
        rintro e_ w2 ⟨rfl, hb2⟩
        have HB4 := hide (HB3.out.trans (hb2.mono HB3.out.size))
        clear hb2 d0 d1
        go_wp2_with fail
        go_ret
        exact ⟨rfl, HB4.out⟩
      · rw [hv] at HXk
        have HZ2 := hide (show ∀ j, j < q + 1 → (G j).isIn 1000 = true from fun j hj => by
          by_cases e : j = q
          · rw [e]; exact hv
          · exact HZ.out j (by omega))
        clear HSZ HZ hv HBK HFST HSU HRW
        generalize G q = x at *
        go_wp2_with fail
        refine (HXk.out _).mono ?_
        rintro e_ w2 ⟨rfl, hb2⟩
        have HC2 := hide (HC.out.trans (hb2.mono HC.out.size))
        clear hb2 d0 d1 HAT y1
        go_wp2_with fail
        go_roundw
        case rel => exact ⟨q + 1, by omega, by go_num, HZ2, HC2⟩
        case measure => simp [Go.RowKit.intOf]; omega
/-- Is a part of some lists greater in size than M? -/
def largeB (M : Int) (n : Nat) (L : Nat → Nat) (F : Nat → Nat → Gau) : Bool := !(List.range n).all fun r => insideB M (L r) (F r)
theorem largeB_no {M : Int} {n : Nat} {L : Nat → Nat} {F : Nat → Nat → Gau} : largeB M n L F = false ↔ ∀ r, r < n → insideB M (L r) (F r) = true := by simp [largeB]
theorem largeB_yes {M : Int} {n r j : Nat} {L : Nat → Nat} {F : Nat → Nat → Gau} (hr : r < n) (hj : j < L r) (h : (F r j).isIn M = false) : largeB M n L F = true := by
  rw [← Bool.not_eq_false, largeB_no]
  intro hh
  have := hh r hr
  rw [insideB_no hj h] at this
  exact absurd this (by decide)
set_option maxHeartbeats 8000000 in
set_option maxRecDepth 100000 in
theorem largeR_any (A : Option Addr) (n c : Nat) (L : Nat → Nat) (F : Nat → Nat → Gau) (M : Int) (w : World) (hM : 0 ≤ M ∧ M ≤ 9000000000000000000) (hn : n ≤ 100000) (hL : ∀ i, i < n → L i ≤ 100000) (hI : MatsAt w 0 A n L F) :
    Calls Try.prog 67 #[.slice A n c, .int .i64 M] w fun e w' => e = .returned (.bool (largeB M n L F)) ∧ Below w.heap.size w w' := by
  have HYES := hide (fun r j hr hj => largeB_yes (M := M) (n := n) (r := r) (j := j) (L := L) (F := F) hr hj)
  have HNO := hide (largeB_no (M := M) (n := n) (L := L) (F := F)).2
  obtain ⟨E, hE⟩ : ∃ z, largeB M n L F = z := ⟨_, rfl⟩
  rw [hE] at HNO ⊢
  simp only [hE] at HYES
  have HI := hide hI
  have HL := hide hL
  have HSZ := hide (fun i j W => sizedR_any (F i j) M W hM)
  clear hI hL hE hM
  go_enter Try.func67, Try.ntmps67
  go_wp2_with fail
  go_loopw [5, 6] (fun i x wr => ∃ k : Nat, k ≤ n ∧ i = .int .i64 (k : Int) ∧ Hid (∀ r, r < k → insideB M (L r) (F r) = true) ∧ Hid (Below w.heap.size w wr)) (fun i _ _ => n - (Go.RowKit.intOf i).toNat)
  case atStart => exact ⟨0, Nat.zero_le _, rfl, hide (fun r hr => absurd hr (Nat.not_lt_zero r)), hide (Below.refl _ _)⟩
  case round =>
    obtain ⟨k, hk, rfl, HR, HB⟩ := hrel
    obtain ⟨wA, rfl⟩ : ∃ x : World, x = wr := ⟨_, rfl⟩
    by_cases hlt : k < n
    case neg =>
      obtain rfl : n = k := by omega
      have hltz : ¬ (n : Int) < (n : Int) := by omega
      obtain rfl : E = false := HNO.out HR.out
      clear HI HL HSZ HYES HNO HR
      go_wp2_with fail
      go_ret
      exact ⟨rfl, HB.out⟩
    have hltz : (k : Int) < (n : Int) := by omega
    obtain ⟨b, o, Ak, ck, rfl, -, hb_, y1, hc1, hc2, hRow⟩ := (HI.out.below HB.out) k hlt
    have hlk := HL.out k hlt
    have HAT := hide (fun W (h : Below wA.heap.size wA W) => bcellW h y1)
    have HRW := hide hRow
    replace HSZ := hide (HSZ.out k)
    replace HYES := hide (fun j => HYES.out k j hlt)
    have HSTP := hide (show insideB M (L k) (F k) = true → ∀ r, r < k + 1 → insideB M (L r) (F r) = true from fun h r hr => by
      by_cases e : r = k
      · rw [e]; exact h
      · exact HR.out r (by omega))
    clear HR HL HI hRow hb_
    have HAB := hide (Below.refl wA.heap.size wA)
    obtain ⟨lk, hlk2⟩ : ∃ z, L k = z := ⟨_, rfl⟩
    obtain ⟨G, hG⟩ : ∃ z, F k = z := ⟨_, rfl⟩
    rw [hlk2] at hlk hc1
    simp only [hlk2] at y1 HAT HRW HYES
    rw [hG] at HSZ HRW
    simp only [hG] at HYES
    have HSTP2 := hide (fun h : insideB M lk G = true => HSTP.out (by rw [hlk2, hG]; exact h))
    clear hlk2 hG HSTP
    go_wp2_with fail
    go_loopw [6] (fun i wr => ∃ q : Nat, q ≤ lk ∧ i = .int .i64 (q : Int) ∧ Hid (∀ j, j < q → (G j).isIn M = true) ∧ Hid (Below wA.heap.size wA wr)) (fun i _ => lk - (Go.RowKit.intOf i).toNat)
    case atStart => exact ⟨0, Nat.zero_le _, rfl, hide (fun j hj => absurd hj (Nat.not_lt_zero j)), HAB⟩
    case round =>
      obtain ⟨q, hq, rfl, HZ, HC⟩ := hrel
      obtain ⟨wC, rfl⟩ : ∃ x : World, x = wr := ⟨_, rfl⟩
      clear y1 HAB
      have y1 := HAT.out _ HC.out
      have HB3 := hide (HB.out.trans (HC.out.mono HB.out.size))
      by_cases hlq : q < lk
      case neg =>
        obtain rfl : lk = q := by omega
        have hlqz : ¬ (lk : Int) < (lk : Int) := by omega
        have HR2 := hide (HSTP2.out (insideB_iff.2 (fun j hj => Gau.isIn_iff.1 (HZ.out j hj))))
        clear HSZ HRW HAT HYES HNO HZ HSTP2
        go_wp2_with fail
        go_roundw
        case rel => exact ⟨k + 1, by omega, by go_num, HR2, HB3⟩
        case measure => simp [Go.RowKit.intOf]; omega
      have hlqz : (q : Int) < (lk : Int) := by omega
      obtain ⟨b2, o2, rfl, -, hb2, d0, d1⟩ := (HRW.out.below HC.out) q hlq
      have HXk := hide (HSZ.out q)
      cases hv : (G q).isIn M
      · rw [hv] at HXk
        obtain rfl : E = true := HYES.out q hlq hv
        clear HSZ HRW HAT HZ HYES HNO HSTP2 hv
        generalize G q = x at *
        go_wp2_with fail
        refine (HXk.out _).mono ?_
        rintro e_ w2 ⟨rfl, hb2⟩
        have HB4 := hide (HB3.out.trans (hb2.mono HB3.out.size))
        clear hb2 d0 d1
        go_wp2_with fail
        go_ret
        exact ⟨rfl, HB4.out⟩
      · rw [hv] at HXk
        have HZ2 := hide (show ∀ j, j < q + 1 → (G j).isIn M = true from fun j hj => by
          by_cases e : j = q
          · rw [e]; exact hv
          · exact HZ.out j (by omega))
        clear HSZ HZ hv HRW HYES HNO HSTP2
        generalize G q = x at *
        go_wp2_with fail
        refine (HXk.out _).mono ?_
        rintro e_ w2 ⟨rfl, hb2⟩
        have HC2 := hide (HC.out.trans (hb2.mono HC.out.size))
        clear hb2 d0 d1 HAT y1
        go_wp2_with fail
        go_roundw
        case rel => exact ⟨q + 1, by omega, by go_num, HZ2, HC2⟩
        case measure => simp [Go.RowKit.intOf]; omega
/-- At most 5 lists of at most 8 symbols? -/
def smallB (n : Nat) (L : Nat → Nat) : Bool := decide (n ≤ 5) && (List.range n).all fun i => decide (L i ≤ 8)
theorem smallB_iff {n : Nat} {L : Nat → Nat} : smallB n L = true ↔ n ≤ 5 ∧ ∀ i, i < n → L i ≤ 8 := by simp [smallB]
theorem smallB_no {n i : Nat} {L : Nat → Nat} (h : 5 < n ∨ (i < n ∧ 8 < L i)) : smallB n L = false := by
  rw [← Bool.not_eq_true, smallB_iff]
  rintro ⟨h1, h2⟩
  rcases h with h | ⟨h, h3⟩
  · omega
  · have := h2 i h; omega
set_option maxHeartbeats 4000000 in
set_option maxRecDepth 100000 in
theorem smallS_any (A : Option Addr) (n c : Nat) (L : Nat → Nat) (F : Nat → Nat → Gau) (w : World) (hI : MatsAt w 0 A n L F) :
    Calls Try.prog 11 #[.slice A n c] w fun e w' => e = .returned (.bool (smallB n L)) ∧ w' = w := by
  have HNO := hide (fun i => smallB_no (n := n) (i := i) (L := L))
  have HYES := hide (smallB_iff (n := n) (L := L)).2
  obtain ⟨E, hE⟩ : ∃ z, smallB n L = z := ⟨_, rfl⟩
  rw [hE] at HYES ⊢
  simp only [hE] at HNO
  clear hE
  by_cases h5 : 5 < n
  · have t5 : (5 : Int) < (n : Int) := by omega
    obtain rfl : E = false := HNO.out 0 (.inl h5)
    clear HNO HYES h5 hI
    go_enter Try.func11, Try.ntmps11
    go_wp2_with fail
    go_ret
    exact ⟨rfl, rfl⟩
  have t5 : ¬ (5 : Int) < (n : Int) := by omega
  have HI := hide hI
  clear hI
  go_enter Try.func11, Try.ntmps11
  go_wp2_with fail
  go_loopw [3] (fun i wr => ∃ k : Nat, k ≤ n ∧ i = .int .i64 (k : Int) ∧ Hid (∀ r, r < k → L r ≤ 8) ∧ Hid (wr = w)) (fun i _ => n - (Go.RowKit.intOf i).toNat)
  case atStart => exact ⟨0, Nat.zero_le _, rfl, hide (fun r hr => absurd hr (Nat.not_lt_zero r)), hide rfl⟩
  case round =>
    obtain ⟨k, hk, rfl, HR, HW⟩ := hrel
    obtain ⟨wA, rfl⟩ : ∃ x : World, x = wr := ⟨_, rfl⟩
    by_cases hlt : k < n
    case neg =>
      obtain rfl : n = k := by omega
      have hltz : ¬ (n : Int) < (n : Int) := by omega
      obtain rfl : E = true := HYES.out ⟨by omega, HR.out⟩
      clear HI HNO HYES HR
      go_wp2_with fail
      go_ret
      exact ⟨rfl, HW.out⟩
    have hltz : (k : Int) < (n : Int) := by omega
    obtain ⟨b, o, Ak, ck, rfl, -, hb_, y1, hc1, hc2, hRow⟩ := (show MatsAt wA 0 A n L F by rw [HW.out]; exact HI.out) k hlt
    clear hRow hb_
    by_cases h8 : 8 < L k
    · obtain rfl : E = false := HNO.out k (.inr ⟨hlt, h8⟩)
      have t8 : (8 : Int) < (L k : Int) := by omega
      clear HI HNO HYES HR
      generalize L k = lk at *
      clear hc1 h8
      go_wp2_with fail
      go_ret
      exact ⟨rfl, HW.out⟩
    · have t8 : ¬ (8 : Int) < (L k : Int) := by omega
      have HR2 := hide (show ∀ r, r < k + 1 → L r ≤ 8 from fun r hr => by
        by_cases e : r = k
        · rw [e]; omega
        · exact HR.out r (by omega))
      clear HI HNO HYES HR
      generalize hlk : L k = lk at y1 t8
      clear hc1 h8 hlk
      go_wp2_with fail
      go_roundw
      case rel => exact ⟨k + 1, by omega, by go_num, HR2, HW⟩
      case measure => simp [Go.RowKit.intOf]; omega
end Go.Proofs.Ytceohaeebdhmjaa
/- Lists of lists of complex numbers of the call's own, each in a block of its own. -/
namespace Go.Proofs.Ytceohaeebdhmjaa
open Go.RowKit Go.Shelf
/-- A slice of n slices of the call's own, the slice i is V i with L i numbers F i; no two of all these blocks are the same. -/
def OwnPlane (w : World) (base : Nat) (v : Value) (n : Nat) (V : Nat → Value) (L : Nat → Nat) (F : Nat → Nat → Gau) : Prop :=
  w.ownsRow base 22 1 v n ((List.range n).map V) ∧ (∀ i, i < n → OwnGaus w base (V i) (L i) (F i) ∧ ((V i).ownBlock = none ∨ (V i).ownBlock ≠ v.ownBlock)) ∧
    ∀ i j, i < n → j < n → i ≠ j → (V i).ownBlock = none ∨ (V i).ownBlock ≠ (V j).ownBlock
theorem OwnGaus.kept_ {w w' : World} {row : Option Nat} {base n : Nat} {v : Value} {F : Nat → Gau} (h : OwnGaus w base v n F) (hg : w.grownBy w' row) (hne : v.ownBlock = none ∨ v.ownBlock ≠ row) : OwnGaus w' base v n F := World.ownsRow.kept h hg hne
theorem OwnGaus.blockLt {w : World} {base n k : Nat} {v : Value} {F : Nat → Gau} (h : OwnGaus w base v n F) (hk : v.ownBlock = some k) : base ≤ k ∧ k < w.heap.size := World.ownsRow.lt h k hk
section
variable {w w' : World} {base n : Nat} {v : Value} {V : Nat → Value} {L : Nat → Nat} {F : Nat → Nat → Gau}
theorem OwnPlane.nil_ (w : World) (base : Nat) (V : Nat → Value) (L : Nat → Nat) (F : Nat → Nat → Gau) : OwnPlane w base (.slice none 0 0) 0 V L F := ⟨World.ownsRow_nil _ _ _ _, fun i h => absurd h (Nat.not_lt_zero i), fun i _ h => absurd h (Nat.not_lt_zero i)⟩
theorem OwnPlane.grown {row : Option Nat} (h : OwnPlane w base v n V L F) (hg : w.grownBy w' row) (h0 : v.ownBlock = none ∨ v.ownBlock ≠ row) (h1 : ∀ i, i < n → (V i).ownBlock = none ∨ (V i).ownBlock ≠ row) : OwnPlane w' base v n V L F :=
  ⟨World.ownsRow.kept h.1 hg h0, fun i hi => ⟨(h.2.1 i hi).1.kept_ hg (h1 i hi), (h.2.1 i hi).2⟩, h.2.2⟩
theorem OwnPlane.below (h : OwnPlane w base v n V L F) (hb : Below w.heap.size w w') : OwnPlane w' base v n V L F :=
  h.grown (row := none) ⟨hb.os, hb.tape, hb.output, hb.size, fun k hk _ => hb.block k hk⟩ (by cases v.ownBlock <;> simp) (fun i _ => by cases (V i).ownBlock <;> simp)
theorem OwnPlane.alloc (h : OwnPlane w base v n V L F) (o : Obj) : OwnPlane (w.alloc o) base v n V L F := h.below ((Below.refl _ _).alloc (Nat.le_refl _) _)
theorem OwnPlane.congr {V' : Nat → Value} {L' : Nat → Nat} {F' : Nat → Nat → Gau} (h : OwnPlane w base v n V L F) (e : ∀ i, i < n → V i = V' i ∧ L i = L' i ∧ ∀ k, k < L i → F i k = F' i k) : OwnPlane w base v n V' L' F' := by
  refine ⟨?_, fun i hi => ?_, fun i j hi hj hne => ?_⟩
  · rw [← List.map_congr_left (fun j hj => (e j (List.mem_range.1 hj)).1)]
    exact h.1
  · obtain ⟨e1, e2, e3⟩ := e i hi
    rw [← e1, ← e2]
    exact ⟨(h.2.1 i hi).1.congr e3, (h.2.1 i hi).2⟩
  · rw [← (e i hi).1, ← (e j hj).1]
    exact h.2.2 i j hi hj hne
theorem OwnPlane.lt (h : OwnPlane w base v n V L F) {k : Nat} (hk : v.ownBlock = some k) : base ≤ k ∧ k < w.heap.size := World.ownsRow.lt h.1 k hk
theorem OwnPlane.at_ (h : OwnPlane w base v n V L F) {g c : Nat} (hv : v = .slice (some ⟨g, 0, none⟩) n c) {i : Nat} (hi : i < n) : w.cell? ⟨g, i, none⟩ = some (V i) := by
  have h1 := h.1
  rw [hv] at h1
  rw [World.ownsRow.cellAt h1 i (by omega)]
  simp [hi]
theorem OwnPlane.form (h : OwnPlane w base v n V L F) : ∃ A c, v = .slice A n c ∧ n ≤ c ∧ c ≤ 9223372036854775807 ∧ MatsAt w base A n L F := by
  have hm9 : maxLen ≤ 9223372036854775807 := by decide
  rcases h.1.2 with ⟨rfl, hx⟩ | ⟨g, cap, cur, rfl, hb, hg, hnc, hm, -⟩
  · have hn : n = 0 := by first | exact hx | simpa using congrArg List.length hx
    subst hn
    exact ⟨_, _, rfl, Nat.le_refl _, by decide, MatsAt.nil_⟩
  · refine ⟨_, _, rfl, hnc, by omega, fun i hi => ?_⟩
    have hc := h.at_ rfl hi
    obtain ⟨Ai, ci, e, -, hI⟩ := ownGaus_form (h.2.1 i hi).1
    have hcap := (e ▸ (h.2.1 i hi).1 : OwnGaus w base (.slice Ai (L i) ci) (L i) (F i)).cap_any
    rw [e] at hc
    exact ⟨g, 0, Ai, ci, rfl, hb, (Array.getElem?_eq_some_iff.1 hg).1, by rw [Nat.zero_add]; exact hc, hcap.1, hcap.2, hI⟩
theorem OwnPlane.mats (h : OwnPlane w base v n V L F) : OwnMats w base v n L F := by
  refine ⟨_, h.1, fun i hi => ?_⟩
  obtain ⟨Ai, ci, e, -, hI⟩ := ownGaus_form (h.2.1 i hi).1
  have hcap := (e ▸ (h.2.1 i hi).1 : OwnGaus w base (.slice Ai (L i) ci) (L i) (F i)).cap_any
  refine ⟨Ai, ci, by simp [hi, e], hcap.1, hcap.2, hI, fun b o e2 => ?_⟩
  subst e2
  have ho := (h.2.1 i hi).2
  have hbk : (V i).ownBlock = some b := by rw [e]; rfl
  rw [hbk] at ho
  rcases ho with ho | ho
  · exact absurd ho (by simp)
  · exact ⟨fun z => ho z.symm, ((h.2.1 i hi).1.blockLt hbk).2⟩
end
theorem OwnGaus.some_ {w : World} {base n : Nat} {v : Value} {F : Nat → Gau} (h : OwnGaus w base v n F) (hn : 0 < n) : ∃ g c, v = .slice (some ⟨g, 0, none⟩) n c := by
  rcases h.2 with ⟨-, hx⟩ | ⟨g, cap, cur, rfl, -⟩
  · omega
  · exact ⟨g, cap, rfl⟩
theorem OwnPlane.some_ {w : World} {base n : Nat} {v : Value} {V : Nat → Value} {L : Nat → Nat} {F : Nat → Nat → Gau} (h : OwnPlane w base v n V L F) (hn : 0 < n) : ∃ g c, v = .slice (some ⟨g, 0, none⟩) n c := by
  rcases h.1.2 with ⟨-, hx⟩ | ⟨g, cap, cur, rfl, -⟩
  · omega
  · exact ⟨g, cap, rfl⟩
def snocV (n : Nat) (V : Nat → Value) (x : Value) (i : Nat) : Value := if i < n then V i else x
set_option maxRecDepth 100000 in
theorem wpList_append_plane {ops : Array Oper} {rest : List Oper} {o : Oper} {a : Act} {Q : Exit → Act → World → Prop} (w : World) (hgd : o.guard = none) (s x : Operand)
    (ho : o.op = .call { callee := .builtin .append, args := #[s, x], argTypes := #[23, 23] })
    (base : Nat) (v : Value) (n : Nat) (V : Nat → Value) (L : Nat → Nat) (F : Nat → Nat → Gau) (hs : a.eval s = v) (hown : OwnPlane w base v n V L F)
    (g1 : Nat) (r : Value) (m : Nat) (G : Nat → Gau) (hx : a.eval x = .slice (some ⟨g1, 0, none⟩) 1 1) (hc : w.cell? ⟨g1, 0, none⟩ = some r) (hr : OwnGaus w base r m G) (hone : r.oneCell' = true)
    (ha : r.ownBlock = none ∨ r.ownBlock ≠ v.ownBlock) (hap : ∀ i, i < n → ((V i).ownBlock = none ∨ (V i).ownBlock ≠ r.ownBlock) ∧ (r.ownBlock = none ∨ r.ownBlock ≠ (V i).ownBlock)) (hn : n ≤ 1000000) (hbase : base ≤ w.heap.size)
    (h : ∀ v' w', OwnPlane w' base v' (n + 1) (snocV n V r) (snocL n L m) (snocG n F G) → Below base w w' → wpList Try.prog ops Q rest (a.put o.dst v') w') : wpList Try.prog ops Q (o :: rest) a w := by
  obtain ⟨i0, hi, hz0, hz1, hz2⟩ := info_parts matInfo
  obtain ⟨h1, h2, h3⟩ := hown
  obtain ⟨v', w', hrun, hown', hg, -, hblk⟩ := run_append_own_at (P := Try.prog) w base 23 o.type 22 i0 (.slice none 0 0) 1 24 Try.underlying23 hi hz0 hz1 hz2 rfl (by decide) v n _ h1 ⟨g1, 0, none⟩ 1 1 [r] rfl
    (fun j u hu => by
      match j, hu with
      | 0, hu =>
        simp at hu
        subst hu
        exact hc
      | j + 1, hu => simp at hu)
    (fun u hu => by
      simp at hu
      subst hu
      exact hone) (by unfold maxLen; omega) (by omega) hbase
  have hb : Below base w w' := (Below.refl _ _).grown hg hbase (fun k hk => (World.ownsRow.lt h1 k hk).1)
  have hfar : ∀ (x : Value) (m : Nat) (G : Nat → Gau), OwnGaus w base x m G → (x.ownBlock = none ∨ x.ownBlock ≠ v.ownBlock) → (x.ownBlock = none ∨ x.ownBlock ≠ v'.ownBlock) := fun x m G hx hne => by
    rcases hblk with y | y
    · rw [y]; exact hne
    · rcases hq : x.ownBlock with _ | k
      · exact .inl rfl
      · refine .inr ?_
        rw [y]
        have := (hx.blockLt hq).2
        intro z
        injection z with z
        omega
  have hlist : (List.range (n + 1)).map (snocV n V r) = (List.range n).map V ++ [r] := by
    rw [List.range_succ, List.map_append]
    congr 1
    · exact List.map_congr_left fun j hj => by unfold snocV; rw [if_pos (List.mem_range.1 hj)]
    · simp [snocV]
  refine wpList_plain hgd fun _ hK => ?_
  unfold Oper.wp execOp
  simp only [ho, resolve, invoke, builtin, Sem.run_bind, Sem.run_pure, Result.andThen_ok, List.map_toArray, List.map_cons, List.map_nil, hs, hx, hrun]
  refine hK _ _ (h v' w' ⟨by rw [hlist]; exact hown', fun i hi => ?_, fun i j hi hj hne => ?_⟩ hb)
  · unfold snocV snocL snocG
    by_cases e : i < n
    · rw [if_pos e, if_pos e, if_pos e]
      exact ⟨(h2 i e).1.kept_ hg (h2 i e).2, hfar _ _ _ (h2 i e).1 (h2 i e).2⟩
    · rw [if_neg e, if_neg e, if_neg e]
      exact ⟨hr.kept_ hg ha, hfar _ _ _ hr ha⟩
  · unfold snocV
    by_cases e : i < n
    · by_cases f : j < n
      · rw [if_pos e, if_pos f]; exact h3 i j e f hne
      · rw [if_pos e, if_neg f]; exact (hap i e).1
    · by_cases f : j < n
      · rw [if_neg e, if_pos f]; exact (hap j f).2
      · omega
/-- One number of one row changed. -/
theorem OwnPlane.put {w : World} {base n g c b d : Nat} {V : Nat → Value} {L : Nat → Nat} {F : Nat → Nat → Gau} (h : OwnPlane w base (.slice (some ⟨g, 0, none⟩) n c) n V L F) (i k : Nat) (hi : i < n) (hv : V i = .slice (some ⟨b, 0, none⟩) (L i) d) (x : Gau) (G : Nat → Nat → Gau) (hG : ∀ p q, p < n → q < L p → G p q = if p = i ∧ q = k then x else F p q) :
    OwnPlane ((w.setCell ⟨b, k * 2, none⟩ (.int .i64 x.re)).setCell ⟨b, k * 2 + 1, none⟩ (.int .i64 x.im)) base (.slice (some ⟨g, 0, none⟩) n c) n V L G := by
  have hbk : (V i).ownBlock = some b := by rw [hv]; rfl
  have hgb : ∀ (W : World) (o : Nat) (u : Value), W.grownBy (W.setCell ⟨b, o, none⟩ u) (some b) := fun W o u => ⟨rfl, rfl, rfl, by simp, fun j _ hj => heap_setCell_other W ⟨b, o, none⟩ j u (fun e => hj (by simp [e]))⟩
  have hvb : (Value.slice (some ⟨g, 0, none⟩) n c).ownBlock ≠ some b := by
    rcases (h.2.1 i hi).2 with z | z
    · rw [hbk] at z; exact absurd z (by simp)
    · rw [hbk] at z; exact fun y => z y.symm
  refine ⟨World.ownsRow.kept (World.ownsRow.kept h.1 (hgb _ _ _) (.inr hvb)) (hgb _ _ _) (.inr hvb), fun p hp => ?_, h.2.2⟩
  refine ⟨?_, (h.2.1 p hp).2⟩
  by_cases e : p = i
  · subst e
    have h0 := (h.2.1 p hp).1
    rw [hv] at h0 ⊢
    exact (h0.put k x).congr fun q hq => by
      unfold setGau
      rw [hG p q hp hq]
      by_cases e2 : q = k
      · rw [if_pos e2, if_pos ⟨rfl, e2⟩]
      · rw [if_neg e2, if_neg (fun z => e2 z.2)]
  · have hne : (V p).ownBlock = none ∨ (V p).ownBlock ≠ some b := by rw [← hbk]; exact h.2.2 p i hp hi e
    exact (((h.2.1 p hp).1.kept_ (hgb _ _ _) hne).kept_ (hgb _ _ _) hne).congr fun q hq => by
      rw [hG p q hp hq, if_neg (fun z => e z.1)]
end Go.Proofs.Ytceohaeebdhmjaa
