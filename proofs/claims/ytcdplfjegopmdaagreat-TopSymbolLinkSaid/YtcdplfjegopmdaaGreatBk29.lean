/- Lemmas: Sb2, S84, MS66. -/
import Derived.Laws.MakeOwn
import Derived.Test.YtcdplfjegopmdaaGreatBk01
import Derived.Test.YtcdplfjegopmdaaGreatBk02
import Derived.Test.YtcdplfjegopmdaaGreatBk03
import Derived.Test.YtcdplfjegopmdaaGreatBk04
import Derived.Test.YtcdplfjegopmdaaGreatBk06
import Derived.Test.YtcdplfjegopmdaaGreatBk07
import Derived.Test.YtcdplfjegopmdaaGreatBk08
import Derived.Test.YtcdplfjegopmdaaGreatBk09
import Derived.Test.YtcdplfjegopmdaaGreatBk10
import Derived.Test.YtcdplfjegopmdaaGreatBk11
import Derived.Test.YtcdplfjegopmdaaGreatBk12
import Derived.Test.YtcdplfjegopmdaaGreatBk13
import Derived.Test.YtcdplfjegopmdaaGreatBk14
import Derived.Test.YtcdplfjegopmdaaGreatBk15
import Derived.Test.YtcdplfjegopmdaaGreatBk16
import Derived.Test.YtcdplfjegopmdaaGreatBk17
import Derived.Test.YtcdplfjegopmdaaGreatBk18
import Derived.Test.YtcdplfjegopmdaaGreatBk19
import Derived.Test.YtcdplfjegopmdaaGreatBk20
import Derived.Test.YtcdplfjegopmdaaGreatBk21
import Derived.Test.YtcdplfjegopmdaaGreatBk22
import Derived.Test.YtcdplfjegopmdaaGreatBk23
import Derived.Test.YtcdplfjegopmdaaGreatBk24
import Derived.Test.YtcdplfjegopmdaaGreatBk25
import Derived.Test.YtcdplfjegopmdaaGreatBk28
set_option linter.unusedVariables false
set_option linter.unusedSimpArgs false
/- CheckMatrix of the reference, with rows of any length. -/
namespace Go.Proofs.YtcdplfjegopmdaaGreat
open Go Go.RowKit Go.Lib
set_option maxHeartbeats 8000000 in
set_option maxRecDepth 100000 in
theorem CheckMatrixR_wide (A : Option Addr) (n c : Nat) (L : Nat → Nat) (F : Nat → Nat → Gau) (w : World) (hn : n ≤ 100000) (hL : ∀ i, i < n → L i ≤ 9223372036854775807) (hI : MatsAt w 0 A n L F) :
    Calls Tryz.prog 11 #[.slice A n c] w fun e w' => e = .returned (.int .i64 (matE n L F)) ∧ Below w.heap.size w w' := by
  obtain ⟨E, hE⟩ : ∃ z, matE n L F = z := ⟨_, rfl⟩
  rw [hE]
  unfold matE at hE
  by_cases h0 : n = 0
  · rw [if_pos h0] at hE
    subst hE
    have t0 : ((n : Int) == 0) = true := by simp; omega
    clear hI h0
    go_enter Tryz.func11, Tryz.ntmps11
    go_wp2_with fail
    go_ret
    exact ⟨rfl, Below.refl _ _⟩
  have t0 : ((n : Int) == 0) = false := by simp; omega
  rw [if_neg h0] at hE
  by_cases h1 : 4 < n
  · rw [if_pos h1] at hE
    subst hE
    have t1 : (4 : Int) < (n : Int) := by omega
    clear hI h0
    go_enter Tryz.func11, Tryz.ntmps11
    go_wp2_with fail
    go_ret
    exact ⟨rfl, Below.refl _ _⟩
  rw [if_neg h1] at hE
  have t1 : ¬ (4 : Int) < (n : Int) := by omega
  have HI := hide hI
  have HL := hide hL
  have HE := hide hE
  obtain ⟨B, hB⟩ : ∃ z, (fun i => rowE (L i) (L 0) (F i)) = z := ⟨_, rfl⟩
  rw [hB] at HE
  have HBE := hide (fun i => (show B i = rowE (L i) (L 0) (F i) by rw [← hB]))
  have HSZ := hide (fun i j W => sizedR_any (F i j) 1000 W (by decide))
  clear hI hL hE hB
  go_enter Tryz.func11, Tryz.ntmps11
  go_wp2_with fail
  go_loopw [3, 4] (fun i x wr => ∃ k : Nat, k ≤ n ∧ i = .int .i64 (k : Int) ∧ Hid (badE B k = 0) ∧ Hid (Below w.heap.size w wr)) (fun i _ _ => n - (Go.RowKit.intOf i).toNat)
  case atStart => exact ⟨0, Nat.zero_le _, rfl, hide rfl, hide (Below.refl _ _)⟩
  case round =>
    obtain ⟨k, hk, rfl, HZ, HB⟩ := hrel
    obtain ⟨wA, rfl⟩ : ∃ x : World, x = wr := ⟨_, rfl⟩
    by_cases hlt : k < n
    case neg =>
      obtain rfl : n = k := by omega
      have hltz : ¬ (n : Int) < (n : Int) := by omega
      obtain rfl : E = 0 := HE.out.symm.trans HZ.out
      clear HI HL HBE HSZ
      go_wp2_with fail
      go_ret
      exact ⟨rfl, HB.out⟩
    have hltz : (k : Int) < (n : Int) := by omega
    obtain ⟨b, o, A0, c0, rfl, -, -, y0, hc0, hc09, -⟩ := (HI.out.below HB.out) 0 (by omega)
    obtain ⟨Ak, ck, y1, hc1, hc2, hRow, -, -⟩ := mat_row (HI.out.below HB.out) hlt
    simp only [Nat.add_zero] at y0
    have hlk := HL.out k hlt
    have hbk := HBE.out k
    have HFST := hide (fun h : B k ≠ 0 => (badE_at HZ.out h n hlt).symm.trans HE.out)
    have HSU := hide (badE_succ (g := B) HZ.out)
    replace HSZ := hide (HSZ.out k)
    have HRW := hide hRow
    have HAT := hide (fun W (h : Below wA.heap.size wA W) => (⟨bcellW h y0, bcellW h y1⟩ : _ ∧ _))
    unfold rowE at hbk
    obtain ⟨bk, hbk2⟩ : ∃ z, B k = z := ⟨_, rfl⟩
    rw [hbk2] at HFST HSU hbk
    obtain ⟨lk, hlk2⟩ : ∃ z, L k = z := ⟨_, rfl⟩
    obtain ⟨l0, hl0⟩ : ∃ z, L 0 = z := ⟨_, rfl⟩
    obtain ⟨G, hG⟩ : ∃ z, F k = z := ⟨_, rfl⟩
    rw [hlk2] at hbk hlk hc1
    simp only [hlk2] at y1 HAT HRW
    rw [hl0] at hbk
    simp only [hl0] at HAT y0
    rw [hG] at hbk HSZ HRW
    clear hRow hbk2 HBE HI HL hc0 hlk2 hl0 hG HZ
    by_cases hz : lk = 0
    case pos =>
      rw [if_pos (.inl hz)] at hbk
      have tz : ((lk : Int) == 0) = true := by simp; omega
      have hne : bk ≠ 0 := by rw [hbk]; decide
      obtain rfl : E = 10 := (HFST.out hne).symm.trans hbk
      clear hz
      go_wp2_with fail
      go_quiet (fail)
      go_wp2_with fail
      go_ret
      exact ⟨rfl, Go.below_drewN HB.out _⟩
    have tz : ((lk : Int) == 0) = false := by simp; omega
    by_cases hq : (lk : Int) = (l0 : Int)
    case neg =>
      rw [if_pos (.inr hq)] at hbk
      have tq : ((lk : Int) != (l0 : Int)) = true := by simpa using hq
      have hne : bk ≠ 0 := by rw [hbk]; decide
      obtain rfl : E = 10 := (HFST.out hne).symm.trans hbk
      clear hz
      go_wp2_with fail
      go_quiet (fail)
      go_wp2_with fail
      go_ret
      exact ⟨rfl, Go.below_drewN HB.out _⟩
    rw [if_neg (by omega)] at hbk
    have tq : ((lk : Int) != (l0 : Int)) = false := by simpa using hq
    clear hq hz
    go_wp2_with fail
    go_quiet (fail)
    obtain ⟨wB, hwB⟩ : ∃ z, wA.drewN nq = z := ⟨_, rfl⟩
    rw [hwB]
    have hab : Below wA.heap.size wA wB := by rw [← hwB]; exact Go.below_drewN (Below.refl _ _) _
    clear hwB y0 y1
    obtain ⟨y0, y1⟩ := HAT.out _ hab
    have HB2 := hide (HB.out.trans (hab.mono HB.out.size))
    have HAB := hide hab
    clear hab
    by_cases h4 : 4 < lk
    case pos =>
      rw [if_pos h4] at hbk
      have t4 : (4 : Int) < (lk : Int) := by omega
      have hne : bk ≠ 0 := by rw [hbk]; decide
      obtain rfl : E = 8 := (HFST.out hne).symm.trans hbk
      clear HAT HAB HRW HSZ
      go_wp2_with fail
      go_ret
      exact ⟨rfl, HB2.out⟩
    rw [if_neg h4] at hbk
    have t4 : ¬ (4 : Int) < (lk : Int) := by omega
    have HBK := hide hbk
    clear hbk
    go_wp2_with fail
    go_loopw [4] (fun i wr => ∃ q : Nat, q ≤ lk ∧ i = .int .i64 (q : Int) ∧ Hid (∀ j, j < q → (G j).isIn 1000 = true) ∧ Hid (Below wA.heap.size wA wr)) (fun i _ => lk - (Go.RowKit.intOf i).toNat)
    case atStart => exact ⟨0, Nat.zero_le _, rfl, hide (fun j hj => absurd hj (Nat.not_lt_zero j)), HAB⟩
    case round =>
      obtain ⟨q, hq, rfl, HZ, HC⟩ := hrel
      obtain ⟨wC, rfl⟩ : ∃ x : World, x = wr := ⟨_, rfl⟩
      clear y0 y1 HAB
      obtain ⟨y0, y1⟩ := HAT.out _ HC.out
      clear y0
      have HB3 := hide (HB.out.trans (HC.out.mono HB.out.size))
      by_cases hlq : q < lk
      case neg =>
        obtain rfl : lk = q := by omega
        have hlqz : ¬ (lk : Int) < (lk : Int) := by omega
        have hb0 : bk = 0 := by rw [HBK.out, insideB_iff.2 (fun j hj => Gau.isIn_iff.1 (HZ.out j hj))]; rfl
        have HSU2 := hide (HSU.out.trans hb0)
        clear HBK HFST HSU HSZ HRW HAT
        go_wp2_with fail
        go_roundw
        case rel => exact ⟨k + 1, by omega, by go_num, HSU2, HB3⟩
        case measure => simp [Go.RowKit.intOf]; omega
      have hlqz : (q : Int) < (lk : Int) := by omega
      obtain ⟨b2, o2, rfl, -, hb2, d0, d1⟩ := (HRW.out.below HC.out) q hlq
      have HXk := hide (HSZ.out q)
      cases hv : (G q).isIn 1000
      · rw [hv] at HXk
        have hbk : bk = 2 := by rw [HBK.out, insideB_no hlq hv]; rfl
        have hne : bk ≠ 0 := by rw [hbk]; decide
        obtain rfl : E = 2 := (HFST.out hne).symm.trans hbk
        clear HBK HFST HSU HSZ HRW HAT HZ hbk hne hv
        generalize G q = x at *
        go_wp2_with fail
        refine (HXk.out _).mono ?_
        rintro e_ w2 ⟨rfl, hb2⟩
        have HB4 := hide (HB3.out.trans (hb2.mono HB3.out.size))
        clear hb2 d0 d1
        go_wp2_with fail
        go_ret
        exact ⟨rfl, HB4.out⟩
      · rw [hv] at HXk
        have HZ2 := hide (show ∀ j, j < q + 1 → (G j).isIn 1000 = true from fun j hj => by
          by_cases e : j = q
          · rw [e]; exact hv
          · exact HZ.out j (by omega))
        clear HSZ HZ hv HBK HFST HSU HRW
        generalize G q = x at *
        go_wp2_with fail
        refine (HXk.out _).mono ?_
        rintro e_ w2 ⟨rfl, hb2⟩
        have HC2 := hide (HC.out.trans (hb2.mono HC.out.size))
        clear hb2 d0 d1 HAT y1
        go_wp2_with fail
        go_roundw
        case rel => exact ⟨q + 1, by omega, by go_num, HZ2, HC2⟩
        case measure => simp [Go.RowKit.intOf]; omega
end Go.Proofs.YtcdplfjegopmdaaGreat
/- Layered of the code and of the reference. -/
namespace Go.Proofs.YtcdplfjegopmdaaGreat
open Go Go.RowKit Go.Lib
theorem lyrE_zero {k : Int} {n : Nat} {F : Nat → Gau} (h : lyrE k n F = 0) : ∃ d q : Nat, k = (d : Int) ∧ 1 ≤ d ∧ d ≤ 4 ∧ 1 ≤ q ∧ q ≤ 200 ∧ n = d * q ∧ insideB 100000000 n F = true := by
  unfold lyrE at h
  by_cases h0 : withinB k 1 4 = true
  · rw [if_pos h0] at h
    have h1 := withinB_iff.1 h0
    obtain ⟨d, rfl⟩ : ∃ d : Nat, k = (d : Int) := ⟨k.toNat, by omega⟩
    by_cases h2 : n = 0 ∨ ¬ (n : Int) % (d : Int) = 0
    · rw [if_pos h2] at h; exact absurd h (by decide)
    rw [if_neg h2] at h
    by_cases h3 : 200 < (n : Int) / (d : Int)
    · rw [if_pos h3] at h; exact absurd h (by decide)
    rw [if_neg h3] at h
    have h4 : n % d = 0 := by omega
    have h5 := Nat.div_add_mod n d
    rw [h4, Nat.add_zero] at h5
    refine ⟨d, n / d, rfl, by omega, by omega, ?_, by omega, h5.symm, ?_⟩
    · rcases Nat.eq_zero_or_pos (n / d) with z | z
      · rw [z, Nat.mul_zero] at h5; omega
      · exact z
    · unfold unI at h
      by_cases hb : insideB 100000000 n F = true
      · exact hb
      · rw [if_neg hb] at h; exact absurd h (by decide)
  · rw [if_neg h0] at h; exact absurd h (by decide)
theorem cnt_row {c j i r : Nat} (h : cntL c (j + 1) r = if r = i then cntL c j r + 1 else cntL c j r) : (if r = i then cntL c j i + 1 else cntL c j r) = cntL c (j + 1) r := by
  rw [h]
  by_cases e : r = i
  · subst e; simp
  · simp [e]
theorem row_F {F : Nat → Gau} {d : Nat} (r i t : Nat) : (if r = i then (fun t => F (t * d + i)) else (fun t => F (t * d + r))) t = F (t * d + r) := by
  by_cases e : r = i
  · subst e; simp
  · simp [e]
theorem OwnPlane.weakP {w : World} {base base' n : Nat} {v : Value} {V : Nat → Value} {L : Nat → Nat} {F : Nat → Nat → Gau} (h : OwnPlane w base v n V L F) (hb : base' ≤ base) : OwnPlane w base' v n V L F :=
  ⟨⟨h.1.1, h.1.2.elim Or.inl (fun ⟨g, cap, cur, hv, hg, r⟩ => Or.inr ⟨g, cap, cur, hv, Nat.le_trans hb hg, r⟩)⟩, fun i hi => ⟨(h.2.1 i hi).1.weak hb, (h.2.1 i hi).2⟩, h.2.2⟩
theorem lyrE_right {d q n : Nat} {F : Nat → Gau} (h1 : 1 ≤ d) (h4 : d ≤ 4) (q1 : 1 ≤ q) (q9 : q ≤ 200) (hn : n = d * q) : (n : Int) % (d : Int) = 0 ∧ (n : Int) / (d : Int) = (q : Int) ∧ 0 < n := by
  have e : (n : Int) = (d : Int) * (q : Int) := by rw [hn]; push_cast; rfl
  refine ⟨by rw [e]; exact Int.mul_emod_right _ _, by rw [e]; exact Int.mul_ediv_cancel_left _ (by omega), by rw [hn]; exact Nat.mul_pos (by omega) (by omega)⟩
set_option maxHeartbeats 8000000 in
set_option maxRecDepth 100000 in
theorem Layered_wrong (k : Int) (A : Option Addr) (n c : Nat) (F : Nat → Gau) (w : World) (hn : n ≤ 100000) (hI : GausAt w 0 A n F) (hE : lyrE k n F ≠ 0) :
    Calls Tryz.prog 21 #[.int .i64 k, .slice A n c] w fun e w' => e = .returned (.tuple #[.slice none 0 0, .int .i64 (lyrE k n F)]) ∧ Below w.heap.size w w' := by
  have HE := hide (show lyrE k n F = if withinB k 1 4 = true then if n = 0 ∨ ¬ (n : Int) % k = 0 then 10 else if 200 < (n : Int) / k then 8 else unI (insideB 100000000 n F) 2 else 2 from rfl)
  obtain ⟨E, hEE⟩ : ∃ z, lyrE k n F = z := ⟨_, rfl⟩
  rw [hEE] at HE hE
  rw [hEE]
  have HNE := hide hE
  have HI := hide hI
  have HWI := hide (fun W => isWithin_any k 1 4 W)
  clear hEE hE hI
  by_cases h0 : 1 ≤ k ∧ k ≤ 4
  case neg =>
    simp only [withinB_no h0] at HWI HE
    obtain rfl : E = 2 := HE.out.trans (if_neg (by decide))
    clear HE HI h0
    go_enter Tryz.func21, Tryz.ntmps21
    go_wp2_with fail
    refine (HWI.out _).mono ?_
    rintro e_ v_ ⟨rfl, rfl⟩
    go_wp2_with fail
    go_ret2
    first | exact ⟨rfl, Below.refl _ _⟩ | exact ⟨rfl, by (repeat (first | (with_reducible exact Below.refl _ _) | (with_reducible refine Go.below_drewN ?_ _) | (with_reducible refine Below.drew ?_) | (with_reducible refine Below.alloc ?_ (by first | exact Nat.le_refl _ | (simp; done) | (simp; omega) | omega) _) | (with_reducible refine Below.setCell ?_ (by first | exact Nat.le_refl _ | (simp; done) | (simp; omega) | omega) _)))⟩
  simp only [withinB_yes h0] at HWI HE
  replace HE := hide (HE.out.trans (if_pos trivial))
  obtain ⟨d, rfl⟩ : ∃ d : Nat, k = (d : Int) := ⟨k.toNat, by omega⟩
  have hd1 : 1 ≤ d := by omega
  have hd4 : d ≤ 4 := by omega
  have hd0 : ¬ (d : Int) = 0 := by omega
  have hd0n : ¬ d = 0 := by omega
  clear h0
  by_cases h1 : n = 0
  case pos =>
    obtain rfl : E = 10 := HE.out.trans (if_pos (.inl h1))
    have t0 : ((n : Int) == 0) = true := by simp; omega
    clear HE HI h1
    go_enter Tryz.func21, Tryz.ntmps21
    go_wp2_with fail
    refine (HWI.out _).mono ?_
    rintro e_ v_ ⟨rfl, rfl⟩
    go_wp2_with fail
    go_ret2
    first | exact ⟨rfl, Below.refl _ _⟩ | exact ⟨rfl, by (repeat (first | (with_reducible exact Below.refl _ _) | (with_reducible refine Go.below_drewN ?_ _) | (with_reducible refine Below.drew ?_) | (with_reducible refine Below.alloc ?_ (by first | exact Nat.le_refl _ | (simp; done) | (simp; omega) | omega) _) | (with_reducible refine Below.setCell ?_ (by first | exact Nat.le_refl _ | (simp; done) | (simp; omega) | omega) _)))⟩
  have t0 : ((n : Int) == 0) = false := by simp; omega
  by_cases h2 : (n : Int) % (d : Int) = 0
  case neg =>
    obtain rfl : E = 10 := HE.out.trans (if_pos (.inr h2))
    have HNM := hide h2
    have tm : ((n : Int) % (d : Int) != 0) = true := by simpa using HNM.out
    have tm2 : ((n : Int).tmod (d : Int) != 0) = true := by rw [Int.tmod_eq_emod_of_nonneg (by omega)]; exact tm
    have tm3 : ¬ n % d = 0 := fun e => HNM.out (by omega)
    clear HE HI h2 h1
    go_enter Tryz.func21, Tryz.ntmps21
    go_wp2_with fail
    refine (HWI.out _).mono ?_
    rintro e_ v_ ⟨rfl, rfl⟩
    go_wp2_with fail
    go_ret2
    first | exact ⟨rfl, Below.refl _ _⟩ | exact ⟨rfl, by (repeat (first | (with_reducible exact Below.refl _ _) | (with_reducible refine Go.below_drewN ?_ _) | (with_reducible refine Below.drew ?_) | (with_reducible refine Below.alloc ?_ (by first | exact Nat.le_refl _ | (simp; done) | (simp; omega) | omega) _) | (with_reducible refine Below.setCell ?_ (by first | exact Nat.le_refl _ | (simp; done) | (simp; omega) | omega) _)))⟩
  replace HE := hide (HE.out.trans (if_neg (by rintro (z | z); exact h1 z; exact z h2)))
  have HNM := hide h2
  have tm : ((n : Int) % (d : Int) != 0) = false := by simpa using HNM.out
  have tm2 : ((n : Int).tmod (d : Int) != 0) = false := by rw [Int.tmod_eq_emod_of_nonneg (by omega)]; exact tm
  have tm3 : n % d = 0 := by have := HNM.out; omega
  obtain ⟨z, hz⟩ : ∃ z : Nat, n / d = z := ⟨_, rfl⟩
  have hzz : (n : Int) / (d : Int) = (z : Int) := by rw [← hz]; push_cast; rfl
  have hzt : (n : Int).tdiv (d : Int) = (z : Int) := by rw [Int.tdiv_eq_ediv_of_nonneg (by omega)]; exact hzz
  rw [hzz] at HE
  have hwz : IntKind.i64.wrap (z : Int) = (z : Int) := IntWalk.i64_in _ (by have h9 := Nat.div_le_self n d; omega)
  clear h2 h1
  by_cases h3 : 200 < z
  case pos =>
    obtain rfl : E = 8 := HE.out.trans (if_pos (by omega))
    have t3 : (200 : Int) < (z : Int) := by omega
    clear HE HI h3
    go_enter Tryz.func21, Tryz.ntmps21
    go_wp2_with fail
    refine (HWI.out _).mono ?_
    rintro e_ v_ ⟨rfl, rfl⟩
    go_wp2_with fail
    go_ret2
    first | exact ⟨rfl, Below.refl _ _⟩ | exact ⟨rfl, by (repeat (first | (with_reducible exact Below.refl _ _) | (with_reducible refine Go.below_drewN ?_ _) | (with_reducible refine Below.drew ?_) | (with_reducible refine Below.alloc ?_ (by first | exact Nat.le_refl _ | (simp; done) | (simp; omega) | omega) _) | (with_reducible refine Below.setCell ?_ (by first | exact Nat.le_refl _ | (simp; done) | (simp; omega) | omega) _)))⟩
  replace HE := hide (HE.out.trans (if_neg (by omega)))
  have t3 : ¬ (200 : Int) < (z : Int) := by omega
  have hb : insideB 100000000 n F = false := by
    cases hb : insideB 100000000 n F
    · rfl
    · rw [hb] at HE; exact absurd HE.out HNE.out
  obtain rfl : E = 2 := by rw [HE.out, hb]; rfl
  clear HE h3
  have HAW := hide (areWithin_any A n c F 100000000 w (by decide) hn HI.out)
  rw [hb] at HAW
  clear HI hb
  go_enter Tryz.func21, Tryz.ntmps21
  go_wp2_with fail
  refine (HWI.out _).mono ?_
  rintro e_ v_ ⟨rfl, rfl⟩
  go_wp2_with fail
  refine HAW.out.mono ?_
  rintro e_ w1 ⟨rfl, hb1⟩
  go_wp2_with fail
  go_ret2
  exact ⟨rfl, hb1⟩
set_option maxHeartbeats 16000000 in
set_option maxRecDepth 100000 in
theorem Layered_right (d q : Nat) (A : Option Addr) (n c : Nat) (F : Nat → Gau) (w : World) (h1 : 1 ≤ d) (h4 : d ≤ 4) (q1 : 1 ≤ q) (q9 : q ≤ 200) (hnq : n = d * q) (hb : insideB 100000000 n F = true) (hI : GausAt w 0 A n F) :
    Calls Tryz.prog 21 #[.int .i64 (d : Int), .slice A n c] w fun e w' => ∃ v V, e = .returned (.tuple #[v, .int .i64 0]) ∧ OwnPlane w' w.heap.size v d V (fun _ => q) (fun i t => F (t * d + i)) ∧ Below w.heap.size w w' := by
  obtain ⟨e1, e2, hn0⟩ := lyrE_right (F := F) h1 h4 q1 q9 hnq
  have hn9 : n ≤ 800 := by rw [hnq]; exact Nat.mul_le_mul h4 q9
  have HNQ := hide hnq
  have HI := hide hI
  have HNM := hide e1
  have hd0 : ¬ (d : Int) = 0 := by omega
  have hd0n : ¬ d = 0 := by omega
  have t0 : ((n : Int) == 0) = false := by simp; omega
  have tm : ((n : Int) % (d : Int) != 0) = false := by simpa using HNM.out
  have tm2 : ((n : Int).tmod (d : Int) != 0) = false := by rw [Int.tmod_eq_emod_of_nonneg (by omega)]; exact tm
  have tm3 : n % d = 0 := by have := HNM.out; omega
  have hzt : (n : Int).tdiv (d : Int) = (q : Int) := by rw [Int.tdiv_eq_ediv_of_nonneg (by omega)]; exact e2
  have hz : n / d = q := by omega
  have t3 : ¬ (200 : Int) < (q : Int) := by omega
  have hwq : IntKind.i64.wrap (q : Int) = (q : Int) := IntWalk.i64_in _ (by omega)
  have HWI := hide (fun W => isWithin_any (d : Int) 1 4 W)
  simp only [withinB_yes (show 1 ≤ (d : Int) ∧ (d : Int) ≤ 4 by omega)] at HWI
  have hmk := madeMat d (by omega)
  clear e1 e2 hnq hI
  have HAW := hide (areWithin_any A n c F 100000000 w (by decide) (by omega) HI.out)
  rw [hb] at HAW
  clear hb
  go_enter Tryz.func21, Tryz.ntmps21
  go_wp2_with fail
  refine (HWI.out _).mono ?_
  rintro e_ v_ ⟨rfl, rfl⟩
  clear HWI
  go_wp2_with fail
  refine HAW.out.mono ?_
  rintro e_ w1 ⟨rfl, hb1⟩
  have HB := hide hb1
  clear hb1 HAW
  obtain ⟨gl, hgl⟩ : ∃ z, w1.heap.size = z := ⟨_, rfl⟩
  have hwg : w.heap.size ≤ gl := by rw [← hgl]; exact HB.out.size
  go_upto_region 10 with fail
  obtain ⟨w2, hw2⟩ : ∃ z : World, z = w1.alloc (.cells (madeCells #[.slice none 0 0] d) 32) := ⟨_, rfl⟩
  try simp only [hgl]
  try rw [← hw2]
  have HP := hide (show OwnPlane w2 gl (.slice (some ⟨gl, 0, none⟩) d d) d (fun _ => .slice none 0 0) (fun i => cntL d 0 i) (fun i t => F (t * d + i)) from by
    have h9 := OwnPlane.made w1 w1.heap.size d (fun i t => F (t * d + i)) (Nat.le_refl _) (by omega)
    rw [← hw2, hgl] at h9
    exact h9.congr fun i hi => ⟨rfl, (cntL_zero hi).symm, fun _ _ => rfl⟩)
  replace HB := hide (show Below w.heap.size w w2 by rw [hw2]; exact HB.out.alloc HB.out.size _)
  clear hw2 hmk
  go_wp2_with fail
  go_loopw [7, 8, 38] (fun _ _ z wr => ∃ (j : Nat) (V : Nat → Value), j ≤ n ∧ z = .int .i64 (j : Int) ∧ Hid (OwnPlane wr gl (.slice (some ⟨gl, 0, none⟩) d d) d V (fun i => cntL d j i) (fun i t => F (t * d + i))) ∧ Hid (Below w.heap.size w wr)) (fun _ _ z _ => n - (Go.RowKit.intOf z).toNat)
  case atStart => exact ⟨0, _, Nat.zero_le _, rfl, HP, HB⟩
  case round =>
    clear HP HB
    obtain ⟨j, V, hj, rfl, HP, HB⟩ := hrel
    obtain ⟨wA, rfl⟩ : ∃ x : World, x = wr := ⟨_, rfl⟩
    by_cases hlt : j < n
    case neg =>
      obtain rfl : n = j := by omega
      have hltz : ¬ (n : Int) < (n : Int) := by omega
      have HP2 := hide ((HP.out.congr (V' := V) (L' := fun _ => q) (F' := fun i t => F (t * d + i)) (fun i hi => ⟨rfl, (by rw [HNQ.out]; exact cntL_end h1 h4 hi), fun _ _ => rfl⟩)).weakP hwg)
      clear HP HI
      go_wp2_with fail
      go_ret2
      first | exact ⟨_, rfl, ⟨V, HP2.out⟩, HB.out⟩ | exact ⟨_, V, rfl, HP2.out, HB.out⟩ | exact ⟨⟨V, HP2.out⟩, HB.out⟩
    have hltz : (j : Int) < (n : Int) := by omega
    obtain ⟨i, hi⟩ : ∃ i, j % d = i := ⟨_, rfl⟩
    have hid : i < d := by rw [← hi]; exact Nat.mod_lt _ (by omega)
    have hidz : (i : Int) < (d : Int) := by omega
    have hit : (j : Int).tmod (d : Int) = (i : Int) := by rw [Int.tmod_eq_emod_of_nonneg (by omega), ← hi]; push_cast; rfl
    have HCA := hide (show cntL d j i = j / d by rw [← hi]; exact cntL_at h1 h4)
    have HFJ := hide (show F (j / d * d + i) = F j by rw [← hi, at_row])
    have HCN := hide (fun r (hr : r < d) => (show cntL d (j + 1) r = if r = i then cntL d j r + 1 else cntL d j r by rw [← hi]; exact cntL_next h1 h4 hr))
    obtain ⟨b, o, rfl, -, hbl, c0, c1⟩ := HI.out j hlt
    replace c0 := fun W (h : Below w.heap.size w W) => bcellW h c0
    replace c1 := fun W (h : Below w.heap.size w W) => bcellW h c1
    obtain ⟨x, hx⟩ : ∃ z, F j = z := ⟨_, rfl⟩
    simp only [hx] at c0 c1
    rw [hx] at HFJ
    obtain ⟨xr, hxr⟩ : ∃ z, x.re = z := ⟨_, rfl⟩
    obtain ⟨xi, hxi⟩ : ∃ z, x.im = z := ⟨_, rfl⟩
    simp only [hxr] at c0
    simp only [hxi] at c1
    have HXQ := hide (fun W (h : Below w.heap.size w W) => (⟨c0 W h, c1 W h⟩ : W.cell? ⟨b, o + j * 2, none⟩ = some (.int .i64 xr) ∧ W.cell? ⟨b, o + j * 2 + 1, none⟩ = some (.int .i64 xi)))
    have HXX := hide (show (⟨xr, xi⟩ : Gau) = x from Gau.same hxr.symm hxi.symm)
    obtain ⟨d0, d1⟩ := HXQ.out _ HB.out
    clear c0 c1
    clear hx hxr hxi
    have HXP := hide (fun W (h : Below w.heap.size w W) => (HXQ.out W h : W.cell? ⟨b, o + j * 2, none⟩ = some (.int .i64 xr) ∧ W.cell? ⟨b, o + j * 2 + 1, none⟩ = some (.int .i64 xi)))
    obtain ⟨Ai, ci, hVi, -, -⟩ := ownGaus_form (HP.out.2.1 i hid).1
    have HVI := hide hVi
    clear hVi
    have HP0 := hide HP.out
    go_upto_region 13 with fail
    obtain ⟨b8, hb8⟩ : ∃ z, wA.heap.size = z := ⟨_, rfl⟩
    obtain ⟨w3, hw3⟩ : ∃ z : World, z = wA.alloc (.cells #[.int .i64 xr, .int .i64 xi] 62) := ⟨_, rfl⟩
    try rw [← hw3]
    try simp only [hb8]
    have HX := hide (show Box w3 b8 62 #[.int .i64 xr, .int .i64 xi] by rw [hw3]; exact Box.made hb8.symm)
    have hc3 : Below wA.heap.size wA w3 := by rw [hw3]; exact (Below.refl _ _).alloc (Nat.le_refl _) _
    replace HP := hide (HP.out.below hc3)
    replace HB := hide (HB.out.trans (hc3.mono HB.out.size))
    skip
    have HBL := hide (show wA.heap.size ≤ b8 by omega)
    have HVB := hide (show (V i).ownBlock ≠ some b8 from fun z => (by have h9 := ((HP0.out.2.1 i hid).1.blockLt z).2; omega))
    clear hw3 hc3 hb8 d0 d1
    refine wp_region_held_drew (S := fun w' => w'.cell? ⟨b8, 0, none⟩ = some (.int .i64 xr) ∧ w'.cell? ⟨b8, 1, none⟩ = some (.int .i64 xi)) (by kernel_rfl) ⟨HX.out.at_ 0, HX.out.at_ 1⟩ (fun hHeld => ?_)
    obtain ⟨w_1, hw_1⟩ : ∃ q : World, q = w3.drew := ⟨_, rfl⟩
    rw [← hw_1] at hHeld ⊢
    have hc_1 : Below w3.heap.size w3 w_1 := by rw [hw_1]; exact (Below.refl _ _).drew
    clear hw_1
    replace HP := hide (HP.out.below hc_1)
    replace HX := hide (HX.out.below hc_1)
    replace HB := hide (HB.out.trans (hc_1.mono HB.out.size))
    clear hc_1
    refine wpAnyH_take (i := 0) (oi := ⟨some 43, _, _, _, _, _⟩) (v := ?_) rfl (by kernel_rfl) (by kernel_rfl) (by kernel_rfl) (fun _ _ _ h => h) (Or.inl ⟨by rfl, ?_⟩) (by assumption) ?_
    rotate_left
    · (intro w' hSw; (try dsimp only at hSw); go_simp <;> (with_reducible rfl))
    try simp only [Act.put, List.setIfInBounds_toArray, List.set_cons_zero, List.set_cons_succ]
    refine wpAnyH_take (i := 1) (oi := ⟨some 44, _, _, _, _, _⟩) (v := ?_) rfl (by kernel_rfl) (by kernel_rfl) (by kernel_rfl) (fun _ _ _ h => h) (Or.inl ⟨by rfl, ?_⟩) (by assumption) ?_
    rotate_left
    · (intro w' hSw; (try dsimp only at hSw); go_simp <;> (with_reducible rfl))
    try simp only [Act.put, List.setIfInBounds_toArray, List.set_cons_zero, List.set_cons_succ]
    refine wpAnyH_take (i := 2) (oi := ⟨some 45, _, _, _, _, _⟩) (v := ?_) rfl (by kernel_rfl) (by kernel_rfl) (by kernel_rfl) (fun _ _ _ h => h) (Or.inl ⟨by rfl, ?_⟩) (by assumption) ?_
    rotate_left
    · (intro w' hSw; (try dsimp only at hSw); go_simp <;> (with_reducible rfl))
    try simp only [Act.put, List.setIfInBounds_toArray, List.set_cons_zero, List.set_cons_succ]
    refine wpAnyH_take (i := 3) (oi := ⟨some 46, _, _, _, _, _⟩) (v := ?_) rfl (by kernel_rfl) (by kernel_rfl) (by kernel_rfl) (fun _ _ _ h => h) (Or.inl ⟨by rfl, ?_⟩) (by assumption) ?_
    rotate_left
    · (intro w' hSw; (try dsimp only at hSw); go_simp <;> (with_reducible rfl))
    try simp only [Act.put, List.setIfInBounds_toArray, List.set_cons_zero, List.set_cons_succ]
    refine wpAnyH_take (i := 4) (oi := ⟨some 47, _, _, _, _, _⟩) (v := ?_) rfl (by kernel_rfl) (by kernel_rfl) (by kernel_rfl) (fun _ _ _ h => h) (Or.inl ⟨by rfl, ?_⟩) (by assumption) ?_
    rotate_left
    · (intro w' hSw; (try dsimp only at hSw); go_simp <;> (with_reducible rfl))
    try simp only [Act.put, List.setIfInBounds_toArray, List.set_cons_zero, List.set_cons_succ]
    refine wpAnyH_take (i := 5) (oi := ⟨some 48, _, _, _, _, _⟩) (v := ?_) rfl (by kernel_rfl) (by kernel_rfl) (by kernel_rfl) (fun _ _ _ h => h) (Or.inl ⟨by rfl, ?_⟩) (by assumption) ?_
    rotate_left
    · (intro w' hSw; (try dsimp only at hSw); go_simp <;> (with_reducible rfl))
    try simp only [Act.put, List.setIfInBounds_toArray, List.set_cons_zero, List.set_cons_succ]
    refine wpAnyH_take (i := 6) (oi := ⟨some 49, _, _, _, _, _⟩) (v := ?_) rfl (by kernel_rfl) (by kernel_rfl) (by kernel_rfl) (fun _ _ _ h => h) (Or.inl ⟨by rfl, ?_⟩) (by assumption) ?_
    rotate_left
    · (intro w' hSw; (try dsimp only at hSw); go_simp <;> (with_reducible rfl))
    try simp only [Act.put, List.setIfInBounds_toArray, List.set_cons_zero, List.set_cons_succ]
    refine wpAnyH_take (i := 7) (oi := ⟨some 50, _, _, _, _, _⟩) (v := ?_) rfl (by kernel_rfl) (by kernel_rfl) (by kernel_rfl) (fun _ _ _ h => h) (Or.inl ⟨by rfl, ?_⟩) (by assumption) ?_
    rotate_left
    · (intro w' hSw; (try dsimp only at hSw); go_simp <;> (with_reducible rfl))
    try simp only [Act.put, List.setIfInBounds_toArray, List.set_cons_zero, List.set_cons_succ]
    refine wpAnyH_take (i := 8) (oi := ⟨some 51, _, _, _, _, _⟩) (v := ?_) rfl (by kernel_rfl) (by kernel_rfl) (by kernel_rfl) (fun _ _ _ h => h) (Or.inl ⟨by rfl, ?_⟩) (by assumption) ?_
    rotate_left
    · (intro w' hSw; (try dsimp only at hSw); go_simp <;> (with_reducible rfl))
    try simp only [Act.put, List.setIfInBounds_toArray, List.set_cons_zero, List.set_cons_succ]
    refine wpAnyH_take (i := 10) (oi := ⟨some 53, _, _, _, _, _⟩) (v := ?_) rfl (by kernel_rfl) (by kernel_rfl) (by kernel_rfl) (fun _ _ _ h => h) (Or.inl ⟨by rfl, ?_⟩) (by assumption) ?_
    rotate_left
    · (intro w' hSw; (try dsimp only at hSw); go_simp <;> (with_reducible rfl))
    try simp only [Act.put, List.setIfInBounds_toArray, List.set_cons_zero, List.set_cons_succ]
    refine wpAnyH_ready (rs := [9, 11]) (by kernel_rfl) (by simp) ?_
    refine AllReadyH.cons (o := ⟨some 52, _, _, _, _, _⟩) rfl (fun K' hK => ?_) (AllReadyH.cons (o := ⟨some 54, _, _, _, _, _⟩) rfl (fun K' hK => ?_) AllReadyH.nil)
    · skip
      have y0 := HP.out.at_ rfl hid
      rw [HVI.out] at y0
      have hgb := (HP.out.lt (k := gl) rfl).2
      go_simp
      clear y0 hgb
      refine hK.out _ _ ⟨HX.out.at_ 0, HX.out.at_ 1⟩ (fun hHeld => ?_)
      clear hK K'
      try simp only [Act.put, List.setIfInBounds_toArray, List.set_cons_zero, List.set_cons_succ]
      refine wpAnyH_ready (rs := [11]) (by kernel_rfl) (by simp) ?_
      refine AllReadyH.cons (o := ⟨some 54, _, _, _, _, _⟩) rfl (fun K' hK => ?_) AllReadyH.nil
      go_simp
      obtain ⟨g9, hg9⟩ : ∃ z, w_1.heap.size = z := ⟨_, rfl⟩
      obtain ⟨w_2, hw_2⟩ : ∃ z : World, z = w_1.alloc (.cells #[.int .i64 xr, .int .i64 xi] 62) := ⟨_, rfl⟩
      try rw [← hw_2]
      have HP9 := hide (show Box w_2 g9 62 #[.int .i64 x.re, .int .i64 x.im] by rw [← HXX.out, hw_2]; exact Box.made hg9.symm)
      have hc_2 : Below w_1.heap.size w_1 w_2 := by rw [hw_2]; exact (Below.refl _ _).alloc (Nat.le_refl _) _
      clear hw_2
      replace HP := hide (HP.out.below hc_2)
      replace HX := hide (HX.out.below hc_2)
      replace HB := hide (HB.out.trans (hc_2.mono HB.out.size))
      clear hc_2
      try simp only [hg9]
      clear hg9
      refine hK.out _ _ ⟨HX.out.at_ 0, HX.out.at_ 1⟩ (fun hHeld => ?_)
      clear hK K'
      try simp only [Act.put, List.setIfInBounds_toArray, List.set_cons_zero, List.set_cons_succ]
      refine wpAnyH_ready (rs := [12]) (by kernel_rfl) (by simp) ?_
      refine AllReadyH.cons (o := ⟨some 55, _, _, _, _, _⟩) rfl (fun K' hK => ?_) AllReadyH.nil
      refine step_append_oneB _ rfl (.tmp 52) (.tmp 54) rfl gl (.slice Ai (cntL d j i) ci) (cntL d j i) _ rfl (HVI.out ▸ (HP.out.2.1 i hid).1) g9 1 x rfl HP9.out (by rw [HCA.out]; have : j / d ≤ j := Nat.div_le_self _ _; omega) (by have h9 := (HP.out.lt (k := gl) rfl).2; omega) ?_
      intro v9 w_3 ho9 hb9 hgr9 hbk9
      rw [← HVI.out] at hgr9 hbk9
      have HX2 := hide (show Box w_3 b8 62 #[.int .i64 xr, .int .i64 xi] from (hgr9.block b8 HX.out.lt (fun z => HVB.out z.symm)).trans HX.out)
      clear HX
      have HX := HX2
      clear HX2
      have HO9 := hide (ho9.congr (G := fun t => F (t * d + i)) (fun t ht => by
        by_cases e : t < cntL d j i
        · rw [if_pos e]
        · rw [if_neg e, show t = j / d by rw [← HCA.out]; omega]; exact HFJ.out.symm))
      have HGR := hide hgr9
      have HBK := hide hbk9
      obtain ⟨A9, c9, rfl, -, -⟩ := ownGaus_form HO9.out
      replace HB := hide (HB.out.trans (hb9.mono hwg))
      clear ho9 hb9 hgr9 hbk9 HP9
      refine hK.out _ _ ⟨HX.out.at_ 0, HX.out.at_ 1⟩ (fun hHeld => ?_)
      clear hK K'
      try simp only [Act.put, List.setIfInBounds_toArray, List.set_cons_zero, List.set_cons_succ]
      refine wpAnyH_take (i := 13) (oi := ⟨some 56, _, _, _, _, _⟩) (v := ?_) rfl (by kernel_rfl) (by kernel_rfl) (by kernel_rfl) (fun _ _ _ h => h) (Or.inl ⟨by rfl, ?_⟩) (by assumption) ?_
      rotate_left
      · (intro w' hSw; (try dsimp only at hSw); go_simp <;> (with_reducible rfl))
      try simp only [Act.put, List.setIfInBounds_toArray, List.set_cons_zero, List.set_cons_succ]
      refine wpAnyH_ready (rs := [14]) (by kernel_rfl) (by simp) ?_
      refine AllReadyH.cons (o := ⟨none, _, _, _, _, _⟩) rfl (fun K' hK => ?_) AllReadyH.nil
      obtain ⟨y0, f0, hgb⟩ := HP.out.midcell hid HGR.out
      go_simp
      clear y0 f0 hgb
      have HP2 := hide ((HP.out.appended hid HO9.out HGR.out HBK.out).congr (V' := fun r => if r = i then (.slice A9 (cntL d j i + 1) c9) else V r) (L' := fun r => cntL d (j + 1) r) (F' := fun r t => F (t * d + r)) (fun r hr => ⟨rfl, cnt_row (HCN.out r hr), fun t _ => row_F r i t⟩))
      have HX2 := hide (HX.out.other (p := ⟨gl, i, none⟩) (by show b8 ≠ gl; have h9 := (HP0.out.lt (k := gl) rfl).2; have h8 := HBL.out; omega) (.slice A9 (cntL d j i + 1) c9))
      clear HX
      have HX := HX2
      clear HX2
      replace HB := hide (HB.out.setCell (p := ⟨gl, i, none⟩) hwg (.slice A9 (cntL d j i + 1) c9))
      obtain ⟨w_4, hw_4⟩ : ∃ z : World, w_3.setCell ⟨gl, i, none⟩ (.slice A9 (cntL d j i + 1) c9) = z := ⟨_, rfl⟩
      rw [hw_4] at HP2 HB HX ⊢
      clear hw_4 HP
      refine hK.out _ _ ⟨HX.out.at_ 0, HX.out.at_ 1⟩ (fun hHeld => ?_)
      clear hK K'
      try simp only [Act.put, List.setIfInBounds_toArray, List.set_cons_zero, List.set_cons_succ]
      refine wpAnyH_done (by kernel_rfl) ?_ _
      clear hHeld
      go_wp2_with fail
      go_roundw
      case rel => exact ⟨j + 1, _, by omega, by go_num, HP2, HB⟩
      case measure => simp [Go.RowKit.intOf]; omega
    · skip
      go_simp
      obtain ⟨g9, hg9⟩ : ∃ z, w_1.heap.size = z := ⟨_, rfl⟩
      obtain ⟨w_5, hw_5⟩ : ∃ z : World, z = w_1.alloc (.cells #[.int .i64 xr, .int .i64 xi] 62) := ⟨_, rfl⟩
      try rw [← hw_5]
      have HP9 := hide (show Box w_5 g9 62 #[.int .i64 x.re, .int .i64 x.im] by rw [← HXX.out, hw_5]; exact Box.made hg9.symm)
      have hc_5 : Below w_1.heap.size w_1 w_5 := by rw [hw_5]; exact (Below.refl _ _).alloc (Nat.le_refl _) _
      clear hw_5
      replace HP := hide (HP.out.below hc_5)
      replace HX := hide (HX.out.below hc_5)
      replace HB := hide (HB.out.trans (hc_5.mono HB.out.size))
      clear hc_5
      try simp only [hg9]
      clear hg9
      refine hK.out _ _ ⟨HX.out.at_ 0, HX.out.at_ 1⟩ (fun hHeld => ?_)
      clear hK K'
      try simp only [Act.put, List.setIfInBounds_toArray, List.set_cons_zero, List.set_cons_succ]
      refine wpAnyH_ready (rs := [9]) (by kernel_rfl) (by simp) ?_
      refine AllReadyH.cons (o := ⟨some 52, _, _, _, _, _⟩) rfl (fun K' hK => ?_) AllReadyH.nil
      have y0 := HP.out.at_ rfl hid
      rw [HVI.out] at y0
      have hgb := (HP.out.lt (k := gl) rfl).2
      go_simp
      clear y0 hgb
      refine hK.out _ _ ⟨HX.out.at_ 0, HX.out.at_ 1⟩ (fun hHeld => ?_)
      clear hK K'
      try simp only [Act.put, List.setIfInBounds_toArray, List.set_cons_zero, List.set_cons_succ]
      refine wpAnyH_ready (rs := [12]) (by kernel_rfl) (by simp) ?_
      refine AllReadyH.cons (o := ⟨some 55, _, _, _, _, _⟩) rfl (fun K' hK => ?_) AllReadyH.nil
      refine step_append_oneB _ rfl (.tmp 52) (.tmp 54) rfl gl (.slice Ai (cntL d j i) ci) (cntL d j i) _ rfl (HVI.out ▸ (HP.out.2.1 i hid).1) g9 1 x rfl HP9.out (by rw [HCA.out]; have : j / d ≤ j := Nat.div_le_self _ _; omega) (by have h9 := (HP.out.lt (k := gl) rfl).2; omega) ?_
      intro v9 w_6 ho9 hb9 hgr9 hbk9
      rw [← HVI.out] at hgr9 hbk9
      have HX2 := hide (show Box w_6 b8 62 #[.int .i64 xr, .int .i64 xi] from (hgr9.block b8 HX.out.lt (fun z => HVB.out z.symm)).trans HX.out)
      clear HX
      have HX := HX2
      clear HX2
      have HO9 := hide (ho9.congr (G := fun t => F (t * d + i)) (fun t ht => by
        by_cases e : t < cntL d j i
        · rw [if_pos e]
        · rw [if_neg e, show t = j / d by rw [← HCA.out]; omega]; exact HFJ.out.symm))
      have HGR := hide hgr9
      have HBK := hide hbk9
      obtain ⟨A9, c9, rfl, -, -⟩ := ownGaus_form HO9.out
      replace HB := hide (HB.out.trans (hb9.mono hwg))
      clear ho9 hb9 hgr9 hbk9 HP9
      refine hK.out _ _ ⟨HX.out.at_ 0, HX.out.at_ 1⟩ (fun hHeld => ?_)
      clear hK K'
      try simp only [Act.put, List.setIfInBounds_toArray, List.set_cons_zero, List.set_cons_succ]
      refine wpAnyH_take (i := 13) (oi := ⟨some 56, _, _, _, _, _⟩) (v := ?_) rfl (by kernel_rfl) (by kernel_rfl) (by kernel_rfl) (fun _ _ _ h => h) (Or.inl ⟨by rfl, ?_⟩) (by assumption) ?_
      rotate_left
      · (intro w' hSw; (try dsimp only at hSw); go_simp <;> (with_reducible rfl))
      try simp only [Act.put, List.setIfInBounds_toArray, List.set_cons_zero, List.set_cons_succ]
      refine wpAnyH_ready (rs := [14]) (by kernel_rfl) (by simp) ?_
      refine AllReadyH.cons (o := ⟨none, _, _, _, _, _⟩) rfl (fun K' hK => ?_) AllReadyH.nil
      obtain ⟨y0, f0, hgb⟩ := HP.out.midcell hid HGR.out
      go_simp
      clear y0 f0 hgb
      have HP2 := hide ((HP.out.appended hid HO9.out HGR.out HBK.out).congr (V' := fun r => if r = i then (.slice A9 (cntL d j i + 1) c9) else V r) (L' := fun r => cntL d (j + 1) r) (F' := fun r t => F (t * d + r)) (fun r hr => ⟨rfl, cnt_row (HCN.out r hr), fun t _ => row_F r i t⟩))
      have HX2 := hide (HX.out.other (p := ⟨gl, i, none⟩) (by show b8 ≠ gl; have h9 := (HP0.out.lt (k := gl) rfl).2; have h8 := HBL.out; omega) (.slice A9 (cntL d j i + 1) c9))
      clear HX
      have HX := HX2
      clear HX2
      replace HB := hide (HB.out.setCell (p := ⟨gl, i, none⟩) hwg (.slice A9 (cntL d j i + 1) c9))
      obtain ⟨w_7, hw_7⟩ : ∃ z : World, w_6.setCell ⟨gl, i, none⟩ (.slice A9 (cntL d j i + 1) c9) = z := ⟨_, rfl⟩
      rw [hw_7] at HP2 HB HX ⊢
      clear hw_7 HP
      refine hK.out _ _ ⟨HX.out.at_ 0, HX.out.at_ 1⟩ (fun hHeld => ?_)
      clear hK K'
      try simp only [Act.put, List.setIfInBounds_toArray, List.set_cons_zero, List.set_cons_succ]
      refine wpAnyH_done (by kernel_rfl) ?_ _
      clear hHeld
      go_wp2_with fail
      go_roundw
      case rel => exact ⟨j + 1, _, by omega, by go_num, HP2, HB⟩
      case measure => simp [Go.RowKit.intOf]; omega
end Go.Proofs.YtcdplfjegopmdaaGreat
/- S66 of chapter 03, in a namespace of its own. -/
namespace Go.Proofs.YtcdplfjegopmdaaGreat
open Go Go.RowKit Go.Lib Ieee
theorem gausOther {w : World} {lo n b o p f : Nat} {F : Nat → Gau} (h : GausAt w lo (some ⟨b, o, none⟩) n F) (hp : b < p) (u : Value) : GausAt (w.setCell ⟨p, f, none⟩ u) lo (some ⟨b, o, none⟩) n F := fun i hi => by
  obtain ⟨b', o', e, h1, h2, h3, h4⟩ := h i hi
  injection e with e
  injection e with e1 e2
  subst e1; subst e2
  exact ⟨b, o, rfl, h1, by simpa [World.setCell] using h2, (World.cell?_setCell_other w ⟨p, f, none⟩ ⟨b, o + i * 2, none⟩ u (fun e => by injection e with e1 _; omega)).trans h3, (World.cell?_setCell_other w ⟨p, f, none⟩ ⟨b, o + i * 2 + 1, none⟩ u (fun e => by injection e with e1 _; omega)).trans h4⟩
theorem gausLt {w : World} {lo n b o : Nat} {F : Nat → Gau} (h : GausAt w lo (some ⟨b, o, none⟩) n F) (hn : 0 < n) : b < w.heap.size := by
  obtain ⟨b', o', e, h1, h2, -⟩ := h 0 hn
  injection e with e
  injection e with e1 _
  subst e1
  exact h2
end Go.Proofs.YtcdplfjegopmdaaGreat
