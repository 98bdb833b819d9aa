/- Lemmas: S57, S61, S62, S65, S66. -/
import Derived.Test.YtonmkmaeohfjpaaBk02
import Derived.Test.YtonmkmaeohfjpaaBk10
import Derived.Test.YtonmkmaeohfjpaaBk14
import Derived.Test.YtonmkmaeohfjpaaBk18
import Derived.Test.YtonmkmaeohfjpaaBk19
import Derived.Test.YtonmkmaeohfjpaaBk20
import Derived.Test.YtonmkmaeohfjpaaBk21
set_option linter.unusedVariables false
set_option linter.unusedSimpArgs false
/- power of the reference, BitsOf of the base, LevelOf of the reference for any count. -/
namespace Go.Proofs.Ytonmkmaeohfjpaa
open Go Go.RowKit Go.Lib Go.Shelf
set_option maxHeartbeats 4000000 in
set_option maxRecDepth 100000 in
theorem powerR_any (c : Nat) (w : World) (h6 : c ≤ 6) : Calls Try.prog 92 #[.int .i64 (c : Int)] w fun e w' => e = .returned (.int .i64 ((2 ^ c : Nat) : Int)) ∧ w = w' := by
  have HP := hide (fun k (h : k ≤ 6) => (show 2 ^ k ≤ 64 from (Nat.pow_le_pow_right (by decide) h : 2 ^ k ≤ 2 ^ 6)))
  go_enter Try.func92, Try.ntmps92
  go_wp2_with fail
  go_loopw [3, 4] (fun v i wr => ∃ k x : Nat, k ≤ c ∧ Hid (2 ^ k = x) ∧ v = .int .i64 (x : Int) ∧ i = .int .i64 (k : Int) ∧ w = wr) (fun _ i _ => c - (Go.RowKit.intOf i).toNat)
  case atStart => exact ⟨0, 1, Nat.zero_le _, hide rfl, by first | trivial | rfl, by first | trivial | rfl, by first | trivial | rfl⟩
  case round =>
    obtain ⟨k, x, hk, HX, rfl, rfl, hw⟩ := hrel
    subst hw
    have hx6 : x ≤ 64 := by rw [← HX.out]; exact HP.out k (by omega)
    by_cases hlt : k < c
    · have hltz : (k : Int) < (c : Int) := by omega
      have q1 : IntKind.i64.wrap (2 * (x : Int)) = ((2 * x : Nat) : Int) := by rw [IntWalk.i64_in _ (by omega)]; push_cast; rfl
      go_wp2_with fail
      go_roundw
      case rel => exact ⟨k + 1, 2 * x, by omega, hide (by rw [Nat.pow_succ, HX.out]; omega), by first | rfl | (simp; done) | go_num, by go_num, by first | trivial | rfl⟩
      case measure => simp [Go.RowKit.intOf] <;> omega
    · have hkc : k = c := by omega
      subst hkc
      have hltz : ¬ (k : Int) < (k : Int) := by omega
      have e1 : ((x : Nat) : Int) = ((2 ^ k : Nat) : Int) := by rw [HX.out]
      go_wp2_with fail
      go_ret
      exact ⟨by first | rfl | (simp [← e1]; done), rfl⟩
set_option maxHeartbeats 4000000 in
set_option maxRecDepth 100000 in
theorem BitsOfB_any (j c : Nat) (w : World) (hj : j < 64) (h1 : 1 ≤ c) (h6 : c ≤ 6) :
    Calls Try.prog 48 #[.int .i64 (j : Int), .int .i64 (c : Int)] w fun e w' => ∃ g, e = .returned (.slice (some ⟨g, 0, none⟩) c c) ∧ IntsAt w' 0 (some ⟨g, 0, none⟩) c (labF c j) ∧ Below w.heap.size w w' := by
  obtain ⟨i0, hi, hz0, hz1, hz2⟩ := info_parts intInfo
  have hmk := fun W => run_make_row (P := Try.prog) 22 3 i0 (.int .i64 0) Try.underlying22 hi hz0 hz1 rfl .i64 .i64 c (by rw [hz2]; omega) (by omega) W
  clear hi hz0 hz1 hz2
  have HL0 := hide (fun k p y => (show p = c - 1 - k → j / 2 ^ k = y → k < c → ((y % 2 : Nat) : Int) = labF c j p from fun e h hk => by
    unfold labF
    rw [show c - 1 - p = k by omega, h]))
  have HLS := hide (fun k p => (show p = c - 1 - k → k < c → setF (fun q => if c - k ≤ q then labF c j q else 0) p (labF c j p) = fun q => if c - (k + 1) ≤ q then labF c j q else 0 from fun e hk => by
    funext q
    show (if q = p then labF c j p else if c - k ≤ q then labF c j q else 0) = if c - (k + 1) ≤ q then labF c j q else 0
    by_cases h : q = p
    · subst h; rw [if_pos rfl, if_pos (by omega)]
    · rw [if_neg h]
      by_cases h2 : c - k ≤ q
      · rw [if_pos h2, if_pos (by omega)]
      · rw [if_neg h2, if_neg (by omega)]))
  obtain ⟨F, hF⟩ : ∃ z, labF c j = z := ⟨_, rfl⟩
  simp only [hF] at HL0 HLS ⊢
  clear hF
  go_enter Try.func48, Try.ntmps48
  go_upto_region 2 with fail
  obtain ⟨gL, hgL⟩ : ∃ z, w.heap.size = z := ⟨_, rfl⟩
  obtain ⟨w3, hw3⟩ : ∃ q' : World, q' = w.alloc (.cells (madeCells #[.int .i64 0] c) 3) := ⟨_, rfl⟩
  try rw [← hw3]
  have HL := hide (show OwnInts w3 gL (.slice (some ⟨gL, 0, none⟩) c c) c (fun p => if c - 0 ≤ p then F p else 0) by rw [hw3]; exact (ownS_zeros w gL gL c (by omega) hgL.symm (by unfold maxLen; omega)).congr fun p hp => (if_neg (by omega)).symm)
  have HB := hide (show Below gL w w3 by rw [hw3, ← hgL]; (repeat (first | (with_reducible exact Below.refl _ _) | (with_reducible refine Go.below_drewN ?_ _) | (with_reducible refine Below.drew ?_) | (with_reducible refine Below.alloc ?_ (by first | exact Nat.le_refl _ | (simp; done) | (simp; omega) | omega) _) | (with_reducible refine Below.setCell ?_ (by first | exact Nat.le_refl _ | (simp; done) | (simp; omega) | omega) _))))
  clear hw3
  try simp only [hgL]
  go_wp2_with fail
  go_loopw [0, 6] (fun n i wr => ∃ (k y : Nat) (z : Int), k ≤ c ∧ Hid (j / 2 ^ k = y) ∧ y < 64 ∧ Hid (z = (c : Int) - 1 - (k : Int)) ∧ n = .int .i64 (y : Int) ∧ i = .int .i64 z ∧ Hid (OwnInts wr gL (.slice (some ⟨gL, 0, none⟩) c c) c (fun q => if c - k ≤ q then F q else 0)) ∧ Hid (Below gL w wr)) (fun _ i _ => (Go.RowKit.intOf i + 1).toNat)
  case atStart => exact ⟨0, j, _, Nat.zero_le _, hide (by simp), hj, hide (by omega), rfl, rfl, HL, HB⟩
  case round =>
    clear HL HB
    obtain ⟨k, y, z, hk, HY, hy, HZ, rfl, rfl, HL, HB⟩ := hrel
    obtain ⟨wB, rfl⟩ : ∃ x : World, x = wr := ⟨_, rfl⟩
    by_cases hlt : k < c
    · obtain ⟨p, rfl⟩ : ∃ p : Nat, z = (p : Int) := ⟨z.toNat, by have := HZ.out; omega⟩
      have hpk : p = c - 1 - k := by have := HZ.out; omega
      have hpc : p < c := by omega
      have hpz : (p : Int) < (c : Int) := by omega
      obtain ⟨v, hv⟩ : ∃ z, F p = z := ⟨_, rfl⟩
      have q0 : ((y % 2 : Nat) : Int) = v := (HL0.out k p y hpk HY.out hlt).trans hv
      have q1 : Int.tmod (y : Int) 2 = v := by rw [Int.tmod_eq_emod_of_nonneg (by omega)]; omega
      have q2 : (y : Int) % 2 = v := by omega
      have q3 : Int.tdiv (y : Int) 2 = ((y / 2 : Nat) : Int) := by rw [Int.tdiv_eq_ediv_of_nonneg (by omega)]; omega
      have q4 : (y : Int) / 2 = ((y / 2 : Nat) : Int) := by omega
      obtain ⟨y2, hy2⟩ : ∃ z, y / 2 = z := ⟨_, rfl⟩
      rw [hy2] at q3 q4
      have HY2 := hide (show j / 2 ^ (k + 1) = y2 by rw [Nat.pow_succ, ← Nat.div_div_eq_div_mul, HY.out, hy2])
      have hy64 : y2 < 64 := by omega
      have c0 := HL.out.cellAt hpc
      have k0 := HL.out.frozen p
      have HL5 := hide (HL.out.set_ p v)
      rw [← hv, HLS.out k p hpk hlt, hv] at HL5
      have HB5 := hide (HB.out.setCell (p := ⟨gL, p, none⟩) (Nat.le_refl _) (.int .i64 v))
      clear hv HL HB q0 hy2 hpk
      go_wp2_with fail
      go_roundw
      case rel => exact ⟨k + 1, y2, (p : Int) - 1, by omega, HY2, hy64, hide (by have := HZ.out; omega), by first | rfl | (simp; done) | go_num, by go_num, HL5, HB5⟩
      case measure => simp [Go.RowKit.intOf] <;> omega
    · have hkc : k = c := by omega
      have hz0 : ¬ (0 : Int) ≤ z := by have := HZ.out; omega
      have hI := HL.out.atG (lo := 0) (Nat.zero_le _)
      have HI := hide (show IntsAt wB 0 (some ⟨gL, 0, none⟩) c F from hI.congr fun q _ => if_pos (by omega))
      clear hI HL HL0 HLS HY HZ hkc hlt
      go_wp2_with fail
      go_ret
      exact ⟨gL, rfl, HI.out, hgL ▸ HB.out⟩
theorem LevelOfR_any (b o c h : Nat) (F : Nat → Int) (w : World) (h1 : 1 ≤ h) (h3 : h ≤ 3) (hc : h ≤ c) (hc9 : c ≤ 9223372036854775807) (hF : ∀ j, j < h → IsBit (F j)) (hI : IntsAt w 0 (some ⟨b, o, none⟩) h F) :
    Calls Try.prog 40 #[.slice (some ⟨b, o, none⟩) h c] w fun e w' => e = .returned (.int .i64 (lvl h F)) ∧ w = w' := by
  obtain rfl | rfl | rfl : h = 1 ∨ h = 2 ∨ h = 3 := by omega
  · exact LevelOfR1_any b o c F w hc hc9 hF hI
  · exact LevelOfR2_any b o c F w hc hc9 hF hI
  · exact LevelOfR3_any b o c F w hc hc9 hF hI
end Go.Proofs.Ytonmkmaeohfjpaa
/- half, Point, Points, Modulated of the reference. -/
namespace Go.Proofs.Ytonmkmaeohfjpaa
open Go Go.RowKit Go.Lib Go.Shelf
set_option maxHeartbeats 8000000 in
set_option maxRecDepth 100000 in
theorem half_any (b o m h c p : Nat) (F : Nat → Int) (w : World) (hm : m = 2 * h) (hh : h ≤ 3) (hp : p < 2) (hI : IntsAt w 0 (some ⟨b, o, none⟩) m F) :
    Calls Try.prog 124 #[.slice (some ⟨b, o, none⟩) m c, .int .i64 (p : Int)] w fun e w' => ∃ v, e = .returned v ∧ OwnInts w' w.heap.size v h (fun j => F (2 * j + p)) ∧ Below w.heap.size w w' := by
  have HII := hide hI
  obtain ⟨G, hG⟩ : ∃ G : Nat → Int, (fun j => F (2 * j + p)) = G := ⟨_, rfl⟩
  have HG := hide (show ∀ j, G j = F (2 * j + p) from fun j => by rw [← hG])
  rw [hG]
  clear hG hI
  have HB := hide (Below.refl w.heap.size w)
  have hm6 : m ≤ 6 := by omega
  have HM := hide hm
  clear hm
  go_enter Try.func124, Try.ntmps124
  go_wp2_with fail
  go_loopw [5, 6] (fun v i wr => ∃ k q : Nat, k ≤ h ∧ Hid (q = 2 * k + p) ∧ i = .int .i64 (q : Int) ∧ Hid (OwnInts wr w.heap.size v k G) ∧ Hid (Below w.heap.size w wr)) (fun _ i _ => 10 - (Go.RowKit.intOf i).toNat)
  case atStart => exact ⟨0, p, Nat.zero_le _, hide (by omega), rfl, hide (OwnInts.nil_ _ _ _), HB⟩
  case round =>
    clear HB
    obtain ⟨k, q, hk, HQ, rfl, HO, HB⟩ := hrel
    obtain ⟨wA, rfl⟩ : ∃ x : World, x = wr := ⟨_, rfl⟩
    obtain ⟨As, cs, rfl, -, -⟩ := HO.out.form
    by_cases hlt : k < h
    · have hqm : q < m := by have := HQ.out; have := HM.out; omega
      have hqz : (q : Int) < (m : Int) := by omega
      have c0 := intsAt_cellK (HII.out.below HB.out) hqm
      have hy : F q = G k := by rw [HG.out, HQ.out]
      rw [hy] at c0
      obtain ⟨y, hy2⟩ : ∃ z, G k = z := ⟨_, rfl⟩
      rw [hy2] at c0
      have HY := hide hy2
      clear hy hy2
      go_wp2_with (at_builtin; refine wpList_append_ints _ rfl (.tmp 14) (.tmp 19) rfl w.heap.size 0 (.slice As k cs) k G rfl (HO.out.alloc _) (some ⟨wA.heap.size, 0, none⟩) 1 1 (fun _ => y) rfl (IntsAt.one wA 0 y 3 (Nat.zero_le _)) (by omega) (by have := HB.out.size; simp; omega) ?_; intro v' w' g1 g2; obtain ⟨D, d, rfl, -, -⟩ := g1.form)
      have HO2 := hide (g1.congr (G := G) (fun i hi => by
        unfold catF
        by_cases e : i < k
        · rw [if_pos e]
        · rw [if_neg e, show i = k by omega]; exact HY.out.symm))
      have HB2 := hide ((HB.out.alloc HB.out.size (.cells #[.int .i64 y] 3)).trans g2)
      clear g1 g2 HO HB
      go_roundw
      case rel => exact ⟨k + 1, q + 2, by omega, hide (by have := HQ.out; omega), by go_num, HO2, HB2⟩
      case measure => simp [Go.RowKit.intOf] <;> omega
    · have hkh : k = h := by omega
      subst hkh
      have hqz : ¬ (q : Int) < (m : Int) := by have := HQ.out; have := HM.out; omega
      clear HG HII
      go_wp2_with fail
      go_ret
      first | exact ⟨_, rfl, HO.out, HB.out⟩ | exact ⟨HO.out, HB.out⟩
set_option maxHeartbeats 8000000 in
set_option maxRecDepth 100000 in
theorem PointR_any (b o m h c : Nat) (F : Nat → Int) (w : World) (hm : m = 2 * h) (h1 : 1 ≤ h) (h3 : h ≤ 3) (hF : ∀ j, j < m → IsBit (F j)) (hI : IntsAt w 0 (some ⟨b, o, none⟩) m F) :
    Calls Try.prog 96 #[.slice (some ⟨b, o, none⟩) m c] w fun e w' => e = .returned (.agg #[.int .i64 (lvl h fun q => F (2 * q)), .int .i64 (lvl h fun q => F (2 * q + 1))]) ∧ Below w.heap.size w w' := by
  have HI := hide hI
  have HH := hide (fun p W (hp : p < 2) hz => half_any b o m h c p F W hm h3 hp hz)
  have HA := hide (fun b o c W hc hc9 (hz : IntsAt W 0 (some ⟨b, o, none⟩) h fun j => F (2 * j + 0)) => LevelOfR_any b o c h (fun j => F (2 * j + 0)) W h1 h3 hc hc9 (fun j hj => hF (2 * j + 0) (by omega)) hz)
  have HE := hide (fun b o c W hc hc9 (hz : IntsAt W 0 (some ⟨b, o, none⟩) h fun j => F (2 * j + 1)) => LevelOfR_any b o c h (fun j => F (2 * j + 1)) W h1 h3 hc hc9 (fun j hj => hF (2 * j + 1) (by omega)) hz)
  have HH0 := hide (fun W hz => HH.out 0 W (by decide) hz)
  have HH1 := hide (fun W hz => HH.out 1 W (by decide) hz)
  rw [show ((0 : Nat) : Int) = 0 from rfl] at HH0
  rw [show ((1 : Nat) : Int) = 1 from rfl] at HH1
  obtain ⟨X, hX⟩ : ∃ X : Nat → Int, (fun j => F (2 * j + 0)) = X := ⟨_, rfl⟩
  obtain ⟨Y, hY⟩ : ∃ X : Nat → Int, (fun j => F (2 * j + 1)) = X := ⟨_, rfl⟩
  rw [show (fun q => F (2 * q)) = X from hX, hY]
  simp only [hX] at HA HH0
  simp only [hY] at HE HH1
  obtain ⟨x, hx⟩ : ∃ z, lvl h X = z := ⟨_, rfl⟩
  obtain ⟨y, hy⟩ : ∃ z, lvl h Y = z := ⟨_, rfl⟩
  rw [hx, hy]
  simp only [hx] at HA
  simp only [hy] at HE
  clear hI hX hY hx hy HH hF hm
  go_enter Try.func96, Try.ntmps96
  go_upto_region 1 with fail
  obtain ⟨b2, hb2⟩ : ∃ z, w.heap.size = z := ⟨_, rfl⟩
  obtain ⟨w1, hw1⟩ : ∃ z : World, z = w.alloc (.cells #[.int .i64 0, .int .i64 0] 68) := ⟨_, rfl⟩
  try rw [← hw1]
  have HX := hide (show Box w1 b2 68 #[.int .i64 0, .int .i64 0] by rw [hw1]; exact Box.made hb2.symm)
  have HB := hide (show Below w.heap.size w w1 by rw [hw1]; (repeat (first | (with_reducible exact Below.refl _ _) | (with_reducible refine Go.below_drewN ?_ _) | (with_reducible refine Below.drew ?_) | (with_reducible refine Below.alloc ?_ (by first | exact Nat.le_refl _ | (simp; done) | (simp; omega) | omega) _) | (with_reducible refine Below.setCell ?_ (by first | exact Nat.le_refl _ | (simp; done) | (simp; omega) | omega) _))))
  try simp only [hb2]
  clear hw1
  go_wp2_with fail
  refine (HH0.out _ (HI.out.below HB.out)).mono ?_
  rintro e_ w2 ⟨v2, rfl, ho2, hb⟩
  skip
  obtain ⟨A2, c2, rfl, -, hi2⟩ := ho2.form
  obtain ⟨g2, f2, rfl⟩ := intsAt_some hi2 h1
  have hcm2 := ho2.cap_any
  have HJ := hide (hi2.weak (Nat.zero_le _))
  replace HX := hide (HX.out.below hb)
  replace HB := hide (HB.out.trans (hb.mono HB.out.size))
  clear ho2 hi2 hb
  go_wp2_with fail
  refine (HA.out g2 f2 c2 _ hcm2.1 hcm2.2 HJ.out).mono ?_
  rintro e_ v_ ⟨rfl, rfl⟩
  clear HJ
  go_wp2_with fail
  refine (HH1.out _ (HI.out.below HB.out)).mono ?_
  rintro e_ w3 ⟨v3, rfl, ho3, hb⟩
  skip
  obtain ⟨A3, c3, rfl, -, hi3⟩ := ho3.form
  obtain ⟨g3, f3, rfl⟩ := intsAt_some hi3 h1
  have hcm3 := ho3.cap_any
  have HJ := hide (hi3.weak (Nat.zero_le _))
  replace HX := hide (HX.out.below hb)
  replace HB := hide (HB.out.trans (hb.mono HB.out.size))
  clear ho3 hi3 hb
  go_wp2_with fail
  refine (HE.out g3 f3 c3 _ hcm3.1 hcm3.2 HJ.out).mono ?_
  rintro e_ v_ ⟨rfl, rfl⟩
  clear HJ
  obtain ⟨k0, k1, f0, f1, hlz⟩ := HX.out.t2
  go_wp2_with fail
  clear k0 k1 f0 f1 hlz
  have HY := hide (HX.out.t2put (.int .i64 x) (.int .i64 y))
  obtain ⟨z0, z1, -, -, -⟩ := HY.out.t2
  refine bodyPost_ret (v := .agg #[.int .i64 x, .int .i64 y]) ?_ rfl ⟨rfl, (HB.out.setCell (p := ⟨b2, 0, none⟩) (by show w.heap.size ≤ b2; omega) _).setCell (p := ⟨b2, 1, none⟩) (by show w.heap.size ≤ b2; omega) _⟩
  simp [results, Try.results96, go_sem, z0, z1]
set_option maxHeartbeats 8000000 in
set_option maxRecDepth 100000 in
theorem PointsR_any (h : Nat) (w : World) (h1 : 1 ≤ h) (h3 : h ≤ 3) :
    Calls Try.prog 45 #[.int .i64 (2 * (h : Int))] w fun e w' => ∃ v, e = .returned v ∧ OwnGaus w' w.heap.size v (2 ^ (2 * h)) (fun j => pntF h (labF (2 * h) j) 0) ∧ Below w.heap.size w w' := by
  obtain ⟨m, hm⟩ : ∃ m, m = 2 * h := ⟨_, rfl⟩
  have hmz : 2 * (h : Int) = (m : Int) := by omega
  rw [hmz, ← hm]
  have hN64 : 2 ^ m ≤ 64 := (Nat.pow_le_pow_right (by decide) (by omega) : 2 ^ m ≤ 2 ^ 6)
  have HPW := hide (fun W => powerR_any m W (by omega))
  obtain ⟨N, hN⟩ : ∃ N, 2 ^ m = N := ⟨_, rfl⟩
  rw [hN] at HPW hN64 ⊢
  have HBO := hide (fun j W (hj : j < 64) => BitsOfB_any j m W hj (by omega) (by omega))
  have HPT := hide (fun j b W hI => PointR_any b 0 m h m (labF m j) W hm h1 h3 (fun p _ => labF_bit m j p) hI)
  obtain ⟨P, hP⟩ : ∃ P : Nat → Gau, (fun j => pntF h (labF m j) 0) = P := ⟨_, rfl⟩
  have HP := hide (fun j => (show (P j).re = (lvl h fun q => labF m j (2 * q)) ∧ (P j).im = (lvl h fun q => labF m j (2 * q + 1)) by rw [← hP]; simp [pntF]))
  rw [hP]
  clear hN hP hmz hm
  have HB := hide (Below.refl w.heap.size w)
  go_enter Try.func45, Try.ntmps45
  go_wp2_with fail
  go_loopw [3, 4] (fun v i wr => ∃ k : Nat, k ≤ N ∧ i = .int .i64 (k : Int) ∧ Hid (OwnGaus wr w.heap.size v k P) ∧ Hid (Below w.heap.size w wr)) (fun _ i _ => N - (Go.RowKit.intOf i).toNat)
  case atStart => exact ⟨0, Nat.zero_le _, rfl, hide (OwnGaus.nil_ _ _ _), HB⟩
  case round =>
    clear HB
    obtain ⟨k, hk, rfl, HO, HB⟩ := hrel
    obtain ⟨wA, rfl⟩ : ∃ x : World, x = wr := ⟨_, rfl⟩
    obtain ⟨As, cs, rfl, -, -⟩ := ownGaus_form HO.out
    by_cases hlt : k < N
    · have hkz : (k : Int) < (N : Int) := by omega
      go_wp2_with fail
      refine (HPW.out _).mono ?_
      rintro e_ v_ ⟨rfl, rfl⟩
      go_wp2_with fail
      refine (HBO.out k _ (by omega)).mono ?_
      rintro e_ w2 ⟨g, rfl, hI, hb⟩
      have HI := hide hI
      replace HO := hide (HO.out.below hb)
      replace HB := hide (HB.out.trans (hb.mono HB.out.size))
      clear hI hb
      go_wp2_with fail
      have HPK := hide (HPT.out k g _ HI.out)
      have HPV := hide (HP.out k)
      obtain ⟨y, hy⟩ : ∃ z, P k = z := ⟨_, rfl⟩
      rw [hy] at HPV
      rw [← HPV.out.1, ← HPV.out.2] at HPK
      obtain ⟨yr, hyr⟩ : ∃ z, y.re = z := ⟨_, rfl⟩
      obtain ⟨yi, hyi⟩ : ∃ z, y.im = z := ⟨_, rfl⟩
      have HYY := hide (show y = ⟨yr, yi⟩ by rw [← hyr, ← hyi])
      rw [hyr, hyi] at HPK
      have HY := hide hy
      clear hy hyr hyi HPV
      refine HPK.out.mono ?_
      rintro e_ w3 ⟨rfl, hb⟩
      replace HO := hide (HO.out.below hb)
      replace HB := hide (HB.out.trans (hb.mono HB.out.size))
      clear hb HPK HI
      go_wp2_with (at_builtin; refine wpList_append_gaus _ rfl (.tmp 11) (.tmp 16) rfl w.heap.size 0 (.slice As k cs) k P rfl (HO.out.alloc _) (some ⟨w3.heap.size, 0, none⟩) 1 1 (fun _ => y) rfl (GausAt.one (by rw [HYY.out]; exact Box.made rfl)) (by omega) (by have := HB.out.size; simp; omega) ?_; intro v' w' g1 g2; obtain ⟨D, d, rfl, -, -⟩ := ownGaus_form g1)
      have HO2 := hide (g1.congr (G := P) (fun i hi => by
        unfold catG
        by_cases e : i < k
        · rw [if_pos e]
        · rw [if_neg e, show i = k by omega]; exact HY.out.symm))
      have HB2 := hide ((HB.out.alloc HB.out.size (.cells #[.int .i64 yr, .int .i64 yi] 68)).trans g2)
      clear g1 g2 HO HB
      go_roundw
      case rel => exact ⟨k + 1, by omega, by go_num, HO2, HB2⟩
      case measure => simp [Go.RowKit.intOf] <;> omega
    · have hkN : k = N := by omega
      subst hkN
      have hkz : ¬ (k : Int) < (k : Int) := by omega
      go_wp2_with fail
      refine (HPW.out _).mono ?_
      rintro e_ v_ ⟨rfl, rfl⟩
      go_wp2_with fail
      go_ret
      first | exact ⟨_, rfl, HO.out, HB.out⟩ | exact ⟨HO.out, HB.out⟩
end Go.Proofs.Ytonmkmaeohfjpaa
/- Points of the code. -/
namespace Go.Proofs.Ytonmkmaeohfjpaa
open Go Go.RowKit Go.Lib Go.Shelf
attribute [local go_sem] Oper.semAt_some
structure PInv (w0 W : World) (B b5 k : Nat) (P : Nat → Gau) (v : Value) : Prop where
  box : Box W b5 58 #[v]
  own : OwnGaus W B v k P
  below : Below w0.heap.size w0 W
  size : B ≤ W.heap.size
theorem PInv.roundly {w0 W Y : World} {B b5 k : Nat} {P : Nat → Gau} {v : Value} {row : Option Nat} (hi : PInv w0 W B b5 k P v) (hg : W.grownBy Y row) (hB : w0.heap.size ≤ B) (hr : ∀ r, row = some r → B ≤ r ∧ ∃ o : Obj, W.heap[r]? = some o ∧ o.isCells = false) : PInv w0 Y B b5 k P v :=
  ⟨hi.box.roundly hg fun r e => (hr r e).2, hi.own.roundly hg fun r e => (hr r e).2, hi.below.grown hg hi.below.size fun r e => by have := (hr r e).1; omega, Nat.le_trans hi.size hg.size⟩
set_option maxHeartbeats 4000000 in
set_option maxRecDepth 100000 in
theorem Points_wrong (k : Int) (w : World) (hE : ordE k ≠ 0) :
    Calls Try.prog 41 #[.int .i64 k] w fun e w' => e = .returned (.tuple #[.slice none 0 0, .int .i64 (ordE k)]) ∧ w = w' := by
  have HOE := hide (fun W => orderError_any k W)
  obtain ⟨r, hr⟩ : ∃ z, ordE k = z := ⟨_, rfl⟩
  simp only [hr] at HOE hE ⊢
  have t2 : (r != 0) = true := by simpa using hE
  clear hr
  go_enter Try.func41, Try.ntmps41
  go_wp2_with (go_at_call 93; refine (HOE.out _).mono ?_; rintro e_ v_ ⟨rfl, rfl⟩)
  go_ret2
  exact ⟨rfl, rfl⟩
set_option maxHeartbeats 16000000 in
set_option maxRecDepth 100000 in
theorem Points_right (h : Nat) (w : World) (h1 : 1 ≤ h) (h3 : h ≤ 3) :
    Calls Try.prog 41 #[.int .i64 (2 * (h : Int))] w fun e w' => ∃ v, e = .returned (.tuple #[v, .int .i64 0]) ∧ OwnGaus w' w.heap.size v (2 ^ (2 * h)) (fun j => pntF h (labF (2 * h) j) 0) ∧ Below w.heap.size w w' := by
  obtain ⟨m, hm⟩ : ∃ m, m = 2 * h := ⟨_, rfl⟩
  have hmz : 2 * (h : Int) = (m : Int) := by omega
  have ho : ordE (2 * (h : Int)) = 0 := by unfold ordE; rw [if_pos (by omega)]
  have HOE := hide (fun W => orderError_any (2 * (h : Int)) W)
  rw [ho] at HOE
  rw [hmz] at HOE
  rw [hmz, ← hm]
  have hm1 : 1 ≤ m := by omega
  have hm6 : m ≤ 6 := by omega
  have HPO := hide (fun j b W hI => pointOf_any b 0 m h m (labF m j) W (by omega) (by omega) h1 h3 (fun p _ => labF_bit m j p) hI)
  obtain ⟨P, hP⟩ : ∃ P : Nat → Gau, (fun j => pntF h (labF m j) 0) = P := ⟨_, rfl⟩
  have HP := hide (fun j => (show (P j).re = (lvl h fun q => labF m j (2 * q)) ∧ (P j).im = (lvl h fun q => labF m j (2 * q + 1)) by rw [← hP]; simp [pntF]))
  rw [hP]
  have HN64 := hide ((Nat.pow_le_pow_right (by decide) hm6 : 2 ^ m ≤ 2 ^ 6))
  clear hP hmz ho hm
  refine (callsIn_wide (n := 9)).1 ?_
  refine callsIn_of_wp_marks Try.func41 rfl trivial ?_ rfl
  refine wpIn_wide.2 ?_
  simp only [Try.ntmps41, List.size_toArray, List.length_cons, List.length_nil, Nat.reduceAdd, Nat.reduceSub, Array.replicate_succ, Array.replicate_zero, List.push_toArray, List.append_toArray, List.nil_append, List.cons_append]
  go_upto_region 1 with fail
  go_wp2_with fail
  refine (HOE.out _).mono ?_
  rintro e_ v_ ⟨rfl, rfl⟩
  have t0 : ((0 : Int) != 0) = false := by decide
  go_upto_region 5 with fail
  obtain ⟨b5, hb5⟩ : ∃ z, w.heap.size = z := ⟨_, rfl⟩
  obtain ⟨w5, hw5⟩ : ∃ z : World, z = w.alloc (.cells #[.slice none 0 0] 58) := ⟨_, rfl⟩
  try rw [← hw5]
  have HX := hide (show Box w5 b5 58 #[.slice none 0 0] by rw [hw5]; exact Box.made hb5.symm)
  have HB := hide (show Below w.heap.size w w5 by rw [hw5]; (repeat (first | (with_reducible exact Below.refl _ _) | (with_reducible refine Go.below_drewN ?_ _) | (with_reducible refine Below.drew ?_) | (with_reducible refine Below.alloc ?_ (by first | exact Nat.le_refl _ | (simp; done) | (simp; omega) | omega) _) | (with_reducible refine Below.setCell ?_ (by first | exact Nat.le_refl _ | (simp; done) | (simp; omega) | omega) _))))
  have hw7 : w.heap.size ≤ b5 := by omega
  try simp only [hb5]
  clear hw5
  go_wp2_with fail
  refine (labelsOf_any _ _).mono ?_
  rintro e w6 ⟨rfl, hw6⟩
  obtain ⟨b6, hb6⟩ : ∃ z, w5.heap.size = z := ⟨_, rfl⟩
  have bn : Box w6 b6 3 #[.int .i64 (m : Int)] := by rw [← hw6]; exact Box.made hb6.symm
  have hc6 : Below w5.heap.size w5 w6 := by rw [← hw6]; (repeat (first | (with_reducible exact Below.refl _ _) | (with_reducible refine Go.below_drewN ?_ _) | (with_reducible refine Below.drew ?_) | (with_reducible refine Below.alloc ?_ (by first | exact Nat.le_refl _ | (simp; done) | (simp; omega) | omega) _) | (with_reducible refine Below.setCell ?_ (by first | exact Nat.le_refl _ | (simp; done) | (simp; omega) | omega) _)))
  have h56 : b5 < b6 := by rw [← hb6]; exact HX.out.lt
  replace HX := hide (HX.out.below hc6)
  replace HB := hide (HB.out.trans (hc6.mono HB.out.size))
  simp only [hb6]
  clear hw6 hc6 hb6
  have h6s := bn.lt
  go_wp2_with fail
  refine (wpIn_wide (n := 9)).1 ?_
  apply wpIn_rangeFunc_told (n := 9) (encs := encL m) rfl (by decide) rfl trivial (enters_of Try.func122 (by kernel_rfl) rfl) (labels_told 8 b6 m w6 bn hm1 hm6) bn.lt (Below.refl _ _) (fun _ => rfl)
    (fun xs W => ∃ v, PInv w W w6.heap.size b5 xs.length P v) (fun _ _ => False)
  case hI => exact fun xs X Y row ⟨v, hs⟩ hg hr => ⟨v, hs.roundly hg HB.out.size hr⟩
  case hIr => exact fun xs X Y row h _ _ => h
  case hT => exact fun xs x => told_own _ _ _ xs x
  case h0 => exact ⟨_, HX.out, OwnGaus.nil_ _ _ _, HB.out, Nat.le_refl _⟩
  case hassign =>
    intro l x W K hK
    unfold encL
    gi_wp2
    exact hK
  case hbody =>
    clear HX HB
    rintro l xs x W hsz ⟨v, hM⟩ HT hlen
    obtain ⟨k, hk⟩ : ∃ k, xs.length = k := ⟨_, rfl⟩
    have HLEN := hide (show (xs ++ [x]).length = k + 1 by rw [List.length_append, hk]; rfl)
    rw [hk] at hM hlen
    obtain ⟨hlo, hIx⟩ := HT
    rw [hk] at hIx
    have hk64 : k ≤ 64 := by have := HN64.out; omega
    have HX := hide hM.box
    have HO := hide hM.own
    have HBW := hide hM.below
    have hs6 := hM.size
    have HIK := hide (hIx.weak (Nat.zero_le _))
    clear hM hIx hlo hk hlen
    obtain ⟨A7, c7, rfl, hc7, -⟩ := ownGaus_form HO.out
    have HPK := hide (fun W hI => HPO.out k x W hI)
    have HPV := hide (HP.out k)
    obtain ⟨y, hy⟩ : ∃ z, P k = z := ⟨_, rfl⟩
    rw [hy] at HPV
    simp only [← HPV.out.1, ← HPV.out.2] at HPK
    obtain ⟨xv, hxv⟩ : ∃ z, y.re = z := ⟨_, rfl⟩
    obtain ⟨xw, hxw⟩ : ∃ z, y.im = z := ⟨_, rfl⟩
    simp only [hxv, hxw] at HPK
    have HXV := hide hxv
    have HXW := hide hxw
    have HY := hide hy
    clear hxv hxw hy HPV
    have HKF := hide (KeepsFrom.refl w6.heap.size W)
    obtain ⟨o6, ho6⟩ : ∃ z, W.heap[b6]? = z := ⟨_, rfl⟩
    have HW6 := hide ho6
    have HO6 := hide ho6
    clear ho6
    have hwB : w.heap.size ≤ w6.heap.size := by omega
    gi_wp2_with fail
    refine wpIn_region_held_drew (S := fun w' => b6 < w'.heap.size) (by kernel_rfl) (by kernel_rfl) (fun ⟨_, _, h⟩ => h) (Nat.lt_of_lt_of_le h6s hs6) (fun hHeld => ?_)
    obtain ⟨w_1, hw_1⟩ : ∃ q : World, q = W.drew := ⟨_, rfl⟩
    rw [← hw_1] at hHeld ⊢
    have hc_1 : Below W.heap.size W w_1 := by rw [hw_1]; exact (Below.refl _ _).drew
    clear hw_1
    replace HX := hide (HX.out.below hc_1)
    replace HO := hide (HO.out.below hc_1)
    replace HIK := hide (HIK.out.below hc_1)
    replace HKF := hide (keepsUnder HKF.out hc_1)
    replace HW6 := hide ((hc_1.block b6 (by omega)).trans HW6.out)
    replace HBW := hide (HBW.out.trans (hc_1.mono HBW.out.size))
    replace hs6 := Nat.le_trans hs6 hc_1.size
    clear hc_1
    refine wpAnyH_take (i := 1) (oi := ⟨some 16, _, _, _, _, _⟩) (v := ?_) rfl (by kernel_rfl) (by kernel_rfl) (by kernel_rfl) (fun _ _ _ h => h) (Or.inl ⟨by rfl, ?_⟩) (by assumption) ?_
    rotate_left
    · (intro w' hSw; (try dsimp only at hSw); go_simp <;> (with_reducible rfl))
    try simp only [Act.put, List.setIfInBounds_toArray, List.set_cons_zero, List.set_cons_succ]
    refine wpAnyH_ready (rs := [0, 2]) (by kernel_rfl) (by simp) ?_
    refine AllReadyH.cons (o := ⟨some 15, _, _, _, _, _⟩) rfl (fun K' hK => ?_) (AllReadyH.cons (o := ⟨some 17, _, _, _, _, _⟩) rfl (fun K' hK => ?_) AllReadyH.nil)
    · skip
      obtain ⟨y0, f0, hly⟩ := HX.out.oneS
      go_simp
      clear y0 f0 hly
      refine hK.out _ _ (Nat.lt_of_lt_of_le h6s hs6) (fun hHeld => ?_)
      clear hK K'
      try simp only [Act.put, List.setIfInBounds_toArray, List.set_cons_zero, List.set_cons_succ]
      refine wpAnyH_ready (rs := [2]) (by kernel_rfl) (by simp) ?_
      refine AllReadyH.cons (o := ⟨some 17, _, _, _, _, _⟩) rfl (fun K' hK => ?_) AllReadyH.nil
      go_simp
      go_at_call 94
      refine (HPK.out _ HIK.out).mono ?_
      rintro e_ w_2 ⟨rfl, hb_2⟩
      replace HX := hide (HX.out.below hb_2)
      replace HO := hide (HO.out.below hb_2)
      replace HIK := hide (HIK.out.below hb_2)
      replace HKF := hide (keepsUnder HKF.out hb_2)
      replace HW6 := hide ((hb_2.block b6 (by omega)).trans HW6.out)
      replace HBW := hide (HBW.out.trans (hb_2.mono HBW.out.size))
      replace hs6 := Nat.le_trans hs6 hb_2.size
      clear hb_2
      go_wp2_with fail
      refine hK.out _ _ (Nat.lt_of_lt_of_le h6s hs6) (fun hHeld => ?_)
      clear hK K'
      try simp only [Act.put, List.setIfInBounds_toArray, List.set_cons_zero, List.set_cons_succ]
      refine wpAnyH_ready (rs := [3]) (by kernel_rfl) (by simp) ?_
      refine AllReadyH.cons (o := ⟨some 18, _, _, _, _, _⟩) rfl (fun K' hK => ?_) AllReadyH.nil
      go_simp
      obtain ⟨g9, hg9⟩ : ∃ z, w_2.heap.size = z := ⟨_, rfl⟩
      obtain ⟨w_3, hw_3⟩ : ∃ z : World, z = w_2.alloc (.cells #[.int .i64 xv, .int .i64 xw] 68) := ⟨_, rfl⟩
      try rw [← hw_3]
      have HP9 := hide (show Box w_3 g9 68 #[.int .i64 y.re, .int .i64 y.im] by rw [HXV.out, HXW.out, hw_3]; exact Box.made hg9.symm)
      have hc_3 : Below w_2.heap.size w_2 w_3 := by rw [hw_3]; exact (Below.refl _ _).alloc (Nat.le_refl _) _
      clear hw_3
      replace HX := hide (HX.out.below hc_3)
      replace HO := hide (HO.out.below hc_3)
      replace HIK := hide (HIK.out.below hc_3)
      replace HKF := hide (keepsUnder HKF.out hc_3)
      replace HW6 := hide ((hc_3.block b6 (by omega)).trans HW6.out)
      replace HBW := hide (HBW.out.trans (hc_3.mono HBW.out.size))
      replace hs6 := Nat.le_trans hs6 hc_3.size
      clear hc_3
      try simp only [hg9]
      clear hg9
      refine hK.out _ _ (Nat.lt_of_lt_of_le h6s hs6) (fun hHeld => ?_)
      clear hK K'
      try simp only [Act.put, List.setIfInBounds_toArray, List.set_cons_zero, List.set_cons_succ]
      refine wpAnyH_ready (rs := [4]) (by kernel_rfl) (by simp) ?_
      refine AllReadyH.cons (o := ⟨some 19, _, _, _, _, _⟩) rfl (fun K' hK => ?_) AllReadyH.nil
      refine step_append_oneG _ rfl (.tmp 15) (.tmp 18) rfl w6.heap.size (.slice A7 k c7) k _ rfl HO.out g9 1 y rfl HP9.out (by omega) hs6 ?_
      intro v9 w_4 ho9 hb9 hgr9
      obtain ⟨A9, c9, rfl, hcv9, -⟩ := ownGaus_form ho9
      replace HX := hide (HX.out.kept hb9 (by omega))
      replace HKF := hide (keepsAppended HKF.out HO.out hgr9)
      replace HW6 := hide ((hb9.block b6 h6s).trans HW6.out)
      replace HBW := hide (HBW.out.trans (hb9.mono hwB))
      have HO2 := hide ho9
      replace hs6 := Nat.le_trans hs6 hgr9.size
      clear ho9 hb9 hgr9 HO HP9 HIK
      refine hK.out _ _ (Nat.lt_of_lt_of_le h6s hs6) (fun hHeld => ?_)
      clear hK K'
      try simp only [Act.put, List.setIfInBounds_toArray, List.set_cons_zero, List.set_cons_succ]
      refine wpAnyH_ready (rs := [5]) (by kernel_rfl) (by simp) ?_
      refine AllReadyH.cons (o := ⟨none, _, _, _, _, _⟩) rfl (fun K' hK => ?_) AllReadyH.nil
      obtain ⟨y0, f0, hly⟩ := HX.out.oneS
      go_simp
      clear y0 f0 hly
      replace HX := hide (HX.out.oneSput (.slice A9 (k + 1) c9))
      have HO := hide (HO2.out.other (k := b5) 0 (.slice A9 (k + 1) c9) (fun e => by have := (World.ownsRow.lt HO2.out b5 e).1; omega))
      replace HKF := hide (keepsStored HKF.out (b := b5) (o := 0) (u := .slice A9 (k + 1) c9) (by omega))
      replace HW6 := hide ((Below.heap_setCell _ ⟨b5, 0, none⟩ (.slice A9 (k + 1) c9) b6 (by show b6 ≠ b5; omega)).trans HW6.out)
      replace HBW := hide (HBW.out.setCell (p := ⟨b5, 0, none⟩) hw7 (.slice A9 (k + 1) c9))
      replace hs6 : w6.heap.size ≤ (w_4.setCell ⟨b5, 0, none⟩ (.slice A9 (k + 1) c9)).heap.size := by simpa [World.setCell] using hs6
      obtain ⟨w_5, hw_5⟩ : ∃ z : World, w_4.setCell ⟨b5, 0, none⟩ (.slice A9 (k + 1) c9) = z := ⟨_, rfl⟩
      rw [hw_5] at HX HO HKF HW6 HBW hs6 ⊢
      clear hw_5 HO2
      refine hK.out _ _ (Nat.lt_of_lt_of_le h6s hs6) (fun hHeld => ?_)
      clear hK K'
      try simp only [Act.put, List.setIfInBounds_toArray, List.set_cons_zero, List.set_cons_succ]
      refine wpAnyH_done (by kernel_rfl) ?_ _
      clear hHeld
      try simp only [Exit.inBlock]
      refine ⟨HKF.out, HW6.out.trans HO6.out.symm, .slice A9 (k + 1) c9, HX.out, ?_, HBW.out, hs6⟩
      rw [HLEN.out]
      refine HO.out.congr fun j hj => ?_
      by_cases e : j < k
      · rw [if_pos e]
      · rw [if_neg e, show j = k by omega]
        exact HY.out.symm
    · skip
      go_simp
      go_at_call 94
      refine (HPK.out _ HIK.out).mono ?_
      rintro e_ w_6 ⟨rfl, hb_6⟩
      replace HX := hide (HX.out.below hb_6)
      replace HO := hide (HO.out.below hb_6)
      replace HIK := hide (HIK.out.below hb_6)
      replace HKF := hide (keepsUnder HKF.out hb_6)
      replace HW6 := hide ((hb_6.block b6 (by omega)).trans HW6.out)
      replace HBW := hide (HBW.out.trans (hb_6.mono HBW.out.size))
      replace hs6 := Nat.le_trans hs6 hb_6.size
      clear hb_6
      go_wp2_with fail
      refine hK.out _ _ (Nat.lt_of_lt_of_le h6s hs6) (fun hHeld => ?_)
      clear hK K'
      try simp only [Act.put, List.setIfInBounds_toArray, List.set_cons_zero, List.set_cons_succ]
      refine wpAnyH_ready (rs := [0, 3]) (by kernel_rfl) (by simp) ?_
      refine AllReadyH.cons (o := ⟨some 15, _, _, _, _, _⟩) rfl (fun K' hK => ?_) (AllReadyH.cons (o := ⟨some 18, _, _, _, _, _⟩) rfl (fun K' hK => ?_) AllReadyH.nil)
      · skip
        obtain ⟨y0, f0, hly⟩ := HX.out.oneS
        go_simp
        clear y0 f0 hly
        refine hK.out _ _ (Nat.lt_of_lt_of_le h6s hs6) (fun hHeld => ?_)
        clear hK K'
        try simp only [Act.put, List.setIfInBounds_toArray, List.set_cons_zero, List.set_cons_succ]
        refine wpAnyH_ready (rs := [3]) (by kernel_rfl) (by simp) ?_
        refine AllReadyH.cons (o := ⟨some 18, _, _, _, _, _⟩) rfl (fun K' hK => ?_) AllReadyH.nil
        go_simp
        obtain ⟨g9, hg9⟩ : ∃ z, w_6.heap.size = z := ⟨_, rfl⟩
        obtain ⟨w_7, hw_7⟩ : ∃ z : World, z = w_6.alloc (.cells #[.int .i64 xv, .int .i64 xw] 68) := ⟨_, rfl⟩
        try rw [← hw_7]
        have HP9 := hide (show Box w_7 g9 68 #[.int .i64 y.re, .int .i64 y.im] by rw [HXV.out, HXW.out, hw_7]; exact Box.made hg9.symm)
        have hc_7 : Below w_6.heap.size w_6 w_7 := by rw [hw_7]; exact (Below.refl _ _).alloc (Nat.le_refl _) _
        clear hw_7
        replace HX := hide (HX.out.below hc_7)
        replace HO := hide (HO.out.below hc_7)
        replace HIK := hide (HIK.out.below hc_7)
        replace HKF := hide (keepsUnder HKF.out hc_7)
        replace HW6 := hide ((hc_7.block b6 (by omega)).trans HW6.out)
        replace HBW := hide (HBW.out.trans (hc_7.mono HBW.out.size))
        replace hs6 := Nat.le_trans hs6 hc_7.size
        clear hc_7
        try simp only [hg9]
        clear hg9
        refine hK.out _ _ (Nat.lt_of_lt_of_le h6s hs6) (fun hHeld => ?_)
        clear hK K'
        try simp only [Act.put, List.setIfInBounds_toArray, List.set_cons_zero, List.set_cons_succ]
        refine wpAnyH_ready (rs := [4]) (by kernel_rfl) (by simp) ?_
        refine AllReadyH.cons (o := ⟨some 19, _, _, _, _, _⟩) rfl (fun K' hK => ?_) AllReadyH.nil
        refine step_append_oneG _ rfl (.tmp 15) (.tmp 18) rfl w6.heap.size (.slice A7 k c7) k _ rfl HO.out g9 1 y rfl HP9.out (by omega) hs6 ?_
        intro v9 w_8 ho9 hb9 hgr9
        obtain ⟨A9, c9, rfl, hcv9, -⟩ := ownGaus_form ho9
        replace HX := hide (HX.out.kept hb9 (by omega))
        replace HKF := hide (keepsAppended HKF.out HO.out hgr9)
        replace HW6 := hide ((hb9.block b6 h6s).trans HW6.out)
        replace HBW := hide (HBW.out.trans (hb9.mono hwB))
        have HO2 := hide ho9
        replace hs6 := Nat.le_trans hs6 hgr9.size
        clear ho9 hb9 hgr9 HO HP9 HIK
        refine hK.out _ _ (Nat.lt_of_lt_of_le h6s hs6) (fun hHeld => ?_)
        clear hK K'
        try simp only [Act.put, List.setIfInBounds_toArray, List.set_cons_zero, List.set_cons_succ]
        refine wpAnyH_ready (rs := [5]) (by kernel_rfl) (by simp) ?_
        refine AllReadyH.cons (o := ⟨none, _, _, _, _, _⟩) rfl (fun K' hK => ?_) AllReadyH.nil
        obtain ⟨y0, f0, hly⟩ := HX.out.oneS
        go_simp
        clear y0 f0 hly
        replace HX := hide (HX.out.oneSput (.slice A9 (k + 1) c9))
        have HO := hide (HO2.out.other (k := b5) 0 (.slice A9 (k + 1) c9) (fun e => by have := (World.ownsRow.lt HO2.out b5 e).1; omega))
        replace HKF := hide (keepsStored HKF.out (b := b5) (o := 0) (u := .slice A9 (k + 1) c9) (by omega))
        replace HW6 := hide ((Below.heap_setCell _ ⟨b5, 0, none⟩ (.slice A9 (k + 1) c9) b6 (by show b6 ≠ b5; omega)).trans HW6.out)
        replace HBW := hide (HBW.out.setCell (p := ⟨b5, 0, none⟩) hw7 (.slice A9 (k + 1) c9))
        replace hs6 : w6.heap.size ≤ (w_8.setCell ⟨b5, 0, none⟩ (.slice A9 (k + 1) c9)).heap.size := by simpa [World.setCell] using hs6
        obtain ⟨w_9, hw_9⟩ : ∃ z : World, w_8.setCell ⟨b5, 0, none⟩ (.slice A9 (k + 1) c9) = z := ⟨_, rfl⟩
        rw [hw_9] at HX HO HKF HW6 HBW hs6 ⊢
        clear hw_9 HO2
        refine hK.out _ _ (Nat.lt_of_lt_of_le h6s hs6) (fun hHeld => ?_)
        clear hK K'
        try simp only [Act.put, List.setIfInBounds_toArray, List.set_cons_zero, List.set_cons_succ]
        refine wpAnyH_done (by kernel_rfl) ?_ _
        clear hHeld
        try simp only [Exit.inBlock]
        refine ⟨HKF.out, HW6.out.trans HO6.out.symm, .slice A9 (k + 1) c9, HX.out, ?_, HBW.out, hs6⟩
        rw [HLEN.out]
        refine HO.out.congr fun j hj => ?_
        by_cases e : j < k
        · rw [if_pos e]
        · rw [if_neg e, show j = k by omega]
          exact HY.out.symm
      · skip
        go_simp
        obtain ⟨g9, hg9⟩ : ∃ z, w_6.heap.size = z := ⟨_, rfl⟩
        obtain ⟨w_10, hw_10⟩ : ∃ z : World, z = w_6.alloc (.cells #[.int .i64 xv, .int .i64 xw] 68) := ⟨_, rfl⟩
        try rw [← hw_10]
        have HP9 := hide (show Box w_10 g9 68 #[.int .i64 y.re, .int .i64 y.im] by rw [HXV.out, HXW.out, hw_10]; exact Box.made hg9.symm)
        have hc_10 : Below w_6.heap.size w_6 w_10 := by rw [hw_10]; exact (Below.refl _ _).alloc (Nat.le_refl _) _
        clear hw_10
        replace HX := hide (HX.out.below hc_10)
        replace HO := hide (HO.out.below hc_10)
        replace HIK := hide (HIK.out.below hc_10)
        replace HKF := hide (keepsUnder HKF.out hc_10)
        replace HW6 := hide ((hc_10.block b6 (by omega)).trans HW6.out)
        replace HBW := hide (HBW.out.trans (hc_10.mono HBW.out.size))
        replace hs6 := Nat.le_trans hs6 hc_10.size
        clear hc_10
        try simp only [hg9]
        clear hg9
        refine hK.out _ _ (Nat.lt_of_lt_of_le h6s hs6) (fun hHeld => ?_)
        clear hK K'
        try simp only [Act.put, List.setIfInBounds_toArray, List.set_cons_zero, List.set_cons_succ]
        refine wpAnyH_ready (rs := [0]) (by kernel_rfl) (by simp) ?_
        refine AllReadyH.cons (o := ⟨some 15, _, _, _, _, _⟩) rfl (fun K' hK => ?_) AllReadyH.nil
        obtain ⟨y0, f0, hly⟩ := HX.out.oneS
        go_simp
        clear y0 f0 hly
        refine hK.out _ _ (Nat.lt_of_lt_of_le h6s hs6) (fun hHeld => ?_)
        clear hK K'
        try simp only [Act.put, List.setIfInBounds_toArray, List.set_cons_zero, List.set_cons_succ]
        refine wpAnyH_ready (rs := [4]) (by kernel_rfl) (by simp) ?_
        refine AllReadyH.cons (o := ⟨some 19, _, _, _, _, _⟩) rfl (fun K' hK => ?_) AllReadyH.nil
        refine step_append_oneG _ rfl (.tmp 15) (.tmp 18) rfl w6.heap.size (.slice A7 k c7) k _ rfl HO.out g9 1 y rfl HP9.out (by omega) hs6 ?_
        intro v9 w_11 ho9 hb9 hgr9
        obtain ⟨A9, c9, rfl, hcv9, -⟩ := ownGaus_form ho9
        replace HX := hide (HX.out.kept hb9 (by omega))
        replace HKF := hide (keepsAppended HKF.out HO.out hgr9)
        replace HW6 := hide ((hb9.block b6 h6s).trans HW6.out)
        replace HBW := hide (HBW.out.trans (hb9.mono hwB))
        have HO2 := hide ho9
        replace hs6 := Nat.le_trans hs6 hgr9.size
        clear ho9 hb9 hgr9 HO HP9 HIK
        refine hK.out _ _ (Nat.lt_of_lt_of_le h6s hs6) (fun hHeld => ?_)
        clear hK K'
        try simp only [Act.put, List.setIfInBounds_toArray, List.set_cons_zero, List.set_cons_succ]
        refine wpAnyH_ready (rs := [5]) (by kernel_rfl) (by simp) ?_
        refine AllReadyH.cons (o := ⟨none, _, _, _, _, _⟩) rfl (fun K' hK => ?_) AllReadyH.nil
        obtain ⟨y0, f0, hly⟩ := HX.out.oneS
        go_simp
        clear y0 f0 hly
        replace HX := hide (HX.out.oneSput (.slice A9 (k + 1) c9))
        have HO := hide (HO2.out.other (k := b5) 0 (.slice A9 (k + 1) c9) (fun e => by have := (World.ownsRow.lt HO2.out b5 e).1; omega))
        replace HKF := hide (keepsStored HKF.out (b := b5) (o := 0) (u := .slice A9 (k + 1) c9) (by omega))
        replace HW6 := hide ((Below.heap_setCell _ ⟨b5, 0, none⟩ (.slice A9 (k + 1) c9) b6 (by show b6 ≠ b5; omega)).trans HW6.out)
        replace HBW := hide (HBW.out.setCell (p := ⟨b5, 0, none⟩) hw7 (.slice A9 (k + 1) c9))
        replace hs6 : w6.heap.size ≤ (w_11.setCell ⟨b5, 0, none⟩ (.slice A9 (k + 1) c9)).heap.size := by simpa [World.setCell] using hs6
        obtain ⟨w_12, hw_12⟩ : ∃ z : World, w_11.setCell ⟨b5, 0, none⟩ (.slice A9 (k + 1) c9) = z := ⟨_, rfl⟩
        rw [hw_12] at HX HO HKF HW6 HBW hs6 ⊢
        clear hw_12 HO2
        refine hK.out _ _ (Nat.lt_of_lt_of_le h6s hs6) (fun hHeld => ?_)
        clear hK K'
        try simp only [Act.put, List.setIfInBounds_toArray, List.set_cons_zero, List.set_cons_succ]
        refine wpAnyH_done (by kernel_rfl) ?_ _
        clear hHeld
        try simp only [Exit.inBlock]
        refine ⟨HKF.out, HW6.out.trans HO6.out.symm, .slice A9 (k + 1) c9, HX.out, ?_, HBW.out, hs6⟩
        rw [HLEN.out]
        refine HO.out.congr fun j hj => ?_
        by_cases e : j < k
        · rw [if_pos e]
        · rw [if_neg e, show j = k by omega]
          exact HY.out.symm
  case hdone =>
    clear HX
    rintro D0 xs W hD hxs ⟨v, hM⟩ hK
    have hK' := hide hK
    have HXS := hide hxs
    have HM := hide hM
    obtain ⟨y0, f0, hly⟩ := hM.box.oneS
    obtain ⟨A7, c7, rfl, hc7, -⟩ := ownGaus_form hM.own
    clear hxs hK hM
    go_wp2_with fail
    refine ⟨by simp, .inl ⟨_, _, rfl, run_takeDeferred hK'.out, ?_⟩⟩
    refine ⟨_, results_tmp2 rfl _ _ _, _, rfl, ?_⟩
    have hM3 := HM.out.roundly (grownBy_putObj' W D0 (.deferred none)) HB.out.size (fun r e => by cases e; exact ⟨hD, _, hK'.out, rfl⟩)
    have ho3 := hM3.own
    rw [HXS.out] at ho3
    have ho4 := ho3.weak (base' := w.heap.size) HB.out.size
    rw [HXS.out]
    first | exact ⟨_, rfl, ho4, hM3.below⟩ | exact ⟨ho4, hM3.below⟩
  case hstop => exact fun D xs W _ _ h _ => h.elim
end Go.Proofs.Ytonmkmaeohfjpaa
/- Mathematics of SymbolGray; Size of the base. -/
namespace Go.Proofs.Ytonmkmaeohfjpaa
open Go Go.RowKit Go.Lib Go.Shelf
/-- In how many of the first places the bits of two numbers differ. -/
def difF (m i k : Nat) : Nat → Int
  | 0 => 0
  | n + 1 => difF m i k n + max (labF m i n - labF m k n) (-(labF m i n - labF m k n))
def sizZ (z : Int) : Int := max z (-z)
def grayB (h i k : Nat) : Bool :=
  let p := pntF h (labF (2 * h) i) 0
  let q := pntF h (labF (2 * h) k) 0
  (p.re % 2 == 1) && (p.im % 2 == 1) && decide (-7 ≤ p.re) && decide (p.re ≤ 7) && decide (-7 ≤ p.im) && decide (p.im ≤ 7) && (i == k || !(p.re == q.re && p.im == q.im)) &&
    (!(sizZ (p.re - q.re) + sizZ (p.im - q.im) == 2 && (sizZ (p.re - q.re) == 0 || sizZ (p.im - q.im) == 0)) || difF (2 * h) i k (2 * h) == 1)
theorem gray1 : ((List.range 4).all fun i => (List.range 4).all fun k => grayB 1 i k) = true := by decide +kernel
theorem gray2 : ((List.range 16).all fun i => (List.range 16).all fun k => grayB 2 i k) = true := by decide +kernel
theorem gray3 : ((List.range 64).all fun i => (List.range 64).all fun k => grayB 3 i k) = true := by decide +kernel
theorem gray_all {h i k : Nat} (h1 : 1 ≤ h) (h3 : h ≤ 3) (hi : i < 2 ^ (2 * h)) (hk : k < 2 ^ (2 * h)) : grayB h i k = true := by
  obtain rfl | rfl | rfl : h = 1 ∨ h = 2 ∨ h = 3 := by omega
  · exact List.all_eq_true.1 (List.all_eq_true.1 gray1 i (List.mem_range.2 hi)) k (List.mem_range.2 hk)
  · exact List.all_eq_true.1 (List.all_eq_true.1 gray2 i (List.mem_range.2 hi)) k (List.mem_range.2 hk)
  · exact List.all_eq_true.1 (List.all_eq_true.1 gray3 i (List.mem_range.2 hi)) k (List.mem_range.2 hk)
theorem gray_odd {h i : Nat} (h1 : 1 ≤ h) (h3 : h ≤ 3) (hi : i < 2 ^ (2 * h)) : (pntF h (labF (2 * h) i) 0).re % 2 = 1 ∧ (pntF h (labF (2 * h) i) 0).im % 2 = 1 ∧ -7 ≤ (pntF h (labF (2 * h) i) 0).re ∧ (pntF h (labF (2 * h) i) 0).re ≤ 7 ∧ -7 ≤ (pntF h (labF (2 * h) i) 0).im ∧ (pntF h (labF (2 * h) i) 0).im ≤ 7 := by
  have h := gray_all h1 h3 hi hi
  simp only [grayB, Bool.and_eq_true, beq_iff_eq, decide_eq_true_eq] at h
  obtain ⟨⟨⟨⟨⟨⟨⟨a, b⟩, c⟩, d⟩, e⟩, f⟩, -⟩, -⟩ := h
  exact ⟨a, b, c, d, e, f⟩
theorem gray_apart {h i k : Nat} (h1 : 1 ≤ h) (h3 : h ≤ 3) (hi : i < 2 ^ (2 * h)) (hk : k < 2 ^ (2 * h)) (hne : i ≠ k) : ¬ ((pntF h (labF (2 * h) i) 0).re = (pntF h (labF (2 * h) k) 0).re ∧ (pntF h (labF (2 * h) i) 0).im = (pntF h (labF (2 * h) k) 0).im) := by
  have h := gray_all h1 h3 hi hk
  simp only [grayB, Bool.and_eq_true, Bool.or_eq_true, beq_iff_eq, decide_eq_true_eq, Bool.not_eq_true', Bool.and_eq_false_iff] at h
  rintro ⟨e1, e2⟩
  rcases h.1.2 with g | g | g
  · exact hne g
  · simp [e1] at g
  · simp [e2] at g
theorem gray_near {h i k : Nat} (h1 : 1 ≤ h) (h3 : h ≤ 3) (hi : i < 2 ^ (2 * h)) (hk : k < 2 ^ (2 * h))
    (h2 : sizZ ((pntF h (labF (2 * h) i) 0).re - (pntF h (labF (2 * h) k) 0).re) + sizZ ((pntF h (labF (2 * h) i) 0).im - (pntF h (labF (2 * h) k) 0).im) = 2)
    (h0 : sizZ ((pntF h (labF (2 * h) i) 0).re - (pntF h (labF (2 * h) k) 0).re) = 0 ∨ sizZ ((pntF h (labF (2 * h) i) 0).im - (pntF h (labF (2 * h) k) 0).im) = 0) : difF (2 * h) i k (2 * h) = 1 := by
  have h := gray_all h1 h3 hi hk
  simp only [grayB, Bool.and_eq_true, Bool.or_eq_true, beq_iff_eq, decide_eq_true_eq, Bool.not_eq_true'] at h
  rcases h.2 with g | g
  · exfalso
    rw [h2] at g
    rcases h0 with e | e
    · rw [e] at g; simp at g
    · rw [e] at g; simp at g
  · exact g
theorem sizeZ_any (z : Int) (w : World) (h : -1000000 ≤ z ∧ z ≤ 1000000) : Calls Try.prog 47 #[.int .i64 z] w fun e w' => e = .returned (.int .i64 (sizZ z)) ∧ w = w' := by
  have E := hide (show sizZ z = max z (-z) from rfl)
  have q : IntKind.i64.wrap (-z) = -z := IntWalk.i64_in _ (by omega)
  generalize sizZ z = s at *
  go_enter Try.func47, Try.ntmps47
  go_wp2
  all_goals
    go_ret
    exact ⟨ret_int (by rw [E.out, Int.max_def]; split <;> omega), rfl⟩
end Go.Proofs.Ytonmkmaeohfjpaa
/- The walk of SymbolGray. -/
namespace Go.Proofs.Ytonmkmaeohfjpaa
open Go Go.RowKit Go.Lib Ieee
theorem gausOther {w : World} {lo n b o p f : Nat} {F : Nat → Gau} (h : GausAt w lo (some ⟨b, o, none⟩) n F) (hp : b < p) (u : Value) : GausAt (w.setCell ⟨p, f, none⟩ u) lo (some ⟨b, o, none⟩) n F := fun i hi => by
  obtain ⟨b', o', e, h1, h2, h3, h4⟩ := h i hi
  injection e with e
  injection e with e1 e2
  subst e1; subst e2
  exact ⟨b, o, rfl, h1, by simpa [World.setCell] using h2, (World.cell?_setCell_other w ⟨p, f, none⟩ ⟨b, o + i * 2, none⟩ u (fun e => by injection e with e1 _; omega)).trans h3, (World.cell?_setCell_other w ⟨p, f, none⟩ ⟨b, o + i * 2 + 1, none⟩ u (fun e => by injection e with e1 _; omega)).trans h4⟩
theorem difF_le (m i j k : Nat) : 0 ≤ difF m i j k ∧ difF m i j k ≤ (k : Int) := by
  induction k with
  | zero => exact ⟨Int.le_refl _, Int.le_refl _⟩
  | succ k ih =>
    have a := labF_bit m i k
    have b := labF_bit m j k
    unfold difF
    rcases a with a | a <;> rcases b with b | b <;> rw [a, b] <;> omega
theorem gausLt {w : World} {lo n b o : Nat} {F : Nat → Gau} (h : GausAt w lo (some ⟨b, o, none⟩) n F) (hn : 0 < n) : b < w.heap.size := by
  obtain ⟨b', o', e, h1, h2, -⟩ := h 0 hn
  injection e with e
  injection e with e1 _
  subst e1
  exact h2
set_option maxHeartbeats 64000000 in
set_option maxRecDepth 100000 in
theorem symbolGray_walk (k a b : Int) (w : World) :
    Calls Try.prog 8 #[.int .i64 k, .int .i64 a, .int .i64 b] w fun e w' => e = .returned (.bool true) ∧ Below w.heap.size w w' := by
  have HB := hide (Below.refl w.heap.size w)
  have HOE := hide (fun W => OrderErr_any k W)
  by_cases hok : ordE k = 0
  case neg =>
    have hv : ordE k = 15 := by
      unfold ordE at hok ⊢
      by_cases h : k = 2 ∨ k = 4 ∨ k = 6
      · rw [if_pos h] at hok; exact absurd rfl hok
      · rw [if_neg h]
    have HPW := hide (fun W => Points_wrong k W hok)
    rw [hv] at HPW HOE
    clear hv hok
    go_enter Try.func8, Try.ntmps8
    go_wp2_with fail
    refine (awakeS_any _).mono ?_
    rintro e_ v1 ⟨rfl, hb1⟩
    replace HB := hide (HB.out.trans (hb1.mono HB.out.size))
    clear hb1
    go_wp2_with fail
    refine (HPW.out _).mono ?_
    rintro e_ v_ ⟨rfl, rfl⟩
    go_wp2_with fail
    refine (HOE.out _).mono ?_
    rintro e_ v_ ⟨rfl, rfl⟩
    go_wp2_with fail
    go_ret
    exact ⟨rfl, HB.out⟩
  obtain ⟨h, rfl, h1, h3⟩ : ∃ h : Nat, k = 2 * (h : Int) ∧ 1 ≤ h ∧ h ≤ 3 := by
    unfold ordE at hok
    by_cases h : k = 2 ∨ k = 4 ∨ k = 6
    · rcases h with rfl | rfl | rfl
      · exact ⟨1, rfl, by decide, by decide⟩
      · exact ⟨2, rfl, by decide, by decide⟩
      · exact ⟨3, rfl, by decide, by decide⟩
    · rw [if_neg h] at hok; exact absurd hok (by decide)
  rw [hok] at HOE
  have HPC := hide (fun W => Points_right h W h1 h3)
  have HPR := hide (fun W => PointsR_any h W h1 h3)
  have hN64 : 2 ^ (2 * h) ≤ 64 := (Nat.pow_le_pow_right (by decide) (show 2 * h ≤ 6 by omega) : 2 ^ (2 * h) ≤ 2 ^ 6)
  have hNp : 0 < 2 ^ (2 * h) := Nat.two_pow_pos _
  obtain ⟨i, hiz⟩ : ∃ i : Nat, a % ((2 ^ (2 * h) : Nat) : Int) = (i : Int) := ⟨(a % ((2 ^ (2 * h) : Nat) : Int)).toNat, by have := Int.emod_nonneg a (show ((2 ^ (2 * h) : Nat) : Int) ≠ 0 by omega); omega⟩
  obtain ⟨j, hjz⟩ : ∃ j : Nat, b % ((2 ^ (2 * h) : Nat) : Int) = (j : Int) := ⟨(b % ((2 ^ (2 * h) : Nat) : Int)).toNat, by have := Int.emod_nonneg b (show ((2 ^ (2 * h) : Nat) : Int) ≠ 0 by omega); omega⟩
  have hi : i < 2 ^ (2 * h) := by have := Int.emod_lt_of_pos a (show (0 : Int) < ((2 ^ (2 * h) : Nat) : Int) by omega); omega
  have hj : j < 2 ^ (2 * h) := by have := Int.emod_lt_of_pos b (show (0 : Int) < ((2 ^ (2 * h) : Nat) : Int) by omega); omega
  have HMA := hide (fun W => mod_any a ((2 ^ (2 * h) : Nat) : Int) W (by omega) (by omega))
  have HMB := hide (fun W => mod_any b ((2 ^ (2 * h) : Nat) : Int) W (by omega) (by omega))
  rw [hiz] at HMA
  rw [hjz] at HMB
  have o1 := gray_odd h1 h3 hi
  have o2 := gray_odd h1 h3 hj
  have HAP := hide (fun hne => gray_apart h1 h3 hi hj hne)
  have HNE := hide (fun x y => gray_near h1 h3 hi hj x y)
  have hs : i = j → pntF h (labF (2 * h) i) 0 = pntF h (labF (2 * h) j) 0 := fun e => by rw [e]
  have HBO := hide (fun i W (hi : i < 64) => BitsOfB_any i (2 * h) W hi (by omega) (by omega))
  have hm6 : 2 * h ≤ 6 := by omega
  obtain ⟨P, hP⟩ : ∃ P : Nat → Gau, (fun j => pntF h (labF (2 * h) j) 0) = P := ⟨_, rfl⟩
  have hpi : P i = pntF h (labF (2 * h) i) 0 := by rw [← hP]
  have hpj : P j = pntF h (labF (2 * h) j) 0 := by rw [← hP]
  obtain ⟨m, hm⟩ : ∃ m : Nat, 2 * h = m := ⟨_, rfl⟩
  have hmz : 2 * (h : Int) = (m : Int) := by omega
  simp only [hm] at *
  simp only [hmz] at HOE HPC HPR ⊢
  obtain ⟨N, hN⟩ : ∃ N : Nat, 2 ^ m = N := ⟨_, rfl⟩
  simp only [hN] at *
  simp only [hP] at HPC HPR
  skip
  simp only [← hpi, ← hpj] at o1 o2 HAP HNE hs
  clear hP hpi hpj hm hmz hN hok hiz hjz
  obtain ⟨p1, hp1⟩ : ∃ p, P i = p := ⟨_, rfl⟩
  obtain ⟨p2, hp2⟩ : ∃ p, P j = p := ⟨_, rfl⟩
  simp only [hp1, hp2] at o1 o2 HAP HNE hs
  obtain ⟨x1, y1⟩ := p1
  obtain ⟨x2, y2⟩ := p2
  simp only at o1 o2 HAP HNE
  have HP1 := hide hp1
  have HP2 := hide hp2
  have HS := hide hs
  clear hp1 hp2 hs
  obtain ⟨a1, a2, a3, a4, a5, a6⟩ := o1
  obtain ⟨c1, c2, c3, c4, c5, c6⟩ := o2
  have HMX := hide (fun W => mod_any x1 2 W (by decide) (by decide))
  have HMY := hide (fun W => mod_any y1 2 W (by decide) (by decide))
  rw [a1] at HMX
  rw [a2] at HMY
  have HWx1 := hide (fun W => within_any x1 (-7) 7 W)
  simp only [withinB_yes ⟨a3, a4⟩] at HWx1
  have HWy1 := hide (fun W => within_any y1 (-7) 7 W)
  simp only [withinB_yes ⟨a5, a6⟩] at HWy1
  have HWx2 := hide (fun W => within_any x2 (-7) 7 W)
  simp only [withinB_yes ⟨c3, c4⟩] at HWx2
  have HWy2 := hide (fun W => within_any y2 (-7) 7 W)
  simp only [withinB_yes ⟨c5, c6⟩] at HWy2
  have q1 : IntKind.i64.wrap (x1 - x2) = x1 - x2 := IntWalk.i64_in _ (by omega)
  have q2 : IntKind.i64.wrap (y1 - y2) = y1 - y2 := IntWalk.i64_in _ (by omega)
  have HSX := hide (fun W => sizeZ_any (x1 - x2) W (by omega))
  have HSY := hide (fun W => sizeZ_any (y1 - y2) W (by omega))
  have r9 : 0 ≤ sizZ (x1 - x2) ∧ sizZ (x1 - x2) ≤ 20 := by unfold sizZ; omega
  have s9 : 0 ≤ sizZ (y1 - y2) ∧ sizZ (y1 - y2) ≤ 20 := by unfold sizZ; omega
  have HZX := hide (fun e : x1 = x2 => (show sizZ (x1 - x2) = 0 by rw [e]; unfold sizZ; omega))
  have HZY := hide (fun e : y1 = y2 => (show sizZ (y1 - y2) = 0 by rw [e]; unfold sizZ; omega))
  obtain ⟨ρ, hρ⟩ : ∃ z, sizZ (x1 - x2) = z := ⟨_, rfl⟩
  obtain ⟨σ, hσ⟩ : ∃ z, sizZ (y1 - y2) = z := ⟨_, rfl⟩
  simp only [hρ] at HSX HZX HNE r9
  simp only [hσ] at HSY HZY HNE s9
  clear hρ hσ a1 a2 a3 a4 a5 a6 c1 c2 c3 c4 c5 c6
  go_enter Try.func8, Try.ntmps8
  go_wp2_with fail
  refine (awakeS_any _).mono ?_
  rintro e_ v2 ⟨rfl, hb2⟩
  replace HB := hide (HB.out.trans (hb2.mono HB.out.size))
  clear hb2
  go_wp2_with fail
  refine (HPC.out _).mono ?_
  rintro e_ v3 ⟨vp, rfl, hog, hb3⟩
  obtain ⟨Ap, cp, rfl, -, hgp⟩ := ownGaus_form hog
  replace HB := hide (HB.out.trans (hb3.mono HB.out.size))
  clear hb3
  have HGP := hide (hgp.weak (Nat.zero_le _))
  clear hgp hog HPC
  go_wp2_with fail
  refine (HOE.out _).mono ?_
  rintro e_ v_ ⟨rfl, rfl⟩
  go_wp2_with fail
  refine (HPR.out _).mono ?_
  rintro e_ v4 ⟨vr, rfl, hor, hb4⟩
  obtain ⟨Ar, cr, rfl, -, -⟩ := ownGaus_form hor
  replace HGP := hide (HGP.out.below hb4)
  replace HB := hide (HB.out.trans (hb4.mono HB.out.size))
  clear hb4
  clear hor HPR
  go_wp2_with fail
  refine (HMA.out _).mono ?_
  rintro e_ v_ ⟨rfl, rfl⟩
  go_wp2_with fail
  refine (HMB.out _).mono ?_
  rintro e_ v_ ⟨rfl, rfl⟩
  obtain ⟨bg, og, rfl, -, -⟩ := HGP.out 0 hNp
  have HCI := hide (fun W (hz : GausAt W 0 (some ⟨bg, og, none⟩) N P) => (show W.cell? ⟨bg, og + i * 2, none⟩ = some (.int .i64 x1) ∧ W.cell? ⟨bg, og + i * 2 + 1, none⟩ = some (.int .i64 y1) by have := gaus_at hz hi; rw [HP1.out] at this; exact this))
  have HCJ := hide (fun W (hz : GausAt W 0 (some ⟨bg, og, none⟩) N P) => (show W.cell? ⟨bg, og + j * 2, none⟩ = some (.int .i64 x2) ∧ W.cell? ⟨bg, og + j * 2 + 1, none⟩ = some (.int .i64 y2) by have := gaus_at hz hj; rw [HP2.out] at this; exact this))
  clear HMA HMB HOE
  go_upto_region 9 with fail
  refine wp_region_held_drew (S := fun w' => w'.cell? ⟨bg, og + i * 2, none⟩ = some (.int .i64 x1) ∧ w'.cell? ⟨bg, og + i * 2 + 1, none⟩ = some (.int .i64 y1) ∧ w'.cell? ⟨bg, og + j * 2, none⟩ = some (.int .i64 x2) ∧ w'.cell? ⟨bg, og + j * 2 + 1, none⟩ = some (.int .i64 y2)) (by kernel_rfl) ⟨(HCI.out _ HGP.out).1, (HCI.out _ HGP.out).2, (HCJ.out _ HGP.out).1, (HCJ.out _ HGP.out).2⟩ (fun hHeld => ?_)
  obtain ⟨w_901, hw_901⟩ : ∃ q : World, q = v4.drew := ⟨_, rfl⟩
  rw [← hw_901] at hHeld ⊢
  have hc_901 : Below v4.heap.size v4 w_901 := by rw [hw_901]; exact (Below.refl _ _).drew
  clear hw_901
  replace HGP := hide (HGP.out.below hc_901)
  replace HB := hide (HB.out.trans (hc_901.mono HB.out.size))
  clear hc_901
  refine wpAnyH_take (i := 0) (oi := ⟨some 59, _, _, _, _, _⟩) (v := ?_) rfl (by kernel_rfl) (by kernel_rfl) (by kernel_rfl) (fun _ _ _ h => h) (Or.inl ⟨by rfl, ?_⟩) (by assumption) ?_
  rotate_left
  · (intro w' hSw; (try dsimp only at hSw); go_simp <;> (with_reducible rfl))
  try simp only [Act.put, List.setIfInBounds_toArray, List.set_cons_zero, List.set_cons_succ]
  refine wpAnyH_take (i := 1) (oi := ⟨some 60, _, _, _, _, _⟩) (v := ?_) rfl (by kernel_rfl) (by kernel_rfl) (by kernel_rfl) (fun _ _ _ h => h) (Or.inl ⟨by rfl, ?_⟩) (by assumption) ?_
  rotate_left
  · (intro w' hSw; (try dsimp only at hSw); go_simp <;> (with_reducible rfl))
  try simp only [Act.put, List.setIfInBounds_toArray, List.set_cons_zero, List.set_cons_succ]
  refine wpAnyH_take (i := 2) (oi := ⟨some 61, _, _, _, _, _⟩) (v := ?_) rfl (by kernel_rfl) (by kernel_rfl) (by kernel_rfl) (fun _ _ _ h => h) (Or.inl ⟨by rfl, ?_⟩) (by assumption) ?_
  rotate_left
  · (intro w' hSw; (try dsimp only at hSw); go_simp <;> (with_reducible rfl))
  try simp only [Act.put, List.setIfInBounds_toArray, List.set_cons_zero, List.set_cons_succ]
  refine wpAnyH_take (i := 3) (oi := ⟨some 62, _, _, _, _, _⟩) (v := ?_) rfl (by kernel_rfl) (by kernel_rfl) (by kernel_rfl) (fun _ _ _ h => h) (Or.inl ⟨by rfl, ?_⟩) (by assumption) ?_
  rotate_left
  · (intro w' hSw; (try dsimp only at hSw); go_simp <;> (with_reducible rfl))
  try simp only [Act.put, List.setIfInBounds_toArray, List.set_cons_zero, List.set_cons_succ]
  refine wpAnyH_take (i := 4) (oi := ⟨some 63, _, _, _, _, _⟩) (v := ?_) rfl (by kernel_rfl) (by kernel_rfl) (by kernel_rfl) (fun _ _ _ h => h) (Or.inl ⟨by rfl, ?_⟩) (by assumption) ?_
  rotate_left
  · (intro w' hSw; (try dsimp only at hSw); go_simp <;> (with_reducible rfl))
  try simp only [Act.put, List.setIfInBounds_toArray, List.set_cons_zero, List.set_cons_succ]
  refine wpAnyH_take (i := 5) (oi := ⟨some 64, _, _, _, _, _⟩) (v := ?_) rfl (by kernel_rfl) (by kernel_rfl) (by kernel_rfl) (fun _ _ _ h => h) (Or.inl ⟨by rfl, ?_⟩) (by assumption) ?_
  rotate_left
  · (intro w' hSw; (try dsimp only at hSw); go_simp <;> (with_reducible rfl))
  try simp only [Act.put, List.setIfInBounds_toArray, List.set_cons_zero, List.set_cons_succ]
  refine wpAnyH_take (i := 6) (oi := ⟨some 65, _, _, _, _, _⟩) (v := ?_) rfl (by kernel_rfl) (by kernel_rfl) (by kernel_rfl) (fun _ _ _ h => h) (Or.inl ⟨by rfl, ?_⟩) (by assumption) ?_
  rotate_left
  · (intro w' hSw; (try dsimp only at hSw); go_simp <;> (with_reducible rfl))
  try simp only [Act.put, List.setIfInBounds_toArray, List.set_cons_zero, List.set_cons_succ]
  refine wpAnyH_take (i := 7) (oi := ⟨some 66, _, _, _, _, _⟩) (v := ?_) rfl (by kernel_rfl) (by kernel_rfl) (by kernel_rfl) (fun _ _ _ h => h) (Or.inl ⟨by rfl, ?_⟩) (by assumption) ?_
  rotate_left
  · (intro w' hSw; (try dsimp only at hSw); go_simp <;> (with_reducible rfl))
  try simp only [Act.put, List.setIfInBounds_toArray, List.set_cons_zero, List.set_cons_succ]
  refine wpAnyH_ready (rs := [8, 9]) (by kernel_rfl) (by simp) ?_
  refine AllReadyH.cons (o := ⟨some 11, _, _, _, _, _⟩) rfl (fun K' hK => ?_) (AllReadyH.cons (o := ⟨some 12, _, _, _, _, _⟩) rfl (fun K' hK => ?_) AllReadyH.nil)
  · skip
    go_simp
    obtain ⟨b11, hb11⟩ : ∃ q, w_901.heap.size = q := ⟨_, rfl⟩
    have hl_b11 : bg < b11 := by rw [← hb11]; exact gausLt HGP.out hNp
    have hw_b11 : w.heap.size ≤ b11 := by rw [← hb11]; exact HB.out.size
    obtain ⟨w_902, hw_902⟩ : ∃ q : World, q = w_901.alloc (.cells #[.int .i64 0, .int .i64 0] 68) := ⟨_, rfl⟩
    try rw [← hw_902]
    have HX1 := hide (show Box w_902 b11 68 #[.int .i64 0, .int .i64 0] by rw [hw_902]; exact Box.made hb11.symm)
    have hc_902 : Below w_901.heap.size w_901 w_902 := by rw [hw_902]; exact (Below.refl _ _).alloc (Nat.le_refl _) _
    clear hw_902
    replace HGP := hide (HGP.out.below hc_902)
    replace HB := hide (HB.out.trans (hc_902.mono HB.out.size))
    clear hc_902
    try simp only [hb11]
    clear hb11
    refine hK.out _ _ ⟨(HCI.out _ HGP.out).1, (HCI.out _ HGP.out).2, (HCJ.out _ HGP.out).1, (HCJ.out _ HGP.out).2⟩ (fun hHeld => ?_)
    clear hK K'
    try simp only [Act.put, List.setIfInBounds_toArray, List.set_cons_zero, List.set_cons_succ]
    refine wpAnyH_ready (rs := [9]) (by kernel_rfl) (by simp) ?_
    refine AllReadyH.cons (o := ⟨some 12, _, _, _, _, _⟩) rfl (fun K' hK => ?_) AllReadyH.nil
    go_simp
    obtain ⟨b12, hb12⟩ : ∃ q, w_902.heap.size = q := ⟨_, rfl⟩
    have hl_b12 : bg < b12 := by rw [← hb12]; exact gausLt HGP.out hNp
    have hw_b12 : w.heap.size ≤ b12 := by rw [← hb12]; exact HB.out.size
    have hlt_b12 : b11 < b12 := by rw [← hb12]; exact HX1.out.lt
    obtain ⟨w_903, hw_903⟩ : ∃ q : World, q = w_902.alloc (.cells #[.int .i64 0, .int .i64 0] 68) := ⟨_, rfl⟩
    try rw [← hw_903]
    have HX2 := hide (show Box w_903 b12 68 #[.int .i64 0, .int .i64 0] by rw [hw_903]; exact Box.made hb12.symm)
    have hc_903 : Below w_902.heap.size w_902 w_903 := by rw [hw_903]; exact (Below.refl _ _).alloc (Nat.le_refl _) _
    clear hw_903
    replace HGP := hide (HGP.out.below hc_903)
    replace HX1 := hide (HX1.out.below hc_903)
    replace HB := hide (HB.out.trans (hc_903.mono HB.out.size))
    clear hc_903
    try simp only [hb12]
    clear hb12
    refine hK.out _ _ ⟨(HCI.out _ HGP.out).1, (HCI.out _ HGP.out).2, (HCJ.out _ HGP.out).1, (HCJ.out _ HGP.out).2⟩ (fun hHeld => ?_)
    clear hK K'
    try simp only [Act.put, List.setIfInBounds_toArray, List.set_cons_zero, List.set_cons_succ]
    refine wpAnyH_ready (rs := [10]) (by kernel_rfl) (by simp) ?_
    refine AllReadyH.cons (o := ⟨none, _, _, _, _, _⟩) rfl (fun K' hK => ?_) AllReadyH.nil
    obtain ⟨z0, z1, k0, k1, hlz⟩ := HX1.out.t2
    go_simp
    clear z0 z1 k0 k1 hlz
    replace HX2 := hide ((HX2.out.other (p := ⟨b11, 0, none⟩) (by show b12 ≠ b11; omega) (.int .i64 x1)).other (p := ⟨b11, 1, none⟩) (by show b12 ≠ b11; omega) (.int .i64 y1))
    replace HX1 := hide (HX1.out.t2put (.int .i64 x1) (.int .i64 y1))
    replace HGP := hide (gausOther (gausOther (p := b11) (f := 0) HGP.out hl_b11 (.int .i64 x1)) (p := b11) (f := 1) hl_b11 (.int .i64 y1))
    replace HB := hide ((HB.out.setCell (p := ⟨b11, 0, none⟩) hw_b11 (.int .i64 x1)).setCell (p := ⟨b11, 1, none⟩) hw_b11 (.int .i64 y1))
    obtain ⟨w_904, hw_904⟩ : ∃ q : World, (w_903.setCell ⟨b11, 0, none⟩ (.int .i64 x1)).setCell ⟨b11, 1, none⟩ (.int .i64 y1) = q := ⟨_, rfl⟩
    rw [hw_904] at HX1 HX2 HB HGP ⊢
    clear hw_904
    refine hK.out _ _ ⟨(HCI.out _ HGP.out).1, (HCI.out _ HGP.out).2, (HCJ.out _ HGP.out).1, (HCJ.out _ HGP.out).2⟩ (fun hHeld => ?_)
    clear hK K'
    try simp only [Act.put, List.setIfInBounds_toArray, List.set_cons_zero, List.set_cons_succ]
    refine wpAnyH_ready (rs := [11]) (by kernel_rfl) (by simp) ?_
    refine AllReadyH.cons (o := ⟨none, _, _, _, _, _⟩) rfl (fun K' hK => ?_) AllReadyH.nil
    obtain ⟨z0, z1, k0, k1, hlz⟩ := HX2.out.t2
    go_simp
    clear z0 z1 k0 k1 hlz
    replace HX1 := hide ((HX1.out.other (p := ⟨b12, 0, none⟩) (by show b11 ≠ b12; omega) (.int .i64 x2)).other (p := ⟨b12, 1, none⟩) (by show b11 ≠ b12; omega) (.int .i64 y2))
    replace HX2 := hide (HX2.out.t2put (.int .i64 x2) (.int .i64 y2))
    replace HGP := hide (gausOther (gausOther (p := b12) (f := 0) HGP.out hl_b12 (.int .i64 x2)) (p := b12) (f := 1) hl_b12 (.int .i64 y2))
    replace HB := hide ((HB.out.setCell (p := ⟨b12, 0, none⟩) hw_b12 (.int .i64 x2)).setCell (p := ⟨b12, 1, none⟩) hw_b12 (.int .i64 y2))
    obtain ⟨w_905, hw_905⟩ : ∃ q : World, (w_904.setCell ⟨b12, 0, none⟩ (.int .i64 x2)).setCell ⟨b12, 1, none⟩ (.int .i64 y2) = q := ⟨_, rfl⟩
    rw [hw_905] at HX1 HX2 HB HGP ⊢
    clear hw_905
    refine hK.out _ _ ⟨(HCI.out _ HGP.out).1, (HCI.out _ HGP.out).2, (HCJ.out _ HGP.out).1, (HCJ.out _ HGP.out).2⟩ (fun hHeld => ?_)
    clear hK K'
    try simp only [Act.put, List.setIfInBounds_toArray, List.set_cons_zero, List.set_cons_succ]
    refine wpAnyH_done (by kernel_rfl) ?_ _
    clear hHeld
    by_cases hij : i = j
    case pos =>
      have hs := HS.out hij
      injection hs with e1 e2
      obtain rfl : ρ = 0 := HZX.out e1
      obtain rfl : σ = 0 := HZY.out e2
      have tn : ((i : Int) != (j : Int)) = false := by simp; omega
      clear e1 e2 hij HS HNE HAP HZX HZY
      obtain ⟨z0, z1, zf0, zf1, hlz⟩ := HX1.out.t2
      obtain ⟨u0, u1, uf0, uf1, hlu⟩ := HX2.out.t2
      go_wp2_with fail
      refine (HMX.out _).mono ?_
      rintro e_ v_ ⟨rfl, rfl⟩
      go_wp2_with fail
      refine (HMY.out _).mono ?_
      rintro e_ v_ ⟨rfl, rfl⟩
      go_wp2_with fail
      refine (HWx1.out _).mono ?_
      rintro e_ v_ ⟨rfl, rfl⟩
      go_wp2_with fail
      refine (HWy1.out _).mono ?_
      rintro e_ v_ ⟨rfl, rfl⟩
      go_wp2_with fail
      refine (HWx2.out _).mono ?_
      rintro e_ v_ ⟨rfl, rfl⟩
      go_wp2_with fail
      refine (HWy2.out _).mono ?_
      rintro e_ v_ ⟨rfl, rfl⟩
      go_upto_region 12 with fail
      clear z0 z1 zf0 zf1 hlz u0 u1 uf0 uf1 hlu HMX HMY HWx1 HWy1 HWx2 HWy2
      refine wp_region_held_drew (S := fun w' => w'.cell? ⟨b11, 0, none⟩ = some (.int .i64 x1) ∧ w'.cell? ⟨b11, 1, none⟩ = some (.int .i64 y1) ∧ w'.cell? ⟨b12, 0, none⟩ = some (.int .i64 x2) ∧ w'.cell? ⟨b12, 1, none⟩ = some (.int .i64 y2)) (by kernel_rfl) ⟨HX1.out.t2.1, HX1.out.t2.2.1, HX2.out.t2.1, HX2.out.t2.2.1⟩ (fun hHeld => ?_)
      obtain ⟨w_906, hw_906⟩ : ∃ q : World, q = w_905.drew := ⟨_, rfl⟩
      rw [← hw_906] at hHeld ⊢
      have hc_906 : Below w_905.heap.size w_905 w_906 := by rw [hw_906]; exact (Below.refl _ _).drew
      clear hw_906
      replace HGP := hide (HGP.out.below hc_906)
      replace HX1 := hide (HX1.out.below hc_906)
      replace HX2 := hide (HX2.out.below hc_906)
      replace HB := hide (HB.out.trans (hc_906.mono HB.out.size))
      clear hc_906
      refine wpAnyH_take (i := 0) (oi := ⟨some 111, _, _, _, _, _⟩) (v := ?_) rfl (by kernel_rfl) (by kernel_rfl) (by kernel_rfl) (fun _ _ _ h => h) (Or.inl ⟨by rfl, ?_⟩) (by assumption) ?_
      rotate_left
      · (intro w' hSw; (try dsimp only at hSw); go_simp <;> (with_reducible rfl))
      try simp only [Act.put, List.setIfInBounds_toArray, List.set_cons_zero, List.set_cons_succ]
      refine wpAnyH_take (i := 1) (oi := ⟨some 112, _, _, _, _, _⟩) (v := ?_) rfl (by kernel_rfl) (by kernel_rfl) (by kernel_rfl) (fun _ _ _ h => h) (Or.inl ⟨by rfl, ?_⟩) (by assumption) ?_
      rotate_left
      · (intro w' hSw; (try dsimp only at hSw); go_simp <;> (with_reducible rfl))
      try simp only [Act.put, List.setIfInBounds_toArray, List.set_cons_zero, List.set_cons_succ]
      refine wpAnyH_take (i := 2) (oi := ⟨some 113, _, _, _, _, _⟩) (v := ?_) rfl (by kernel_rfl) (by kernel_rfl) (by kernel_rfl) (fun _ _ _ h => h) (Or.inl ⟨by rfl, ?_⟩) (by assumption) ?_
      rotate_left
      · (intro w' hSw; (try dsimp only at hSw); go_simp <;> (with_reducible rfl))
      try simp only [Act.put, List.setIfInBounds_toArray, List.set_cons_zero, List.set_cons_succ]
      refine wpAnyH_take (i := 3) (oi := ⟨some 114, _, _, _, _, _⟩) (v := ?_) rfl (by kernel_rfl) (by kernel_rfl) (by kernel_rfl) (fun _ _ _ h => h) (Or.inl ⟨by rfl, ?_⟩) (by assumption) ?_
      rotate_left
      · (intro w' hSw; (try dsimp only at hSw); go_simp <;> (with_reducible rfl))
      try simp only [Act.put, List.setIfInBounds_toArray, List.set_cons_zero, List.set_cons_succ]
      refine wpAnyH_take (i := 4) (oi := ⟨some 115, _, _, _, _, _⟩) (v := ?_) rfl (by kernel_rfl) (by kernel_rfl) (by kernel_rfl) (fun _ _ _ h => h) (Or.inl ⟨by rfl, ?_⟩) (by assumption) ?_
      rotate_left
      · (intro w' hSw; (try dsimp only at hSw); go_simp <;> (with_reducible rfl))
      try simp only [Act.put, List.setIfInBounds_toArray, List.set_cons_zero, List.set_cons_succ]
      refine wpAnyH_take (i := 6) (oi := ⟨some 117, _, _, _, _, _⟩) (v := ?_) rfl (by kernel_rfl) (by kernel_rfl) (by kernel_rfl) (fun _ _ _ h => h) (Or.inl ⟨by rfl, ?_⟩) (by assumption) ?_
      rotate_left
      · (intro w' hSw; (try dsimp only at hSw); go_simp <;> (with_reducible rfl))
      try simp only [Act.put, List.setIfInBounds_toArray, List.set_cons_zero, List.set_cons_succ]
      refine wpAnyH_take (i := 7) (oi := ⟨some 118, _, _, _, _, _⟩) (v := ?_) rfl (by kernel_rfl) (by kernel_rfl) (by kernel_rfl) (fun _ _ _ h => h) (Or.inl ⟨by rfl, ?_⟩) (by assumption) ?_
      rotate_left
      · (intro w' hSw; (try dsimp only at hSw); go_simp <;> (with_reducible rfl))
      try simp only [Act.put, List.setIfInBounds_toArray, List.set_cons_zero, List.set_cons_succ]
      refine wpAnyH_take (i := 8) (oi := ⟨some 119, _, _, _, _, _⟩) (v := ?_) rfl (by kernel_rfl) (by kernel_rfl) (by kernel_rfl) (fun _ _ _ h => h) (Or.inl ⟨by rfl, ?_⟩) (by assumption) ?_
      rotate_left
      · (intro w' hSw; (try dsimp only at hSw); go_simp <;> (with_reducible rfl))
      try simp only [Act.put, List.setIfInBounds_toArray, List.set_cons_zero, List.set_cons_succ]
      refine wpAnyH_take (i := 9) (oi := ⟨some 120, _, _, _, _, _⟩) (v := ?_) rfl (by kernel_rfl) (by kernel_rfl) (by kernel_rfl) (fun _ _ _ h => h) (Or.inl ⟨by rfl, ?_⟩) (by assumption) ?_
      rotate_left
      · (intro w' hSw; (try dsimp only at hSw); go_simp <;> (with_reducible rfl))
      try simp only [Act.put, List.setIfInBounds_toArray, List.set_cons_zero, List.set_cons_succ]
      refine wpAnyH_take (i := 10) (oi := ⟨some 121, _, _, _, _, _⟩) (v := ?_) rfl (by kernel_rfl) (by kernel_rfl) (by kernel_rfl) (fun _ _ _ h => h) (Or.inl ⟨by rfl, ?_⟩) (by assumption) ?_
      rotate_left
      · (intro w' hSw; (try dsimp only at hSw); go_simp <;> (with_reducible rfl))
      try simp only [Act.put, List.setIfInBounds_toArray, List.set_cons_zero, List.set_cons_succ]
      refine wpAnyH_ready (rs := [5]) (by kernel_rfl) (by simp) ?_
      refine AllReadyH.cons (o := ⟨some 116, _, _, _, _, _⟩) rfl (fun K' hK => ?_) AllReadyH.nil
      go_simp
      go_at_call 47
      refine (HSX.out _).mono ?_
      rintro e_ v_ ⟨rfl, rfl⟩
      go_wp2_with fail
      refine hK.out _ _ ⟨HX1.out.t2.1, HX1.out.t2.2.1, HX2.out.t2.1, HX2.out.t2.2.1⟩ (fun hHeld => ?_)
      clear hK K'
      try simp only [Act.put, List.setIfInBounds_toArray, List.set_cons_zero, List.set_cons_succ]
      refine wpAnyH_ready (rs := [11]) (by kernel_rfl) (by simp) ?_
      refine AllReadyH.cons (o := ⟨some 122, _, _, _, _, _⟩) rfl (fun K' hK => ?_) AllReadyH.nil
      go_simp
      go_at_call 47
      refine (HSY.out _).mono ?_
      rintro e_ v_ ⟨rfl, rfl⟩
      go_wp2_with fail
      refine hK.out _ _ ⟨HX1.out.t2.1, HX1.out.t2.2.1, HX2.out.t2.1, HX2.out.t2.2.1⟩ (fun hHeld => ?_)
      clear hK K'
      try simp only [Act.put, List.setIfInBounds_toArray, List.set_cons_zero, List.set_cons_succ]
      refine wpAnyH_take (i := 12) (oi := ⟨some 13, _, _, _, _, _⟩) (v := ?_) rfl (by kernel_rfl) (by kernel_rfl) (by kernel_rfl) (fun _ _ _ h => h) (Or.inl ⟨by rfl, ?_⟩) (by assumption) ?_
      rotate_left
      · (intro w' hSw; (try dsimp only at hSw); go_simp <;> (with_reducible rfl))
      try simp only [Act.put, List.setIfInBounds_toArray, List.set_cons_zero, List.set_cons_succ]
      refine wpAnyH_take (i := 13) (oi := ⟨some 14, _, _, _, _, _⟩) (v := ?_) rfl (by kernel_rfl) (by kernel_rfl) (by kernel_rfl) (fun _ _ _ h => h) (Or.inl ⟨by rfl, ?_⟩) (by assumption) ?_
      rotate_left
      · (intro w' hSw; (try dsimp only at hSw); go_simp <;> (with_reducible rfl))
      try simp only [Act.put, List.setIfInBounds_toArray, List.set_cons_zero, List.set_cons_succ]
      refine wpAnyH_done (by kernel_rfl) ?_ _
      clear hHeld
      go_wp2_with fail
      go_ret
      exact ⟨rfl, HB.out⟩
    have tn : ((i : Int) != (j : Int)) = true := by simp; omega
    have hap := HAP.out hij
    clear HAP HS HZX HZY
    by_cases hx : x1 = x2
    case pos =>
      have hy : ¬ y1 = y2 := fun e => hap ⟨hx, e⟩
      clear hap hx hij
      obtain ⟨z0, z1, zf0, zf1, hlz⟩ := HX1.out.t2
      obtain ⟨u0, u1, uf0, uf1, hlu⟩ := HX2.out.t2
      go_wp2_with fail
      refine (HMX.out _).mono ?_
      rintro e_ v_ ⟨rfl, rfl⟩
      go_wp2_with fail
      refine (HMY.out _).mono ?_
      rintro e_ v_ ⟨rfl, rfl⟩
      go_wp2_with fail
      refine (HWx1.out _).mono ?_
      rintro e_ v_ ⟨rfl, rfl⟩
      go_wp2_with fail
      refine (HWy1.out _).mono ?_
      rintro e_ v_ ⟨rfl, rfl⟩
      go_wp2_with fail
      refine (HWx2.out _).mono ?_
      rintro e_ v_ ⟨rfl, rfl⟩
      go_wp2_with fail
      refine (HWy2.out _).mono ?_
      rintro e_ v_ ⟨rfl, rfl⟩
      go_upto_region 12 with fail
      clear z0 z1 zf0 zf1 hlz u0 u1 uf0 uf1 hlu HMX HMY HWx1 HWy1 HWx2 HWy2
      refine wp_region_held_drew (S := fun w' => w'.cell? ⟨b11, 0, none⟩ = some (.int .i64 x1) ∧ w'.cell? ⟨b11, 1, none⟩ = some (.int .i64 y1) ∧ w'.cell? ⟨b12, 0, none⟩ = some (.int .i64 x2) ∧ w'.cell? ⟨b12, 1, none⟩ = some (.int .i64 y2)) (by kernel_rfl) ⟨HX1.out.t2.1, HX1.out.t2.2.1, HX2.out.t2.1, HX2.out.t2.2.1⟩ (fun hHeld => ?_)
      obtain ⟨w_907, hw_907⟩ : ∃ q : World, q = w_905.drew := ⟨_, rfl⟩
      rw [← hw_907] at hHeld ⊢
      have hc_907 : Below w_905.heap.size w_905 w_907 := by rw [hw_907]; exact (Below.refl _ _).drew
      clear hw_907
      replace HGP := hide (HGP.out.below hc_907)
      replace HX1 := hide (HX1.out.below hc_907)
      replace HX2 := hide (HX2.out.below hc_907)
      replace HB := hide (HB.out.trans (hc_907.mono HB.out.size))
      clear hc_907
      refine wpAnyH_take (i := 0) (oi := ⟨some 111, _, _, _, _, _⟩) (v := ?_) rfl (by kernel_rfl) (by kernel_rfl) (by kernel_rfl) (fun _ _ _ h => h) (Or.inl ⟨by rfl, ?_⟩) (by assumption) ?_
      rotate_left
      · (intro w' hSw; (try dsimp only at hSw); go_simp <;> (with_reducible rfl))
      try simp only [Act.put, List.setIfInBounds_toArray, List.set_cons_zero, List.set_cons_succ]
      refine wpAnyH_take (i := 1) (oi := ⟨some 112, _, _, _, _, _⟩) (v := ?_) rfl (by kernel_rfl) (by kernel_rfl) (by kernel_rfl) (fun _ _ _ h => h) (Or.inl ⟨by rfl, ?_⟩) (by assumption) ?_
      rotate_left
      · (intro w' hSw; (try dsimp only at hSw); go_simp <;> (with_reducible rfl))
      try simp only [Act.put, List.setIfInBounds_toArray, List.set_cons_zero, List.set_cons_succ]
      refine wpAnyH_take (i := 2) (oi := ⟨some 113, _, _, _, _, _⟩) (v := ?_) rfl (by kernel_rfl) (by kernel_rfl) (by kernel_rfl) (fun _ _ _ h => h) (Or.inl ⟨by rfl, ?_⟩) (by assumption) ?_
      rotate_left
      · (intro w' hSw; (try dsimp only at hSw); go_simp <;> (with_reducible rfl))
      try simp only [Act.put, List.setIfInBounds_toArray, List.set_cons_zero, List.set_cons_succ]
      refine wpAnyH_take (i := 3) (oi := ⟨some 114, _, _, _, _, _⟩) (v := ?_) rfl (by kernel_rfl) (by kernel_rfl) (by kernel_rfl) (fun _ _ _ h => h) (Or.inl ⟨by rfl, ?_⟩) (by assumption) ?_
      rotate_left
      · (intro w' hSw; (try dsimp only at hSw); go_simp <;> (with_reducible rfl))
      try simp only [Act.put, List.setIfInBounds_toArray, List.set_cons_zero, List.set_cons_succ]
      refine wpAnyH_take (i := 4) (oi := ⟨some 115, _, _, _, _, _⟩) (v := ?_) rfl (by kernel_rfl) (by kernel_rfl) (by kernel_rfl) (fun _ _ _ h => h) (Or.inl ⟨by rfl, ?_⟩) (by assumption) ?_
      rotate_left
      · (intro w' hSw; (try dsimp only at hSw); go_simp <;> (with_reducible rfl))
      try simp only [Act.put, List.setIfInBounds_toArray, List.set_cons_zero, List.set_cons_succ]
      refine wpAnyH_take (i := 6) (oi := ⟨some 117, _, _, _, _, _⟩) (v := ?_) rfl (by kernel_rfl) (by kernel_rfl) (by kernel_rfl) (fun _ _ _ h => h) (Or.inl ⟨by rfl, ?_⟩) (by assumption) ?_
      rotate_left
      · (intro w' hSw; (try dsimp only at hSw); go_simp <;> (with_reducible rfl))
      try simp only [Act.put, List.setIfInBounds_toArray, List.set_cons_zero, List.set_cons_succ]
      refine wpAnyH_take (i := 7) (oi := ⟨some 118, _, _, _, _, _⟩) (v := ?_) rfl (by kernel_rfl) (by kernel_rfl) (by kernel_rfl) (fun _ _ _ h => h) (Or.inl ⟨by rfl, ?_⟩) (by assumption) ?_
      rotate_left
      · (intro w' hSw; (try dsimp only at hSw); go_simp <;> (with_reducible rfl))
      try simp only [Act.put, List.setIfInBounds_toArray, List.set_cons_zero, List.set_cons_succ]
      refine wpAnyH_take (i := 8) (oi := ⟨some 119, _, _, _, _, _⟩) (v := ?_) rfl (by kernel_rfl) (by kernel_rfl) (by kernel_rfl) (fun _ _ _ h => h) (Or.inl ⟨by rfl, ?_⟩) (by assumption) ?_
      rotate_left
      · (intro w' hSw; (try dsimp only at hSw); go_simp <;> (with_reducible rfl))
      try simp only [Act.put, List.setIfInBounds_toArray, List.set_cons_zero, List.set_cons_succ]
      refine wpAnyH_take (i := 9) (oi := ⟨some 120, _, _, _, _, _⟩) (v := ?_) rfl (by kernel_rfl) (by kernel_rfl) (by kernel_rfl) (fun _ _ _ h => h) (Or.inl ⟨by rfl, ?_⟩) (by assumption) ?_
      rotate_left
      · (intro w' hSw; (try dsimp only at hSw); go_simp <;> (with_reducible rfl))
      try simp only [Act.put, List.setIfInBounds_toArray, List.set_cons_zero, List.set_cons_succ]
      refine wpAnyH_take (i := 10) (oi := ⟨some 121, _, _, _, _, _⟩) (v := ?_) rfl (by kernel_rfl) (by kernel_rfl) (by kernel_rfl) (fun _ _ _ h => h) (Or.inl ⟨by rfl, ?_⟩) (by assumption) ?_
      rotate_left
      · (intro w' hSw; (try dsimp only at hSw); go_simp <;> (with_reducible rfl))
      try simp only [Act.put, List.setIfInBounds_toArray, List.set_cons_zero, List.set_cons_succ]
      refine wpAnyH_ready (rs := [5]) (by kernel_rfl) (by simp) ?_
      refine AllReadyH.cons (o := ⟨some 116, _, _, _, _, _⟩) rfl (fun K' hK => ?_) AllReadyH.nil
      go_simp
      go_at_call 47
      refine (HSX.out _).mono ?_
      rintro e_ v_ ⟨rfl, rfl⟩
      go_wp2_with fail
      refine hK.out _ _ ⟨HX1.out.t2.1, HX1.out.t2.2.1, HX2.out.t2.1, HX2.out.t2.2.1⟩ (fun hHeld => ?_)
      clear hK K'
      try simp only [Act.put, List.setIfInBounds_toArray, List.set_cons_zero, List.set_cons_succ]
      refine wpAnyH_ready (rs := [11]) (by kernel_rfl) (by simp) ?_
      refine AllReadyH.cons (o := ⟨some 122, _, _, _, _, _⟩) rfl (fun K' hK => ?_) AllReadyH.nil
      go_simp
      go_at_call 47
      refine (HSY.out _).mono ?_
      rintro e_ v_ ⟨rfl, rfl⟩
      go_wp2_with fail
      refine hK.out _ _ ⟨HX1.out.t2.1, HX1.out.t2.2.1, HX2.out.t2.1, HX2.out.t2.2.1⟩ (fun hHeld => ?_)
      clear hK K'
      try simp only [Act.put, List.setIfInBounds_toArray, List.set_cons_zero, List.set_cons_succ]
      refine wpAnyH_take (i := 12) (oi := ⟨some 13, _, _, _, _, _⟩) (v := ?_) rfl (by kernel_rfl) (by kernel_rfl) (by kernel_rfl) (fun _ _ _ h => h) (Or.inl ⟨by rfl, ?_⟩) (by assumption) ?_
      rotate_left
      · (intro w' hSw; (try dsimp only at hSw); go_simp <;> (with_reducible rfl))
      try simp only [Act.put, List.setIfInBounds_toArray, List.set_cons_zero, List.set_cons_succ]
      refine wpAnyH_take (i := 13) (oi := ⟨some 14, _, _, _, _, _⟩) (v := ?_) rfl (by kernel_rfl) (by kernel_rfl) (by kernel_rfl) (fun _ _ _ h => h) (Or.inl ⟨by rfl, ?_⟩) (by assumption) ?_
      rotate_left
      · (intro w' hSw; (try dsimp only at hSw); go_simp <;> (with_reducible rfl))
      try simp only [Act.put, List.setIfInBounds_toArray, List.set_cons_zero, List.set_cons_succ]
      refine wpAnyH_done (by kernel_rfl) ?_ _
      clear hHeld
      by_cases hs2 : ρ + σ = 2
      case neg =>
        have q3 : IntKind.i64.wrap (ρ + σ) = ρ + σ := IntWalk.i64_in _ (by omega)
        have t5 : (ρ + σ != 2) = true := by simpa using hs2
        clear HNE
        go_wp2_with fail
        go_ret
        exact ⟨rfl, HB.out⟩
      by_cases hc : ρ = 0
      case pos =>
        obtain rfl : ρ = 0 := by omega
        obtain rfl : σ = 2 := by omega
        have hd := HNE.out (by decide) (by decide)
        clear hs2 hc r9 s9
        have HD := hide hd
        clear hd HNE HSX HSY
        go_wp2_with fail
        refine (HBO.out i _ (by omega)).mono ?_
        rintro e_ w_908 ⟨g1, rfl, hI1, hb_908⟩
        replace HGP := hide (HGP.out.below hb_908)
        replace HX1 := hide (HX1.out.below hb_908)
        replace HX2 := hide (HX2.out.below hb_908)
        replace HB := hide (HB.out.trans (hb_908.mono HB.out.size))
        clear hb_908
        have HI1 := hide hI1
        clear hI1
        go_wp2_with fail
        refine (HBO.out j _ (by omega)).mono ?_
        rintro e_ w_909 ⟨g2, rfl, hI2, hb_909⟩
        replace HGP := hide (HGP.out.below hb_909)
        replace HX1 := hide (HX1.out.below hb_909)
        replace HX2 := hide (HX2.out.below hb_909)
        replace HI1 := hide (HI1.out.below hb_909)
        replace HB := hide (HB.out.trans (hb_909.mono HB.out.size))
        clear hb_909
        have HI2 := hide hI2
        clear hI2
        go_wp2_with fail
        go_loopw [17, 18] (fun d n wr => ∃ k : Nat, k ≤ m ∧ d = .int .i64 (difF m i j k) ∧ n = .int .i64 (k : Int) ∧ Hid (IntsAt wr 0 (some ⟨g1, 0, none⟩) m (labF m i)) ∧ Hid (IntsAt wr 0 (some ⟨g2, 0, none⟩) m (labF m j)) ∧ Hid (Below w.heap.size w wr)) (fun _ n _ => m - (Go.RowKit.intOf n).toNat)
        case atStart => exact ⟨0, Nat.zero_le _, rfl, rfl, HI1, HI2, HB⟩
        case round =>
          clear HI1 HI2 HB HX1 HX2 HGP
          obtain ⟨k, hk, rfl, rfl, HI1, HI2, HB⟩ := hrel
          obtain ⟨wA, rfl⟩ : ∃ x : World, x = wr := ⟨_, rfl⟩
          by_cases hlt : k < m
          case neg =>
            obtain rfl : k = m := by omega
            have hltz : ¬ (k : Int) < (k : Int) := by omega
            rw [HD.out]
            clear HI1 HI2 HBO
            go_wp2_with fail
            go_ret
            exact ⟨rfl, HB.out⟩
          have hltz : (k : Int) < (m : Int) := by omega
          have HSTEP := hide (show difF m i j (k + 1) = difF m i j k + sizZ (labF m i k - labF m j k) from rfl)
          have hdl := difF_le m i j k
          have k0 := intsAt_cellK HI1.out hlt
          have k1 := intsAt_cellK HI2.out hlt
          have l0 := labF_bit m i k
          have l1 := labF_bit m j k
          simp only [Nat.zero_add] at k0 k1
          obtain ⟨d, hd⟩ : ∃ z, difF m i j k = z := ⟨_, rfl⟩
          obtain ⟨e0, he0⟩ : ∃ z, labF m i k = z := ⟨_, rfl⟩
          obtain ⟨e1, he1⟩ : ∃ z, labF m j k = z := ⟨_, rfl⟩
          rw [hd] at hdl ⊢
          rw [he0] at l0 k0
          rw [he1] at l1 k1
          rw [hd, he0, he1] at HSTEP
          have HE0 := hide he0
          have HE1 := hide he1
          clear hd he0 he1
          have lz : -1 ≤ e0 - e1 ∧ e0 - e1 ≤ 1 := by rcases l0 with rfl | rfl <;> rcases l1 with rfl | rfl <;> decide
          have q5 : IntKind.i64.wrap (e0 - e1) = e0 - e1 := IntWalk.i64_in _ (by omega)
          have HSD := hide (fun W => sizeZ_any (e0 - e1) W (by omega))
          have hsz : 0 ≤ sizZ (e0 - e1) ∧ sizZ (e0 - e1) ≤ 1 := by unfold sizZ; omega
          obtain ⟨t, ht⟩ : ∃ z, sizZ (e0 - e1) = z := ⟨_, rfl⟩
          rw [ht] at HSD HSTEP hsz
          have q6 : IntKind.i64.wrap (d + t) = d + t := IntWalk.i64_in _ (by omega)
          clear ht l0 l1 k0 k1
          go_upto_region 20 with fail
          refine wp_region_held_drew (S := fun w' => w'.cell? ⟨g1, k, none⟩ = some (.int .i64 e0) ∧ w'.cell? ⟨g2, k, none⟩ = some (.int .i64 e1)) (by kernel_rfl) ⟨by have := intsAt_cellK HI1.out hlt; rw [HE0.out, Nat.zero_add] at this; exact this, by have := intsAt_cellK HI2.out hlt; rw [HE1.out, Nat.zero_add] at this; exact this⟩ (fun hHeld => ?_)
          obtain ⟨w_910, hw_910⟩ : ∃ q : World, q = wA.drew := ⟨_, rfl⟩
          rw [← hw_910] at hHeld ⊢
          have hc_910 : Below wA.heap.size wA w_910 := by rw [hw_910]; exact (Below.refl _ _).drew
          clear hw_910
          replace HI1 := hide (HI1.out.below hc_910)
          replace HI2 := hide (HI2.out.below hc_910)
          replace HB := hide (HB.out.trans (hc_910.mono HB.out.size))
          clear hc_910
          refine wpAnyH_take (i := 0) (oi := ⟨some 146, _, _, _, _, _⟩) (v := ?_) rfl (by kernel_rfl) (by kernel_rfl) (by kernel_rfl) (fun _ _ _ h => h) (Or.inl ⟨by rfl, ?_⟩) (by assumption) ?_
          rotate_left
          · (intro w' hSw; (try dsimp only at hSw); go_simp <;> (with_reducible rfl))
          try simp only [Act.put, List.setIfInBounds_toArray, List.set_cons_zero, List.set_cons_succ]
          refine wpAnyH_take (i := 1) (oi := ⟨some 147, _, _, _, _, _⟩) (v := ?_) rfl (by kernel_rfl) (by kernel_rfl) (by kernel_rfl) (fun _ _ _ h => h) (Or.inl ⟨by rfl, ?_⟩) (by assumption) ?_
          rotate_left
          · (intro w' hSw; (try dsimp only at hSw); go_simp <;> (with_reducible rfl))
          try simp only [Act.put, List.setIfInBounds_toArray, List.set_cons_zero, List.set_cons_succ]
          refine wpAnyH_take (i := 2) (oi := ⟨some 148, _, _, _, _, _⟩) (v := ?_) rfl (by kernel_rfl) (by kernel_rfl) (by kernel_rfl) (fun _ _ _ h => h) (Or.inl ⟨by rfl, ?_⟩) (by assumption) ?_
          rotate_left
          · (intro w' hSw; (try dsimp only at hSw); go_simp <;> (with_reducible rfl))
          try simp only [Act.put, List.setIfInBounds_toArray, List.set_cons_zero, List.set_cons_succ]
          refine wpAnyH_take (i := 3) (oi := ⟨some 149, _, _, _, _, _⟩) (v := ?_) rfl (by kernel_rfl) (by kernel_rfl) (by kernel_rfl) (fun _ _ _ h => h) (Or.inl ⟨by rfl, ?_⟩) (by assumption) ?_
          rotate_left
          · (intro w' hSw; (try dsimp only at hSw); go_simp <;> (with_reducible rfl))
          try simp only [Act.put, List.setIfInBounds_toArray, List.set_cons_zero, List.set_cons_succ]
          refine wpAnyH_take (i := 4) (oi := ⟨some 150, _, _, _, _, _⟩) (v := ?_) rfl (by kernel_rfl) (by kernel_rfl) (by kernel_rfl) (fun _ _ _ h => h) (Or.inl ⟨by rfl, ?_⟩) (by assumption) ?_
          rotate_left
          · (intro w' hSw; (try dsimp only at hSw); go_simp <;> (with_reducible rfl))
          try simp only [Act.put, List.setIfInBounds_toArray, List.set_cons_zero, List.set_cons_succ]
          refine wpAnyH_take (i := 5) (oi := ⟨some 151, _, _, _, _, _⟩) (v := ?_) rfl (by kernel_rfl) (by kernel_rfl) (by kernel_rfl) (fun _ _ _ h => h) (Or.inl ⟨by rfl, ?_⟩) (by assumption) ?_
          rotate_left
          · (intro w' hSw; (try dsimp only at hSw); go_simp <;> (with_reducible rfl))
          try simp only [Act.put, List.setIfInBounds_toArray, List.set_cons_zero, List.set_cons_succ]
          refine wpAnyH_take (i := 6) (oi := ⟨some 152, _, _, _, _, _⟩) (v := ?_) rfl (by kernel_rfl) (by kernel_rfl) (by kernel_rfl) (fun _ _ _ h => h) (Or.inl ⟨by rfl, ?_⟩) (by assumption) ?_
          rotate_left
          · (intro w' hSw; (try dsimp only at hSw); go_simp <;> (with_reducible rfl))
          try simp only [Act.put, List.setIfInBounds_toArray, List.set_cons_zero, List.set_cons_succ]
          refine wpAnyH_take (i := 7) (oi := ⟨some 153, _, _, _, _, _⟩) (v := ?_) rfl (by kernel_rfl) (by kernel_rfl) (by kernel_rfl) (fun _ _ _ h => h) (Or.inl ⟨by rfl, ?_⟩) (by assumption) ?_
          rotate_left
          · (intro w' hSw; (try dsimp only at hSw); go_simp <;> (with_reducible rfl))
          try simp only [Act.put, List.setIfInBounds_toArray, List.set_cons_zero, List.set_cons_succ]
          refine wpAnyH_take (i := 8) (oi := ⟨some 154, _, _, _, _, _⟩) (v := ?_) rfl (by kernel_rfl) (by kernel_rfl) (by kernel_rfl) (fun _ _ _ h => h) (Or.inl ⟨by rfl, ?_⟩) (by assumption) ?_
          rotate_left
          · (intro w' hSw; (try dsimp only at hSw); go_simp <;> (with_reducible rfl))
          try simp only [Act.put, List.setIfInBounds_toArray, List.set_cons_zero, List.set_cons_succ]
          refine wpAnyH_take (i := 9) (oi := ⟨some 155, _, _, _, _, _⟩) (v := ?_) rfl (by kernel_rfl) (by kernel_rfl) (by kernel_rfl) (fun _ _ _ h => h) (Or.inl ⟨by rfl, ?_⟩) (by assumption) ?_
          rotate_left
          · (intro w' hSw; (try dsimp only at hSw); go_simp <;> (with_reducible rfl))
          try simp only [Act.put, List.setIfInBounds_toArray, List.set_cons_zero, List.set_cons_succ]
          refine wpAnyH_ready (rs := [10]) (by kernel_rfl) (by simp) ?_
          refine AllReadyH.cons (o := ⟨some 156, _, _, _, _, _⟩) rfl (fun K' hK => ?_) AllReadyH.nil
          go_simp
          go_at_call 47
          refine (HSD.out _).mono ?_
          rintro e_ v_ ⟨rfl, rfl⟩
          go_wp2_with fail
          refine hK.out _ _ ⟨by have := intsAt_cellK HI1.out hlt; rw [HE0.out, Nat.zero_add] at this; exact this, by have := intsAt_cellK HI2.out hlt; rw [HE1.out, Nat.zero_add] at this; exact this⟩ (fun hHeld => ?_)
          clear hK K'
          try simp only [Act.put, List.setIfInBounds_toArray, List.set_cons_zero, List.set_cons_succ]
          refine wpAnyH_take (i := 11) (oi := ⟨some 157, _, _, _, _, _⟩) (v := ?_) rfl (by kernel_rfl) (by kernel_rfl) (by kernel_rfl) (fun _ _ _ h => h) (Or.inl ⟨by rfl, ?_⟩) (by assumption) ?_
          rotate_left
          · (intro w' hSw; (try dsimp only at hSw); go_simp <;> (with_reducible rfl))
          try simp only [Act.put, List.setIfInBounds_toArray, List.set_cons_zero, List.set_cons_succ]
          refine wpAnyH_take (i := 12) (oi := ⟨some 17, _, _, _, _, _⟩) (v := ?_) rfl (by kernel_rfl) (by kernel_rfl) (by kernel_rfl) (fun _ _ _ h => h) (Or.inl ⟨by rfl, ?_⟩) (by assumption) ?_
          rotate_left
          · (intro w' hSw; (try dsimp only at hSw); go_simp <;> (with_reducible rfl))
          try simp only [Act.put, List.setIfInBounds_toArray, List.set_cons_zero, List.set_cons_succ]
          refine wpAnyH_done (by kernel_rfl) ?_ _
          clear hHeld HSD
          go_wp2_with fail
          go_roundw
          case rel => exact ⟨k + 1, by omega, by rw [HSTEP.out] <;> first | rfl | go_num, by go_num, HI1, HI2, HB⟩
          case measure => simp [Go.RowKit.intOf] <;> omega
      by_cases hc : σ = 0
      case pos =>
        obtain rfl : ρ = 2 := by omega
        obtain rfl : σ = 0 := by omega
        have hd := HNE.out (by decide) (by decide)
        clear hs2 hc r9 s9
        have HD := hide hd
        clear hd HNE HSX HSY
        go_wp2_with fail
        refine (HBO.out i _ (by omega)).mono ?_
        rintro e_ w_911 ⟨g1, rfl, hI1, hb_911⟩
        replace HGP := hide (HGP.out.below hb_911)
        replace HX1 := hide (HX1.out.below hb_911)
        replace HX2 := hide (HX2.out.below hb_911)
        replace HB := hide (HB.out.trans (hb_911.mono HB.out.size))
        clear hb_911
        have HI1 := hide hI1
        clear hI1
        go_wp2_with fail
        refine (HBO.out j _ (by omega)).mono ?_
        rintro e_ w_912 ⟨g2, rfl, hI2, hb_912⟩
        replace HGP := hide (HGP.out.below hb_912)
        replace HX1 := hide (HX1.out.below hb_912)
        replace HX2 := hide (HX2.out.below hb_912)
        replace HI1 := hide (HI1.out.below hb_912)
        replace HB := hide (HB.out.trans (hb_912.mono HB.out.size))
        clear hb_912
        have HI2 := hide hI2
        clear hI2
        go_wp2_with fail
        go_loopw [17, 18] (fun d n wr => ∃ k : Nat, k ≤ m ∧ d = .int .i64 (difF m i j k) ∧ n = .int .i64 (k : Int) ∧ Hid (IntsAt wr 0 (some ⟨g1, 0, none⟩) m (labF m i)) ∧ Hid (IntsAt wr 0 (some ⟨g2, 0, none⟩) m (labF m j)) ∧ Hid (Below w.heap.size w wr)) (fun _ n _ => m - (Go.RowKit.intOf n).toNat)
        case atStart => exact ⟨0, Nat.zero_le _, rfl, rfl, HI1, HI2, HB⟩
        case round =>
          clear HI1 HI2 HB HX1 HX2 HGP
          obtain ⟨k, hk, rfl, rfl, HI1, HI2, HB⟩ := hrel
          obtain ⟨wA, rfl⟩ : ∃ x : World, x = wr := ⟨_, rfl⟩
          by_cases hlt : k < m
          case neg =>
            obtain rfl : k = m := by omega
            have hltz : ¬ (k : Int) < (k : Int) := by omega
            rw [HD.out]
            clear HI1 HI2 HBO
            go_wp2_with fail
            go_ret
            exact ⟨rfl, HB.out⟩
          have hltz : (k : Int) < (m : Int) := by omega
          have HSTEP := hide (show difF m i j (k + 1) = difF m i j k + sizZ (labF m i k - labF m j k) from rfl)
          have hdl := difF_le m i j k
          have k0 := intsAt_cellK HI1.out hlt
          have k1 := intsAt_cellK HI2.out hlt
          have l0 := labF_bit m i k
          have l1 := labF_bit m j k
          simp only [Nat.zero_add] at k0 k1
          obtain ⟨d, hd⟩ : ∃ z, difF m i j k = z := ⟨_, rfl⟩
          obtain ⟨e0, he0⟩ : ∃ z, labF m i k = z := ⟨_, rfl⟩
          obtain ⟨e1, he1⟩ : ∃ z, labF m j k = z := ⟨_, rfl⟩
          rw [hd] at hdl ⊢
          rw [he0] at l0 k0
          rw [he1] at l1 k1
          rw [hd, he0, he1] at HSTEP
          have HE0 := hide he0
          have HE1 := hide he1
          clear hd he0 he1
          have lz : -1 ≤ e0 - e1 ∧ e0 - e1 ≤ 1 := by rcases l0 with rfl | rfl <;> rcases l1 with rfl | rfl <;> decide
          have q5 : IntKind.i64.wrap (e0 - e1) = e0 - e1 := IntWalk.i64_in _ (by omega)
          have HSD := hide (fun W => sizeZ_any (e0 - e1) W (by omega))
          have hsz : 0 ≤ sizZ (e0 - e1) ∧ sizZ (e0 - e1) ≤ 1 := by unfold sizZ; omega
          obtain ⟨t, ht⟩ : ∃ z, sizZ (e0 - e1) = z := ⟨_, rfl⟩
          rw [ht] at HSD HSTEP hsz
          have q6 : IntKind.i64.wrap (d + t) = d + t := IntWalk.i64_in _ (by omega)
          clear ht l0 l1 k0 k1
          go_upto_region 20 with fail
          refine wp_region_held_drew (S := fun w' => w'.cell? ⟨g1, k, none⟩ = some (.int .i64 e0) ∧ w'.cell? ⟨g2, k, none⟩ = some (.int .i64 e1)) (by kernel_rfl) ⟨by have := intsAt_cellK HI1.out hlt; rw [HE0.out, Nat.zero_add] at this; exact this, by have := intsAt_cellK HI2.out hlt; rw [HE1.out, Nat.zero_add] at this; exact this⟩ (fun hHeld => ?_)
          obtain ⟨w_913, hw_913⟩ : ∃ q : World, q = wA.drew := ⟨_, rfl⟩
          rw [← hw_913] at hHeld ⊢
          have hc_913 : Below wA.heap.size wA w_913 := by rw [hw_913]; exact (Below.refl _ _).drew
          clear hw_913
          replace HI1 := hide (HI1.out.below hc_913)
          replace HI2 := hide (HI2.out.below hc_913)
          replace HB := hide (HB.out.trans (hc_913.mono HB.out.size))
          clear hc_913
          refine wpAnyH_take (i := 0) (oi := ⟨some 146, _, _, _, _, _⟩) (v := ?_) rfl (by kernel_rfl) (by kernel_rfl) (by kernel_rfl) (fun _ _ _ h => h) (Or.inl ⟨by rfl, ?_⟩) (by assumption) ?_
          rotate_left
          · (intro w' hSw; (try dsimp only at hSw); go_simp <;> (with_reducible rfl))
          try simp only [Act.put, List.setIfInBounds_toArray, List.set_cons_zero, List.set_cons_succ]
          refine wpAnyH_take (i := 1) (oi := ⟨some 147, _, _, _, _, _⟩) (v := ?_) rfl (by kernel_rfl) (by kernel_rfl) (by kernel_rfl) (fun _ _ _ h => h) (Or.inl ⟨by rfl, ?_⟩) (by assumption) ?_
          rotate_left
          · (intro w' hSw; (try dsimp only at hSw); go_simp <;> (with_reducible rfl))
          try simp only [Act.put, List.setIfInBounds_toArray, List.set_cons_zero, List.set_cons_succ]
          refine wpAnyH_take (i := 2) (oi := ⟨some 148, _, _, _, _, _⟩) (v := ?_) rfl (by kernel_rfl) (by kernel_rfl) (by kernel_rfl) (fun _ _ _ h => h) (Or.inl ⟨by rfl, ?_⟩) (by assumption) ?_
          rotate_left
          · (intro w' hSw; (try dsimp only at hSw); go_simp <;> (with_reducible rfl))
          try simp only [Act.put, List.setIfInBounds_toArray, List.set_cons_zero, List.set_cons_succ]
          refine wpAnyH_take (i := 3) (oi := ⟨some 149, _, _, _, _, _⟩) (v := ?_) rfl (by kernel_rfl) (by kernel_rfl) (by kernel_rfl) (fun _ _ _ h => h) (Or.inl ⟨by rfl, ?_⟩) (by assumption) ?_
          rotate_left
          · (intro w' hSw; (try dsimp only at hSw); go_simp <;> (with_reducible rfl))
          try simp only [Act.put, List.setIfInBounds_toArray, List.set_cons_zero, List.set_cons_succ]
          refine wpAnyH_take (i := 4) (oi := ⟨some 150, _, _, _, _, _⟩) (v := ?_) rfl (by kernel_rfl) (by kernel_rfl) (by kernel_rfl) (fun _ _ _ h => h) (Or.inl ⟨by rfl, ?_⟩) (by assumption) ?_
          rotate_left
          · (intro w' hSw; (try dsimp only at hSw); go_simp <;> (with_reducible rfl))
          try simp only [Act.put, List.setIfInBounds_toArray, List.set_cons_zero, List.set_cons_succ]
          refine wpAnyH_take (i := 5) (oi := ⟨some 151, _, _, _, _, _⟩) (v := ?_) rfl (by kernel_rfl) (by kernel_rfl) (by kernel_rfl) (fun _ _ _ h => h) (Or.inl ⟨by rfl, ?_⟩) (by assumption) ?_
          rotate_left
          · (intro w' hSw; (try dsimp only at hSw); go_simp <;> (with_reducible rfl))
          try simp only [Act.put, List.setIfInBounds_toArray, List.set_cons_zero, List.set_cons_succ]
          refine wpAnyH_take (i := 6) (oi := ⟨some 152, _, _, _, _, _⟩) (v := ?_) rfl (by kernel_rfl) (by kernel_rfl) (by kernel_rfl) (fun _ _ _ h => h) (Or.inl ⟨by rfl, ?_⟩) (by assumption) ?_
          rotate_left
          · (intro w' hSw; (try dsimp only at hSw); go_simp <;> (with_reducible rfl))
          try simp only [Act.put, List.setIfInBounds_toArray, List.set_cons_zero, List.set_cons_succ]
          refine wpAnyH_take (i := 7) (oi := ⟨some 153, _, _, _, _, _⟩) (v := ?_) rfl (by kernel_rfl) (by kernel_rfl) (by kernel_rfl) (fun _ _ _ h => h) (Or.inl ⟨by rfl, ?_⟩) (by assumption) ?_
          rotate_left
          · (intro w' hSw; (try dsimp only at hSw); go_simp <;> (with_reducible rfl))
          try simp only [Act.put, List.setIfInBounds_toArray, List.set_cons_zero, List.set_cons_succ]
          refine wpAnyH_take (i := 8) (oi := ⟨some 154, _, _, _, _, _⟩) (v := ?_) rfl (by kernel_rfl) (by kernel_rfl) (by kernel_rfl) (fun _ _ _ h => h) (Or.inl ⟨by rfl, ?_⟩) (by assumption) ?_
          rotate_left
          · (intro w' hSw; (try dsimp only at hSw); go_simp <;> (with_reducible rfl))
          try simp only [Act.put, List.setIfInBounds_toArray, List.set_cons_zero, List.set_cons_succ]
          refine wpAnyH_take (i := 9) (oi := ⟨some 155, _, _, _, _, _⟩) (v := ?_) rfl (by kernel_rfl) (by kernel_rfl) (by kernel_rfl) (fun _ _ _ h => h) (Or.inl ⟨by rfl, ?_⟩) (by assumption) ?_
          rotate_left
          · (intro w' hSw; (try dsimp only at hSw); go_simp <;> (with_reducible rfl))
          try simp only [Act.put, List.setIfInBounds_toArray, List.set_cons_zero, List.set_cons_succ]
          refine wpAnyH_ready (rs := [10]) (by kernel_rfl) (by simp) ?_
          refine AllReadyH.cons (o := ⟨some 156, _, _, _, _, _⟩) rfl (fun K' hK => ?_) AllReadyH.nil
          go_simp
          go_at_call 47
          refine (HSD.out _).mono ?_
          rintro e_ v_ ⟨rfl, rfl⟩
          go_wp2_with fail
          refine hK.out _ _ ⟨by have := intsAt_cellK HI1.out hlt; rw [HE0.out, Nat.zero_add] at this; exact this, by have := intsAt_cellK HI2.out hlt; rw [HE1.out, Nat.zero_add] at this; exact this⟩ (fun hHeld => ?_)
          clear hK K'
          try simp only [Act.put, List.setIfInBounds_toArray, List.set_cons_zero, List.set_cons_succ]
          refine wpAnyH_take (i := 11) (oi := ⟨some 157, _, _, _, _, _⟩) (v := ?_) rfl (by kernel_rfl) (by kernel_rfl) (by kernel_rfl) (fun _ _ _ h => h) (Or.inl ⟨by rfl, ?_⟩) (by assumption) ?_
          rotate_left
          · (intro w' hSw; (try dsimp only at hSw); go_simp <;> (with_reducible rfl))
          try simp only [Act.put, List.setIfInBounds_toArray, List.set_cons_zero, List.set_cons_succ]
          refine wpAnyH_take (i := 12) (oi := ⟨some 17, _, _, _, _, _⟩) (v := ?_) rfl (by kernel_rfl) (by kernel_rfl) (by kernel_rfl) (fun _ _ _ h => h) (Or.inl ⟨by rfl, ?_⟩) (by assumption) ?_
          rotate_left
          · (intro w' hSw; (try dsimp only at hSw); go_simp <;> (with_reducible rfl))
          try simp only [Act.put, List.setIfInBounds_toArray, List.set_cons_zero, List.set_cons_succ]
          refine wpAnyH_done (by kernel_rfl) ?_ _
          clear hHeld HSD
          go_wp2_with fail
          go_roundw
          case rel => exact ⟨k + 1, by omega, by rw [HSTEP.out] <;> first | rfl | go_num, by go_num, HI1, HI2, HB⟩
          case measure => simp [Go.RowKit.intOf] <;> omega
      obtain rfl : ρ = 1 := by omega
      obtain rfl : σ = 1 := by omega
      clear HNE hs2
      go_wp2_with fail
      go_ret
      exact ⟨rfl, HB.out⟩
    clear hap hij
    obtain ⟨z0, z1, zf0, zf1, hlz⟩ := HX1.out.t2
    obtain ⟨u0, u1, uf0, uf1, hlu⟩ := HX2.out.t2
    go_wp2_with fail
    refine (HMX.out _).mono ?_
    rintro e_ v_ ⟨rfl, rfl⟩
    go_wp2_with fail
    refine (HMY.out _).mono ?_
    rintro e_ v_ ⟨rfl, rfl⟩
    go_wp2_with fail
    refine (HWx1.out _).mono ?_
    rintro e_ v_ ⟨rfl, rfl⟩
    go_wp2_with fail
    refine (HWy1.out _).mono ?_
    rintro e_ v_ ⟨rfl, rfl⟩
    go_wp2_with fail
    refine (HWx2.out _).mono ?_
    rintro e_ v_ ⟨rfl, rfl⟩
    go_wp2_with fail
    refine (HWy2.out _).mono ?_
    rintro e_ v_ ⟨rfl, rfl⟩
    go_upto_region 12 with fail
    clear z0 z1 zf0 zf1 hlz u0 u1 uf0 uf1 hlu HMX HMY HWx1 HWy1 HWx2 HWy2
    refine wp_region_held_drew (S := fun w' => w'.cell? ⟨b11, 0, none⟩ = some (.int .i64 x1) ∧ w'.cell? ⟨b11, 1, none⟩ = some (.int .i64 y1) ∧ w'.cell? ⟨b12, 0, none⟩ = some (.int .i64 x2) ∧ w'.cell? ⟨b12, 1, none⟩ = some (.int .i64 y2)) (by kernel_rfl) ⟨HX1.out.t2.1, HX1.out.t2.2.1, HX2.out.t2.1, HX2.out.t2.2.1⟩ (fun hHeld => ?_)
    obtain ⟨w_914, hw_914⟩ : ∃ q : World, q = w_905.drew := ⟨_, rfl⟩
    rw [← hw_914] at hHeld ⊢
    have hc_914 : Below w_905.heap.size w_905 w_914 := by rw [hw_914]; exact (Below.refl _ _).drew
    clear hw_914
    replace HGP := hide (HGP.out.below hc_914)
    replace HX1 := hide (HX1.out.below hc_914)
    replace HX2 := hide (HX2.out.below hc_914)
    replace HB := hide (HB.out.trans (hc_914.mono HB.out.size))
    clear hc_914
    refine wpAnyH_take (i := 0) (oi := ⟨some 111, _, _, _, _, _⟩) (v := ?_) rfl (by kernel_rfl) (by kernel_rfl) (by kernel_rfl) (fun _ _ _ h => h) (Or.inl ⟨by rfl, ?_⟩) (by assumption) ?_
    rotate_left
    · (intro w' hSw; (try dsimp only at hSw); go_simp <;> (with_reducible rfl))
    try simp only [Act.put, List.setIfInBounds_toArray, List.set_cons_zero, List.set_cons_succ]
    refine wpAnyH_take (i := 1) (oi := ⟨some 112, _, _, _, _, _⟩) (v := ?_) rfl (by kernel_rfl) (by kernel_rfl) (by kernel_rfl) (fun _ _ _ h => h) (Or.inl ⟨by rfl, ?_⟩) (by assumption) ?_
    rotate_left
    · (intro w' hSw; (try dsimp only at hSw); go_simp <;> (with_reducible rfl))
    try simp only [Act.put, List.setIfInBounds_toArray, List.set_cons_zero, List.set_cons_succ]
    refine wpAnyH_take (i := 2) (oi := ⟨some 113, _, _, _, _, _⟩) (v := ?_) rfl (by kernel_rfl) (by kernel_rfl) (by kernel_rfl) (fun _ _ _ h => h) (Or.inl ⟨by rfl, ?_⟩) (by assumption) ?_
    rotate_left
    · (intro w' hSw; (try dsimp only at hSw); go_simp <;> (with_reducible rfl))
    try simp only [Act.put, List.setIfInBounds_toArray, List.set_cons_zero, List.set_cons_succ]
    refine wpAnyH_take (i := 3) (oi := ⟨some 114, _, _, _, _, _⟩) (v := ?_) rfl (by kernel_rfl) (by kernel_rfl) (by kernel_rfl) (fun _ _ _ h => h) (Or.inl ⟨by rfl, ?_⟩) (by assumption) ?_
    rotate_left
    · (intro w' hSw; (try dsimp only at hSw); go_simp <;> (with_reducible rfl))
    try simp only [Act.put, List.setIfInBounds_toArray, List.set_cons_zero, List.set_cons_succ]
    refine wpAnyH_take (i := 4) (oi := ⟨some 115, _, _, _, _, _⟩) (v := ?_) rfl (by kernel_rfl) (by kernel_rfl) (by kernel_rfl) (fun _ _ _ h => h) (Or.inl ⟨by rfl, ?_⟩) (by assumption) ?_
    rotate_left
    · (intro w' hSw; (try dsimp only at hSw); go_simp <;> (with_reducible rfl))
    try simp only [Act.put, List.setIfInBounds_toArray, List.set_cons_zero, List.set_cons_succ]
    refine wpAnyH_take (i := 6) (oi := ⟨some 117, _, _, _, _, _⟩) (v := ?_) rfl (by kernel_rfl) (by kernel_rfl) (by kernel_rfl) (fun _ _ _ h => h) (Or.inl ⟨by rfl, ?_⟩) (by assumption) ?_
    rotate_left
    · (intro w' hSw; (try dsimp only at hSw); go_simp <;> (with_reducible rfl))
    try simp only [Act.put, List.setIfInBounds_toArray, List.set_cons_zero, List.set_cons_succ]
    refine wpAnyH_take (i := 7) (oi := ⟨some 118, _, _, _, _, _⟩) (v := ?_) rfl (by kernel_rfl) (by kernel_rfl) (by kernel_rfl) (fun _ _ _ h => h) (Or.inl ⟨by rfl, ?_⟩) (by assumption) ?_
    rotate_left
    · (intro w' hSw; (try dsimp only at hSw); go_simp <;> (with_reducible rfl))
    try simp only [Act.put, List.setIfInBounds_toArray, List.set_cons_zero, List.set_cons_succ]
    refine wpAnyH_take (i := 8) (oi := ⟨some 119, _, _, _, _, _⟩) (v := ?_) rfl (by kernel_rfl) (by kernel_rfl) (by kernel_rfl) (fun _ _ _ h => h) (Or.inl ⟨by rfl, ?_⟩) (by assumption) ?_
    rotate_left
    · (intro w' hSw; (try dsimp only at hSw); go_simp <;> (with_reducible rfl))
    try simp only [Act.put, List.setIfInBounds_toArray, List.set_cons_zero, List.set_cons_succ]
    refine wpAnyH_take (i := 9) (oi := ⟨some 120, _, _, _, _, _⟩) (v := ?_) rfl (by kernel_rfl) (by kernel_rfl) (by kernel_rfl) (fun _ _ _ h => h) (Or.inl ⟨by rfl, ?_⟩) (by assumption) ?_
    rotate_left
    · (intro w' hSw; (try dsimp only at hSw); go_simp <;> (with_reducible rfl))
    try simp only [Act.put, List.setIfInBounds_toArray, List.set_cons_zero, List.set_cons_succ]
    refine wpAnyH_take (i := 10) (oi := ⟨some 121, _, _, _, _, _⟩) (v := ?_) rfl (by kernel_rfl) (by kernel_rfl) (by kernel_rfl) (fun _ _ _ h => h) (Or.inl ⟨by rfl, ?_⟩) (by assumption) ?_
    rotate_left
    · (intro w' hSw; (try dsimp only at hSw); go_simp <;> (with_reducible rfl))
    try simp only [Act.put, List.setIfInBounds_toArray, List.set_cons_zero, List.set_cons_succ]
    refine wpAnyH_ready (rs := [5]) (by kernel_rfl) (by simp) ?_
    refine AllReadyH.cons (o := ⟨some 116, _, _, _, _, _⟩) rfl (fun K' hK => ?_) AllReadyH.nil
    go_simp
    go_at_call 47
    refine (HSX.out _).mono ?_
    rintro e_ v_ ⟨rfl, rfl⟩
    go_wp2_with fail
    refine hK.out _ _ ⟨HX1.out.t2.1, HX1.out.t2.2.1, HX2.out.t2.1, HX2.out.t2.2.1⟩ (fun hHeld => ?_)
    clear hK K'
    try simp only [Act.put, List.setIfInBounds_toArray, List.set_cons_zero, List.set_cons_succ]
    refine wpAnyH_ready (rs := [11]) (by kernel_rfl) (by simp) ?_
    refine AllReadyH.cons (o := ⟨some 122, _, _, _, _, _⟩) rfl (fun K' hK => ?_) AllReadyH.nil
    go_simp
    go_at_call 47
    refine (HSY.out _).mono ?_
    rintro e_ v_ ⟨rfl, rfl⟩
    go_wp2_with fail
    refine hK.out _ _ ⟨HX1.out.t2.1, HX1.out.t2.2.1, HX2.out.t2.1, HX2.out.t2.2.1⟩ (fun hHeld => ?_)
    clear hK K'
    try simp only [Act.put, List.setIfInBounds_toArray, List.set_cons_zero, List.set_cons_succ]
    refine wpAnyH_take (i := 12) (oi := ⟨some 13, _, _, _, _, _⟩) (v := ?_) rfl (by kernel_rfl) (by kernel_rfl) (by kernel_rfl) (fun _ _ _ h => h) (Or.inl ⟨by rfl, ?_⟩) (by assumption) ?_
    rotate_left
    · (intro w' hSw; (try dsimp only at hSw); go_simp <;> (with_reducible rfl))
    try simp only [Act.put, List.setIfInBounds_toArray, List.set_cons_zero, List.set_cons_succ]
    refine wpAnyH_take (i := 13) (oi := ⟨some 14, _, _, _, _, _⟩) (v := ?_) rfl (by kernel_rfl) (by kernel_rfl) (by kernel_rfl) (fun _ _ _ h => h) (Or.inl ⟨by rfl, ?_⟩) (by assumption) ?_
    rotate_left
    · (intro w' hSw; (try dsimp only at hSw); go_simp <;> (with_reducible rfl))
    try simp only [Act.put, List.setIfInBounds_toArray, List.set_cons_zero, List.set_cons_succ]
    refine wpAnyH_done (by kernel_rfl) ?_ _
    clear hHeld
    by_cases hs2 : ρ + σ = 2
    case neg =>
      have q3 : IntKind.i64.wrap (ρ + σ) = ρ + σ := IntWalk.i64_in _ (by omega)
      have t5 : (ρ + σ != 2) = true := by simpa using hs2
      clear HNE
      go_wp2_with fail
      go_ret
      exact ⟨rfl, HB.out⟩
    by_cases hc : ρ = 0
    case pos =>
      obtain rfl : ρ = 0 := by omega
      obtain rfl : σ = 2 := by omega
      have hd := HNE.out (by decide) (by decide)
      clear hs2 hc r9 s9
      have HD := hide hd
      clear hd HNE HSX HSY
      go_wp2_with fail
      refine (HBO.out i _ (by omega)).mono ?_
      rintro e_ w_915 ⟨g1, rfl, hI1, hb_915⟩
      replace HGP := hide (HGP.out.below hb_915)
      replace HX1 := hide (HX1.out.below hb_915)
      replace HX2 := hide (HX2.out.below hb_915)
      replace HB := hide (HB.out.trans (hb_915.mono HB.out.size))
      clear hb_915
      have HI1 := hide hI1
      clear hI1
      go_wp2_with fail
      refine (HBO.out j _ (by omega)).mono ?_
      rintro e_ w_916 ⟨g2, rfl, hI2, hb_916⟩
      replace HGP := hide (HGP.out.below hb_916)
      replace HX1 := hide (HX1.out.below hb_916)
      replace HX2 := hide (HX2.out.below hb_916)
      replace HI1 := hide (HI1.out.below hb_916)
      replace HB := hide (HB.out.trans (hb_916.mono HB.out.size))
      clear hb_916
      have HI2 := hide hI2
      clear hI2
      go_wp2_with fail
      go_loopw [17, 18] (fun d n wr => ∃ k : Nat, k ≤ m ∧ d = .int .i64 (difF m i j k) ∧ n = .int .i64 (k : Int) ∧ Hid (IntsAt wr 0 (some ⟨g1, 0, none⟩) m (labF m i)) ∧ Hid (IntsAt wr 0 (some ⟨g2, 0, none⟩) m (labF m j)) ∧ Hid (Below w.heap.size w wr)) (fun _ n _ => m - (Go.RowKit.intOf n).toNat)
      case atStart => exact ⟨0, Nat.zero_le _, rfl, rfl, HI1, HI2, HB⟩
      case round =>
        clear HI1 HI2 HB HX1 HX2 HGP
        obtain ⟨k, hk, rfl, rfl, HI1, HI2, HB⟩ := hrel
        obtain ⟨wA, rfl⟩ : ∃ x : World, x = wr := ⟨_, rfl⟩
        by_cases hlt : k < m
        case neg =>
          obtain rfl : k = m := by omega
          have hltz : ¬ (k : Int) < (k : Int) := by omega
          rw [HD.out]
          clear HI1 HI2 HBO
          go_wp2_with fail
          go_ret
          exact ⟨rfl, HB.out⟩
        have hltz : (k : Int) < (m : Int) := by omega
        have HSTEP := hide (show difF m i j (k + 1) = difF m i j k + sizZ (labF m i k - labF m j k) from rfl)
        have hdl := difF_le m i j k
        have k0 := intsAt_cellK HI1.out hlt
        have k1 := intsAt_cellK HI2.out hlt
        have l0 := labF_bit m i k
        have l1 := labF_bit m j k
        simp only [Nat.zero_add] at k0 k1
        obtain ⟨d, hd⟩ : ∃ z, difF m i j k = z := ⟨_, rfl⟩
        obtain ⟨e0, he0⟩ : ∃ z, labF m i k = z := ⟨_, rfl⟩
        obtain ⟨e1, he1⟩ : ∃ z, labF m j k = z := ⟨_, rfl⟩
        rw [hd] at hdl ⊢
        rw [he0] at l0 k0
        rw [he1] at l1 k1
        rw [hd, he0, he1] at HSTEP
        have HE0 := hide he0
        have HE1 := hide he1
        clear hd he0 he1
        have lz : -1 ≤ e0 - e1 ∧ e0 - e1 ≤ 1 := by rcases l0 with rfl | rfl <;> rcases l1 with rfl | rfl <;> decide
        have q5 : IntKind.i64.wrap (e0 - e1) = e0 - e1 := IntWalk.i64_in _ (by omega)
        have HSD := hide (fun W => sizeZ_any (e0 - e1) W (by omega))
        have hsz : 0 ≤ sizZ (e0 - e1) ∧ sizZ (e0 - e1) ≤ 1 := by unfold sizZ; omega
        obtain ⟨t, ht⟩ : ∃ z, sizZ (e0 - e1) = z := ⟨_, rfl⟩
        rw [ht] at HSD HSTEP hsz
        have q6 : IntKind.i64.wrap (d + t) = d + t := IntWalk.i64_in _ (by omega)
        clear ht l0 l1 k0 k1
        go_upto_region 20 with fail
        refine wp_region_held_drew (S := fun w' => w'.cell? ⟨g1, k, none⟩ = some (.int .i64 e0) ∧ w'.cell? ⟨g2, k, none⟩ = some (.int .i64 e1)) (by kernel_rfl) ⟨by have := intsAt_cellK HI1.out hlt; rw [HE0.out, Nat.zero_add] at this; exact this, by have := intsAt_cellK HI2.out hlt; rw [HE1.out, Nat.zero_add] at this; exact this⟩ (fun hHeld => ?_)
        obtain ⟨w_917, hw_917⟩ : ∃ q : World, q = wA.drew := ⟨_, rfl⟩
        rw [← hw_917] at hHeld ⊢
        have hc_917 : Below wA.heap.size wA w_917 := by rw [hw_917]; exact (Below.refl _ _).drew
        clear hw_917
        replace HI1 := hide (HI1.out.below hc_917)
        replace HI2 := hide (HI2.out.below hc_917)
        replace HB := hide (HB.out.trans (hc_917.mono HB.out.size))
        clear hc_917
        refine wpAnyH_take (i := 0) (oi := ⟨some 146, _, _, _, _, _⟩) (v := ?_) rfl (by kernel_rfl) (by kernel_rfl) (by kernel_rfl) (fun _ _ _ h => h) (Or.inl ⟨by rfl, ?_⟩) (by assumption) ?_
        rotate_left
        · (intro w' hSw; (try dsimp only at hSw); go_simp <;> (with_reducible rfl))
        try simp only [Act.put, List.setIfInBounds_toArray, List.set_cons_zero, List.set_cons_succ]
        refine wpAnyH_take (i := 1) (oi := ⟨some 147, _, _, _, _, _⟩) (v := ?_) rfl (by kernel_rfl) (by kernel_rfl) (by kernel_rfl) (fun _ _ _ h => h) (Or.inl ⟨by rfl, ?_⟩) (by assumption) ?_
        rotate_left
        · (intro w' hSw; (try dsimp only at hSw); go_simp <;> (with_reducible rfl))
        try simp only [Act.put, List.setIfInBounds_toArray, List.set_cons_zero, List.set_cons_succ]
        refine wpAnyH_take (i := 2) (oi := ⟨some 148, _, _, _, _, _⟩) (v := ?_) rfl (by kernel_rfl) (by kernel_rfl) (by kernel_rfl) (fun _ _ _ h => h) (Or.inl ⟨by rfl, ?_⟩) (by assumption) ?_
        rotate_left
        · (intro w' hSw; (try dsimp only at hSw); go_simp <;> (with_reducible rfl))
        try simp only [Act.put, List.setIfInBounds_toArray, List.set_cons_zero, List.set_cons_succ]
        refine wpAnyH_take (i := 3) (oi := ⟨some 149, _, _, _, _, _⟩) (v := ?_) rfl (by kernel_rfl) (by kernel_rfl) (by kernel_rfl) (fun _ _ _ h => h) (Or.inl ⟨by rfl, ?_⟩) (by assumption) ?_
        rotate_left
        · (intro w' hSw; (try dsimp only at hSw); go_simp <;> (with_reducible rfl))
        try simp only [Act.put, List.setIfInBounds_toArray, List.set_cons_zero, List.set_cons_succ]
        refine wpAnyH_take (i := 4) (oi := ⟨some 150, _, _, _, _, _⟩) (v := ?_) rfl (by kernel_rfl) (by kernel_rfl) (by kernel_rfl) (fun _ _ _ h => h) (Or.inl ⟨by rfl, ?_⟩) (by assumption) ?_
        rotate_left
        · (intro w' hSw; (try dsimp only at hSw); go_simp <;> (with_reducible rfl))
        try simp only [Act.put, List.setIfInBounds_toArray, List.set_cons_zero, List.set_cons_succ]
        refine wpAnyH_take (i := 5) (oi := ⟨some 151, _, _, _, _, _⟩) (v := ?_) rfl (by kernel_rfl) (by kernel_rfl) (by kernel_rfl) (fun _ _ _ h => h) (Or.inl ⟨by rfl, ?_⟩) (by assumption) ?_
        rotate_left
        · (intro w' hSw; (try dsimp only at hSw); go_simp <;> (with_reducible rfl))
        try simp only [Act.put, List.setIfInBounds_toArray, List.set_cons_zero, List.set_cons_succ]
        refine wpAnyH_take (i := 6) (oi := ⟨some 152, _, _, _, _, _⟩) (v := ?_) rfl (by kernel_rfl) (by kernel_rfl) (by kernel_rfl) (fun _ _ _ h => h) (Or.inl ⟨by rfl, ?_⟩) (by assumption) ?_
        rotate_left
        · (intro w' hSw; (try dsimp only at hSw); go_simp <;> (with_reducible rfl))
        try simp only [Act.put, List.setIfInBounds_toArray, List.set_cons_zero, List.set_cons_succ]
        refine wpAnyH_take (i := 7) (oi := ⟨some 153, _, _, _, _, _⟩) (v := ?_) rfl (by kernel_rfl) (by kernel_rfl) (by kernel_rfl) (fun _ _ _ h => h) (Or.inl ⟨by rfl, ?_⟩) (by assumption) ?_
        rotate_left
        · (intro w' hSw; (try dsimp only at hSw); go_simp <;> (with_reducible rfl))
        try simp only [Act.put, List.setIfInBounds_toArray, List.set_cons_zero, List.set_cons_succ]
        refine wpAnyH_take (i := 8) (oi := ⟨some 154, _, _, _, _, _⟩) (v := ?_) rfl (by kernel_rfl) (by kernel_rfl) (by kernel_rfl) (fun _ _ _ h => h) (Or.inl ⟨by rfl, ?_⟩) (by assumption) ?_
        rotate_left
        · (intro w' hSw; (try dsimp only at hSw); go_simp <;> (with_reducible rfl))
        try simp only [Act.put, List.setIfInBounds_toArray, List.set_cons_zero, List.set_cons_succ]
        refine wpAnyH_take (i := 9) (oi := ⟨some 155, _, _, _, _, _⟩) (v := ?_) rfl (by kernel_rfl) (by kernel_rfl) (by kernel_rfl) (fun _ _ _ h => h) (Or.inl ⟨by rfl, ?_⟩) (by assumption) ?_
        rotate_left
        · (intro w' hSw; (try dsimp only at hSw); go_simp <;> (with_reducible rfl))
        try simp only [Act.put, List.setIfInBounds_toArray, List.set_cons_zero, List.set_cons_succ]
        refine wpAnyH_ready (rs := [10]) (by kernel_rfl) (by simp) ?_
        refine AllReadyH.cons (o := ⟨some 156, _, _, _, _, _⟩) rfl (fun K' hK => ?_) AllReadyH.nil
        go_simp
        go_at_call 47
        refine (HSD.out _).mono ?_
        rintro e_ v_ ⟨rfl, rfl⟩
        go_wp2_with fail
        refine hK.out _ _ ⟨by have := intsAt_cellK HI1.out hlt; rw [HE0.out, Nat.zero_add] at this; exact this, by have := intsAt_cellK HI2.out hlt; rw [HE1.out, Nat.zero_add] at this; exact this⟩ (fun hHeld => ?_)
        clear hK K'
        try simp only [Act.put, List.setIfInBounds_toArray, List.set_cons_zero, List.set_cons_succ]
        refine wpAnyH_take (i := 11) (oi := ⟨some 157, _, _, _, _, _⟩) (v := ?_) rfl (by kernel_rfl) (by kernel_rfl) (by kernel_rfl) (fun _ _ _ h => h) (Or.inl ⟨by rfl, ?_⟩) (by assumption) ?_
        rotate_left
        · (intro w' hSw; (try dsimp only at hSw); go_simp <;> (with_reducible rfl))
        try simp only [Act.put, List.setIfInBounds_toArray, List.set_cons_zero, List.set_cons_succ]
        refine wpAnyH_take (i := 12) (oi := ⟨some 17, _, _, _, _, _⟩) (v := ?_) rfl (by kernel_rfl) (by kernel_rfl) (by kernel_rfl) (fun _ _ _ h => h) (Or.inl ⟨by rfl, ?_⟩) (by assumption) ?_
        rotate_left
        · (intro w' hSw; (try dsimp only at hSw); go_simp <;> (with_reducible rfl))
        try simp only [Act.put, List.setIfInBounds_toArray, List.set_cons_zero, List.set_cons_succ]
        refine wpAnyH_done (by kernel_rfl) ?_ _
        clear hHeld HSD
        go_wp2_with fail
        go_roundw
        case rel => exact ⟨k + 1, by omega, by rw [HSTEP.out] <;> first | rfl | go_num, by go_num, HI1, HI2, HB⟩
        case measure => simp [Go.RowKit.intOf] <;> omega
    by_cases hc : σ = 0
    case pos =>
      obtain rfl : ρ = 2 := by omega
      obtain rfl : σ = 0 := by omega
      have hd := HNE.out (by decide) (by decide)
      clear hs2 hc r9 s9
      have HD := hide hd
      clear hd HNE HSX HSY
      go_wp2_with fail
      refine (HBO.out i _ (by omega)).mono ?_
      rintro e_ w_918 ⟨g1, rfl, hI1, hb_918⟩
      replace HGP := hide (HGP.out.below hb_918)
      replace HX1 := hide (HX1.out.below hb_918)
      replace HX2 := hide (HX2.out.below hb_918)
      replace HB := hide (HB.out.trans (hb_918.mono HB.out.size))
      clear hb_918
      have HI1 := hide hI1
      clear hI1
      go_wp2_with fail
      refine (HBO.out j _ (by omega)).mono ?_
      rintro e_ w_919 ⟨g2, rfl, hI2, hb_919⟩
      replace HGP := hide (HGP.out.below hb_919)
      replace HX1 := hide (HX1.out.below hb_919)
      replace HX2 := hide (HX2.out.below hb_919)
      replace HI1 := hide (HI1.out.below hb_919)
      replace HB := hide (HB.out.trans (hb_919.mono HB.out.size))
      clear hb_919
      have HI2 := hide hI2
      clear hI2
      go_wp2_with fail
      go_loopw [17, 18] (fun d n wr => ∃ k : Nat, k ≤ m ∧ d = .int .i64 (difF m i j k) ∧ n = .int .i64 (k : Int) ∧ Hid (IntsAt wr 0 (some ⟨g1, 0, none⟩) m (labF m i)) ∧ Hid (IntsAt wr 0 (some ⟨g2, 0, none⟩) m (labF m j)) ∧ Hid (Below w.heap.size w wr)) (fun _ n _ => m - (Go.RowKit.intOf n).toNat)
      case atStart => exact ⟨0, Nat.zero_le _, rfl, rfl, HI1, HI2, HB⟩
      case round =>
        clear HI1 HI2 HB HX1 HX2 HGP
        obtain ⟨k, hk, rfl, rfl, HI1, HI2, HB⟩ := hrel
        obtain ⟨wA, rfl⟩ : ∃ x : World, x = wr := ⟨_, rfl⟩
        by_cases hlt : k < m
        case neg =>
          obtain rfl : k = m := by omega
          have hltz : ¬ (k : Int) < (k : Int) := by omega
          rw [HD.out]
          clear HI1 HI2 HBO
          go_wp2_with fail
          go_ret
          exact ⟨rfl, HB.out⟩
        have hltz : (k : Int) < (m : Int) := by omega
        have HSTEP := hide (show difF m i j (k + 1) = difF m i j k + sizZ (labF m i k - labF m j k) from rfl)
        have hdl := difF_le m i j k
        have k0 := intsAt_cellK HI1.out hlt
        have k1 := intsAt_cellK HI2.out hlt
        have l0 := labF_bit m i k
        have l1 := labF_bit m j k
        simp only [Nat.zero_add] at k0 k1
        obtain ⟨d, hd⟩ : ∃ z, difF m i j k = z := ⟨_, rfl⟩
        obtain ⟨e0, he0⟩ : ∃ z, labF m i k = z := ⟨_, rfl⟩
        obtain ⟨e1, he1⟩ : ∃ z, labF m j k = z := ⟨_, rfl⟩
        rw [hd] at hdl ⊢
        rw [he0] at l0 k0
        rw [he1] at l1 k1
        rw [hd, he0, he1] at HSTEP
        have HE0 := hide he0
        have HE1 := hide he1
        clear hd he0 he1
        have lz : -1 ≤ e0 - e1 ∧ e0 - e1 ≤ 1 := by rcases l0 with rfl | rfl <;> rcases l1 with rfl | rfl <;> decide
        have q5 : IntKind.i64.wrap (e0 - e1) = e0 - e1 := IntWalk.i64_in _ (by omega)
        have HSD := hide (fun W => sizeZ_any (e0 - e1) W (by omega))
        have hsz : 0 ≤ sizZ (e0 - e1) ∧ sizZ (e0 - e1) ≤ 1 := by unfold sizZ; omega
        obtain ⟨t, ht⟩ : ∃ z, sizZ (e0 - e1) = z := ⟨_, rfl⟩
        rw [ht] at HSD HSTEP hsz
        have q6 : IntKind.i64.wrap (d + t) = d + t := IntWalk.i64_in _ (by omega)
        clear ht l0 l1 k0 k1
        go_upto_region 20 with fail
        refine wp_region_held_drew (S := fun w' => w'.cell? ⟨g1, k, none⟩ = some (.int .i64 e0) ∧ w'.cell? ⟨g2, k, none⟩ = some (.int .i64 e1)) (by kernel_rfl) ⟨by have := intsAt_cellK HI1.out hlt; rw [HE0.out, Nat.zero_add] at this; exact this, by have := intsAt_cellK HI2.out hlt; rw [HE1.out, Nat.zero_add] at this; exact this⟩ (fun hHeld => ?_)
        obtain ⟨w_920, hw_920⟩ : ∃ q : World, q = wA.drew := ⟨_, rfl⟩
        rw [← hw_920] at hHeld ⊢
        have hc_920 : Below wA.heap.size wA w_920 := by rw [hw_920]; exact (Below.refl _ _).drew
        clear hw_920
        replace HI1 := hide (HI1.out.below hc_920)
        replace HI2 := hide (HI2.out.below hc_920)
        replace HB := hide (HB.out.trans (hc_920.mono HB.out.size))
        clear hc_920
        refine wpAnyH_take (i := 0) (oi := ⟨some 146, _, _, _, _, _⟩) (v := ?_) rfl (by kernel_rfl) (by kernel_rfl) (by kernel_rfl) (fun _ _ _ h => h) (Or.inl ⟨by rfl, ?_⟩) (by assumption) ?_
        rotate_left
        · (intro w' hSw; (try dsimp only at hSw); go_simp <;> (with_reducible rfl))
        try simp only [Act.put, List.setIfInBounds_toArray, List.set_cons_zero, List.set_cons_succ]
        refine wpAnyH_take (i := 1) (oi := ⟨some 147, _, _, _, _, _⟩) (v := ?_) rfl (by kernel_rfl) (by kernel_rfl) (by kernel_rfl) (fun _ _ _ h => h) (Or.inl ⟨by rfl, ?_⟩) (by assumption) ?_
        rotate_left
        · (intro w' hSw; (try dsimp only at hSw); go_simp <;> (with_reducible rfl))
        try simp only [Act.put, List.setIfInBounds_toArray, List.set_cons_zero, List.set_cons_succ]
        refine wpAnyH_take (i := 2) (oi := ⟨some 148, _, _, _, _, _⟩) (v := ?_) rfl (by kernel_rfl) (by kernel_rfl) (by kernel_rfl) (fun _ _ _ h => h) (Or.inl ⟨by rfl, ?_⟩) (by assumption) ?_
        rotate_left
        · (intro w' hSw; (try dsimp only at hSw); go_simp <;> (with_reducible rfl))
        try simp only [Act.put, List.setIfInBounds_toArray, List.set_cons_zero, List.set_cons_succ]
        refine wpAnyH_take (i := 3) (oi := ⟨some 149, _, _, _, _, _⟩) (v := ?_) rfl (by kernel_rfl) (by kernel_rfl) (by kernel_rfl) (fun _ _ _ h => h) (Or.inl ⟨by rfl, ?_⟩) (by assumption) ?_
        rotate_left
        · (intro w' hSw; (try dsimp only at hSw); go_simp <;> (with_reducible rfl))
        try simp only [Act.put, List.setIfInBounds_toArray, List.set_cons_zero, List.set_cons_succ]
        refine wpAnyH_take (i := 4) (oi := ⟨some 150, _, _, _, _, _⟩) (v := ?_) rfl (by kernel_rfl) (by kernel_rfl) (by kernel_rfl) (fun _ _ _ h => h) (Or.inl ⟨by rfl, ?_⟩) (by assumption) ?_
        rotate_left
        · (intro w' hSw; (try dsimp only at hSw); go_simp <;> (with_reducible rfl))
        try simp only [Act.put, List.setIfInBounds_toArray, List.set_cons_zero, List.set_cons_succ]
        refine wpAnyH_take (i := 5) (oi := ⟨some 151, _, _, _, _, _⟩) (v := ?_) rfl (by kernel_rfl) (by kernel_rfl) (by kernel_rfl) (fun _ _ _ h => h) (Or.inl ⟨by rfl, ?_⟩) (by assumption) ?_
        rotate_left
        · (intro w' hSw; (try dsimp only at hSw); go_simp <;> (with_reducible rfl))
        try simp only [Act.put, List.setIfInBounds_toArray, List.set_cons_zero, List.set_cons_succ]
        refine wpAnyH_take (i := 6) (oi := ⟨some 152, _, _, _, _, _⟩) (v := ?_) rfl (by kernel_rfl) (by kernel_rfl) (by kernel_rfl) (fun _ _ _ h => h) (Or.inl ⟨by rfl, ?_⟩) (by assumption) ?_
        rotate_left
        · (intro w' hSw; (try dsimp only at hSw); go_simp <;> (with_reducible rfl))
        try simp only [Act.put, List.setIfInBounds_toArray, List.set_cons_zero, List.set_cons_succ]
        refine wpAnyH_take (i := 7) (oi := ⟨some 153, _, _, _, _, _⟩) (v := ?_) rfl (by kernel_rfl) (by kernel_rfl) (by kernel_rfl) (fun _ _ _ h => h) (Or.inl ⟨by rfl, ?_⟩) (by assumption) ?_
        rotate_left
        · (intro w' hSw; (try dsimp only at hSw); go_simp <;> (with_reducible rfl))
        try simp only [Act.put, List.setIfInBounds_toArray, List.set_cons_zero, List.set_cons_succ]
        refine wpAnyH_take (i := 8) (oi := ⟨some 154, _, _, _, _, _⟩) (v := ?_) rfl (by kernel_rfl) (by kernel_rfl) (by kernel_rfl) (fun _ _ _ h => h) (Or.inl ⟨by rfl, ?_⟩) (by assumption) ?_
        rotate_left
        · (intro w' hSw; (try dsimp only at hSw); go_simp <;> (with_reducible rfl))
        try simp only [Act.put, List.setIfInBounds_toArray, List.set_cons_zero, List.set_cons_succ]
        refine wpAnyH_take (i := 9) (oi := ⟨some 155, _, _, _, _, _⟩) (v := ?_) rfl (by kernel_rfl) (by kernel_rfl) (by kernel_rfl) (fun _ _ _ h => h) (Or.inl ⟨by rfl, ?_⟩) (by assumption) ?_
        rotate_left
        · (intro w' hSw; (try dsimp only at hSw); go_simp <;> (with_reducible rfl))
        try simp only [Act.put, List.setIfInBounds_toArray, List.set_cons_zero, List.set_cons_succ]
        refine wpAnyH_ready (rs := [10]) (by kernel_rfl) (by simp) ?_
        refine AllReadyH.cons (o := ⟨some 156, _, _, _, _, _⟩) rfl (fun K' hK => ?_) AllReadyH.nil
        go_simp
        go_at_call 47
        refine (HSD.out _).mono ?_
        rintro e_ v_ ⟨rfl, rfl⟩
        go_wp2_with fail
        refine hK.out _ _ ⟨by have := intsAt_cellK HI1.out hlt; rw [HE0.out, Nat.zero_add] at this; exact this, by have := intsAt_cellK HI2.out hlt; rw [HE1.out, Nat.zero_add] at this; exact this⟩ (fun hHeld => ?_)
        clear hK K'
        try simp only [Act.put, List.setIfInBounds_toArray, List.set_cons_zero, List.set_cons_succ]
        refine wpAnyH_take (i := 11) (oi := ⟨some 157, _, _, _, _, _⟩) (v := ?_) rfl (by kernel_rfl) (by kernel_rfl) (by kernel_rfl) (fun _ _ _ h => h) (Or.inl ⟨by rfl, ?_⟩) (by assumption) ?_
        rotate_left
        · (intro w' hSw; (try dsimp only at hSw); go_simp <;> (with_reducible rfl))
        try simp only [Act.put, List.setIfInBounds_toArray, List.set_cons_zero, List.set_cons_succ]
        refine wpAnyH_take (i := 12) (oi := ⟨some 17, _, _, _, _, _⟩) (v := ?_) rfl (by kernel_rfl) (by kernel_rfl) (by kernel_rfl) (fun _ _ _ h => h) (Or.inl ⟨by rfl, ?_⟩) (by assumption) ?_
        rotate_left
        · (intro w' hSw; (try dsimp only at hSw); go_simp <;> (with_reducible rfl))
        try simp only [Act.put, List.setIfInBounds_toArray, List.set_cons_zero, List.set_cons_succ]
        refine wpAnyH_done (by kernel_rfl) ?_ _
        clear hHeld HSD
        go_wp2_with fail
        go_roundw
        case rel => exact ⟨k + 1, by omega, by rw [HSTEP.out] <;> first | rfl | go_num, by go_num, HI1, HI2, HB⟩
        case measure => simp [Go.RowKit.intOf] <;> omega
    obtain rfl : ρ = 1 := by omega
    obtain rfl : σ = 1 := by omega
    clear HNE hs2
    go_wp2_with fail
    go_ret
    exact ⟨rfl, HB.out⟩
  · skip
    go_simp
    obtain ⟨b12, hb12⟩ : ∃ q, w_901.heap.size = q := ⟨_, rfl⟩
    have hl_b12 : bg < b12 := by rw [← hb12]; exact gausLt HGP.out hNp
    have hw_b12 : w.heap.size ≤ b12 := by rw [← hb12]; exact HB.out.size
    obtain ⟨w_921, hw_921⟩ : ∃ q : World, q = w_901.alloc (.cells #[.int .i64 0, .int .i64 0] 68) := ⟨_, rfl⟩
    try rw [← hw_921]
    have HX2 := hide (show Box w_921 b12 68 #[.int .i64 0, .int .i64 0] by rw [hw_921]; exact Box.made hb12.symm)
    have hc_921 : Below w_901.heap.size w_901 w_921 := by rw [hw_921]; exact (Below.refl _ _).alloc (Nat.le_refl _) _
    clear hw_921
    replace HGP := hide (HGP.out.below hc_921)
    replace HB := hide (HB.out.trans (hc_921.mono HB.out.size))
    clear hc_921
    try simp only [hb12]
    clear hb12
    refine hK.out _ _ ⟨(HCI.out _ HGP.out).1, (HCI.out _ HGP.out).2, (HCJ.out _ HGP.out).1, (HCJ.out _ HGP.out).2⟩ (fun hHeld => ?_)
    clear hK K'
    try simp only [Act.put, List.setIfInBounds_toArray, List.set_cons_zero, List.set_cons_succ]
    refine wpAnyH_ready (rs := [8]) (by kernel_rfl) (by simp) ?_
    refine AllReadyH.cons (o := ⟨some 11, _, _, _, _, _⟩) rfl (fun K' hK => ?_) AllReadyH.nil
    go_simp
    obtain ⟨b11, hb11⟩ : ∃ q, w_921.heap.size = q := ⟨_, rfl⟩
    have hl_b11 : bg < b11 := by rw [← hb11]; exact gausLt HGP.out hNp
    have hw_b11 : w.heap.size ≤ b11 := by rw [← hb11]; exact HB.out.size
    have hlt_b11 : b12 < b11 := by rw [← hb11]; exact HX2.out.lt
    obtain ⟨w_922, hw_922⟩ : ∃ q : World, q = w_921.alloc (.cells #[.int .i64 0, .int .i64 0] 68) := ⟨_, rfl⟩
    try rw [← hw_922]
    have HX1 := hide (show Box w_922 b11 68 #[.int .i64 0, .int .i64 0] by rw [hw_922]; exact Box.made hb11.symm)
    have hc_922 : Below w_921.heap.size w_921 w_922 := by rw [hw_922]; exact (Below.refl _ _).alloc (Nat.le_refl _) _
    clear hw_922
    replace HGP := hide (HGP.out.below hc_922)
    replace HX2 := hide (HX2.out.below hc_922)
    replace HB := hide (HB.out.trans (hc_922.mono HB.out.size))
    clear hc_922
    try simp only [hb11]
    clear hb11
    refine hK.out _ _ ⟨(HCI.out _ HGP.out).1, (HCI.out _ HGP.out).2, (HCJ.out _ HGP.out).1, (HCJ.out _ HGP.out).2⟩ (fun hHeld => ?_)
    clear hK K'
    try simp only [Act.put, List.setIfInBounds_toArray, List.set_cons_zero, List.set_cons_succ]
    refine wpAnyH_ready (rs := [10]) (by kernel_rfl) (by simp) ?_
    refine AllReadyH.cons (o := ⟨none, _, _, _, _, _⟩) rfl (fun K' hK => ?_) AllReadyH.nil
    obtain ⟨z0, z1, k0, k1, hlz⟩ := HX1.out.t2
    go_simp
    clear z0 z1 k0 k1 hlz
    replace HX2 := hide ((HX2.out.other (p := ⟨b11, 0, none⟩) (by show b12 ≠ b11; omega) (.int .i64 x1)).other (p := ⟨b11, 1, none⟩) (by show b12 ≠ b11; omega) (.int .i64 y1))
    replace HX1 := hide (HX1.out.t2put (.int .i64 x1) (.int .i64 y1))
    replace HGP := hide (gausOther (gausOther (p := b11) (f := 0) HGP.out hl_b11 (.int .i64 x1)) (p := b11) (f := 1) hl_b11 (.int .i64 y1))
    replace HB := hide ((HB.out.setCell (p := ⟨b11, 0, none⟩) hw_b11 (.int .i64 x1)).setCell (p := ⟨b11, 1, none⟩) hw_b11 (.int .i64 y1))
    obtain ⟨w_923, hw_923⟩ : ∃ q : World, (w_922.setCell ⟨b11, 0, none⟩ (.int .i64 x1)).setCell ⟨b11, 1, none⟩ (.int .i64 y1) = q := ⟨_, rfl⟩
    rw [hw_923] at HX1 HX2 HB HGP ⊢
    clear hw_923
    refine hK.out _ _ ⟨(HCI.out _ HGP.out).1, (HCI.out _ HGP.out).2, (HCJ.out _ HGP.out).1, (HCJ.out _ HGP.out).2⟩ (fun hHeld => ?_)
    clear hK K'
    try simp only [Act.put, List.setIfInBounds_toArray, List.set_cons_zero, List.set_cons_succ]
    refine wpAnyH_ready (rs := [11]) (by kernel_rfl) (by simp) ?_
    refine AllReadyH.cons (o := ⟨none, _, _, _, _, _⟩) rfl (fun K' hK => ?_) AllReadyH.nil
    obtain ⟨z0, z1, k0, k1, hlz⟩ := HX2.out.t2
    go_simp
    clear z0 z1 k0 k1 hlz
    replace HX1 := hide ((HX1.out.other (p := ⟨b12, 0, none⟩) (by show b11 ≠ b12; omega) (.int .i64 x2)).other (p := ⟨b12, 1, none⟩) (by show b11 ≠ b12; omega) (.int .i64 y2))
    replace HX2 := hide (HX2.out.t2put (.int .i64 x2) (.int .i64 y2))
    replace HGP := hide (gausOther (gausOther (p := b12) (f := 0) HGP.out hl_b12 (.int .i64 x2)) (p := b12) (f := 1) hl_b12 (.int .i64 y2))
    replace HB := hide ((HB.out.setCell (p := ⟨b12, 0, none⟩) hw_b12 (.int .i64 x2)).setCell (p := ⟨b12, 1, none⟩) hw_b12 (.int .i64 y2))
    obtain ⟨w_924, hw_924⟩ : ∃ q : World, (w_923.setCell ⟨b12, 0, none⟩ (.int .i64 x2)).setCell ⟨b12, 1, none⟩ (.int .i64 y2) = q := ⟨_, rfl⟩
    rw [hw_924] at HX1 HX2 HB HGP ⊢
    clear hw_924
    refine hK.out _ _ ⟨(HCI.out _ HGP.out).1, (HCI.out _ HGP.out).2, (HCJ.out _ HGP.out).1, (HCJ.out _ HGP.out).2⟩ (fun hHeld => ?_)
    clear hK K'
    try simp only [Act.put, List.setIfInBounds_toArray, List.set_cons_zero, List.set_cons_succ]
    refine wpAnyH_done (by kernel_rfl) ?_ _
    clear hHeld
    by_cases hij : i = j
    case pos =>
      have hs := HS.out hij
      injection hs with e1 e2
      obtain rfl : ρ = 0 := HZX.out e1
      obtain rfl : σ = 0 := HZY.out e2
      have tn : ((i : Int) != (j : Int)) = false := by simp; omega
      clear e1 e2 hij HS HNE HAP HZX HZY
      obtain ⟨z0, z1, zf0, zf1, hlz⟩ := HX1.out.t2
      obtain ⟨u0, u1, uf0, uf1, hlu⟩ := HX2.out.t2
      go_wp2_with fail
      refine (HMX.out _).mono ?_
      rintro e_ v_ ⟨rfl, rfl⟩
      go_wp2_with fail
      refine (HMY.out _).mono ?_
      rintro e_ v_ ⟨rfl, rfl⟩
      go_wp2_with fail
      refine (HWx1.out _).mono ?_
      rintro e_ v_ ⟨rfl, rfl⟩
      go_wp2_with fail
      refine (HWy1.out _).mono ?_
      rintro e_ v_ ⟨rfl, rfl⟩
      go_wp2_with fail
      refine (HWx2.out _).mono ?_
      rintro e_ v_ ⟨rfl, rfl⟩
      go_wp2_with fail
      refine (HWy2.out _).mono ?_
      rintro e_ v_ ⟨rfl, rfl⟩
      go_upto_region 12 with fail
      clear z0 z1 zf0 zf1 hlz u0 u1 uf0 uf1 hlu HMX HMY HWx1 HWy1 HWx2 HWy2
      refine wp_region_held_drew (S := fun w' => w'.cell? ⟨b11, 0, none⟩ = some (.int .i64 x1) ∧ w'.cell? ⟨b11, 1, none⟩ = some (.int .i64 y1) ∧ w'.cell? ⟨b12, 0, none⟩ = some (.int .i64 x2) ∧ w'.cell? ⟨b12, 1, none⟩ = some (.int .i64 y2)) (by kernel_rfl) ⟨HX1.out.t2.1, HX1.out.t2.2.1, HX2.out.t2.1, HX2.out.t2.2.1⟩ (fun hHeld => ?_)
      obtain ⟨w_925, hw_925⟩ : ∃ q : World, q = w_924.drew := ⟨_, rfl⟩
      rw [← hw_925] at hHeld ⊢
      have hc_925 : Below w_924.heap.size w_924 w_925 := by rw [hw_925]; exact (Below.refl _ _).drew
      clear hw_925
      replace HGP := hide (HGP.out.below hc_925)
      replace HX2 := hide (HX2.out.below hc_925)
      replace HX1 := hide (HX1.out.below hc_925)
      replace HB := hide (HB.out.trans (hc_925.mono HB.out.size))
      clear hc_925
      refine wpAnyH_take (i := 0) (oi := ⟨some 111, _, _, _, _, _⟩) (v := ?_) rfl (by kernel_rfl) (by kernel_rfl) (by kernel_rfl) (fun _ _ _ h => h) (Or.inl ⟨by rfl, ?_⟩) (by assumption) ?_
      rotate_left
      · (intro w' hSw; (try dsimp only at hSw); go_simp <;> (with_reducible rfl))
      try simp only [Act.put, List.setIfInBounds_toArray, List.set_cons_zero, List.set_cons_succ]
      refine wpAnyH_take (i := 1) (oi := ⟨some 112, _, _, _, _, _⟩) (v := ?_) rfl (by kernel_rfl) (by kernel_rfl) (by kernel_rfl) (fun _ _ _ h => h) (Or.inl ⟨by rfl, ?_⟩) (by assumption) ?_
      rotate_left
      · (intro w' hSw; (try dsimp only at hSw); go_simp <;> (with_reducible rfl))
      try simp only [Act.put, List.setIfInBounds_toArray, List.set_cons_zero, List.set_cons_succ]
      refine wpAnyH_take (i := 2) (oi := ⟨some 113, _, _, _, _, _⟩) (v := ?_) rfl (by kernel_rfl) (by kernel_rfl) (by kernel_rfl) (fun _ _ _ h => h) (Or.inl ⟨by rfl, ?_⟩) (by assumption) ?_
      rotate_left
      · (intro w' hSw; (try dsimp only at hSw); go_simp <;> (with_reducible rfl))
      try simp only [Act.put, List.setIfInBounds_toArray, List.set_cons_zero, List.set_cons_succ]
      refine wpAnyH_take (i := 3) (oi := ⟨some 114, _, _, _, _, _⟩) (v := ?_) rfl (by kernel_rfl) (by kernel_rfl) (by kernel_rfl) (fun _ _ _ h => h) (Or.inl ⟨by rfl, ?_⟩) (by assumption) ?_
      rotate_left
      · (intro w' hSw; (try dsimp only at hSw); go_simp <;> (with_reducible rfl))
      try simp only [Act.put, List.setIfInBounds_toArray, List.set_cons_zero, List.set_cons_succ]
      refine wpAnyH_take (i := 4) (oi := ⟨some 115, _, _, _, _, _⟩) (v := ?_) rfl (by kernel_rfl) (by kernel_rfl) (by kernel_rfl) (fun _ _ _ h => h) (Or.inl ⟨by rfl, ?_⟩) (by assumption) ?_
      rotate_left
      · (intro w' hSw; (try dsimp only at hSw); go_simp <;> (with_reducible rfl))
      try simp only [Act.put, List.setIfInBounds_toArray, List.set_cons_zero, List.set_cons_succ]
      refine wpAnyH_take (i := 6) (oi := ⟨some 117, _, _, _, _, _⟩) (v := ?_) rfl (by kernel_rfl) (by kernel_rfl) (by kernel_rfl) (fun _ _ _ h => h) (Or.inl ⟨by rfl, ?_⟩) (by assumption) ?_
      rotate_left
      · (intro w' hSw; (try dsimp only at hSw); go_simp <;> (with_reducible rfl))
      try simp only [Act.put, List.setIfInBounds_toArray, List.set_cons_zero, List.set_cons_succ]
      refine wpAnyH_take (i := 7) (oi := ⟨some 118, _, _, _, _, _⟩) (v := ?_) rfl (by kernel_rfl) (by kernel_rfl) (by kernel_rfl) (fun _ _ _ h => h) (Or.inl ⟨by rfl, ?_⟩) (by assumption) ?_
      rotate_left
      · (intro w' hSw; (try dsimp only at hSw); go_simp <;> (with_reducible rfl))
      try simp only [Act.put, List.setIfInBounds_toArray, List.set_cons_zero, List.set_cons_succ]
      refine wpAnyH_take (i := 8) (oi := ⟨some 119, _, _, _, _, _⟩) (v := ?_) rfl (by kernel_rfl) (by kernel_rfl) (by kernel_rfl) (fun _ _ _ h => h) (Or.inl ⟨by rfl, ?_⟩) (by assumption) ?_
      rotate_left
      · (intro w' hSw; (try dsimp only at hSw); go_simp <;> (with_reducible rfl))
      try simp only [Act.put, List.setIfInBounds_toArray, List.set_cons_zero, List.set_cons_succ]
      refine wpAnyH_take (i := 9) (oi := ⟨some 120, _, _, _, _, _⟩) (v := ?_) rfl (by kernel_rfl) (by kernel_rfl) (by kernel_rfl) (fun _ _ _ h => h) (Or.inl ⟨by rfl, ?_⟩) (by assumption) ?_
      rotate_left
      · (intro w' hSw; (try dsimp only at hSw); go_simp <;> (with_reducible rfl))
      try simp only [Act.put, List.setIfInBounds_toArray, List.set_cons_zero, List.set_cons_succ]
      refine wpAnyH_take (i := 10) (oi := ⟨some 121, _, _, _, _, _⟩) (v := ?_) rfl (by kernel_rfl) (by kernel_rfl) (by kernel_rfl) (fun _ _ _ h => h) (Or.inl ⟨by rfl, ?_⟩) (by assumption) ?_
      rotate_left
      · (intro w' hSw; (try dsimp only at hSw); go_simp <;> (with_reducible rfl))
      try simp only [Act.put, List.setIfInBounds_toArray, List.set_cons_zero, List.set_cons_succ]
      refine wpAnyH_ready (rs := [5]) (by kernel_rfl) (by simp) ?_
      refine AllReadyH.cons (o := ⟨some 116, _, _, _, _, _⟩) rfl (fun K' hK => ?_) AllReadyH.nil
      go_simp
      go_at_call 47
      refine (HSX.out _).mono ?_
      rintro e_ v_ ⟨rfl, rfl⟩
      go_wp2_with fail
      refine hK.out _ _ ⟨HX1.out.t2.1, HX1.out.t2.2.1, HX2.out.t2.1, HX2.out.t2.2.1⟩ (fun hHeld => ?_)
      clear hK K'
      try simp only [Act.put, List.setIfInBounds_toArray, List.set_cons_zero, List.set_cons_succ]
      refine wpAnyH_ready (rs := [11]) (by kernel_rfl) (by simp) ?_
      refine AllReadyH.cons (o := ⟨some 122, _, _, _, _, _⟩) rfl (fun K' hK => ?_) AllReadyH.nil
      go_simp
      go_at_call 47
      refine (HSY.out _).mono ?_
      rintro e_ v_ ⟨rfl, rfl⟩
      go_wp2_with fail
      refine hK.out _ _ ⟨HX1.out.t2.1, HX1.out.t2.2.1, HX2.out.t2.1, HX2.out.t2.2.1⟩ (fun hHeld => ?_)
      clear hK K'
      try simp only [Act.put, List.setIfInBounds_toArray, List.set_cons_zero, List.set_cons_succ]
      refine wpAnyH_take (i := 12) (oi := ⟨some 13, _, _, _, _, _⟩) (v := ?_) rfl (by kernel_rfl) (by kernel_rfl) (by kernel_rfl) (fun _ _ _ h => h) (Or.inl ⟨by rfl, ?_⟩) (by assumption) ?_
      rotate_left
      · (intro w' hSw; (try dsimp only at hSw); go_simp <;> (with_reducible rfl))
      try simp only [Act.put, List.setIfInBounds_toArray, List.set_cons_zero, List.set_cons_succ]
      refine wpAnyH_take (i := 13) (oi := ⟨some 14, _, _, _, _, _⟩) (v := ?_) rfl (by kernel_rfl) (by kernel_rfl) (by kernel_rfl) (fun _ _ _ h => h) (Or.inl ⟨by rfl, ?_⟩) (by assumption) ?_
      rotate_left
      · (intro w' hSw; (try dsimp only at hSw); go_simp <;> (with_reducible rfl))
      try simp only [Act.put, List.setIfInBounds_toArray, List.set_cons_zero, List.set_cons_succ]
      refine wpAnyH_done (by kernel_rfl) ?_ _
      clear hHeld
      go_wp2_with fail
      go_ret
      exact ⟨rfl, HB.out⟩
    have tn : ((i : Int) != (j : Int)) = true := by simp; omega
    have hap := HAP.out hij
    clear HAP HS HZX HZY
    by_cases hx : x1 = x2
    case pos =>
      have hy : ¬ y1 = y2 := fun e => hap ⟨hx, e⟩
      clear hap hx hij
      obtain ⟨z0, z1, zf0, zf1, hlz⟩ := HX1.out.t2
      obtain ⟨u0, u1, uf0, uf1, hlu⟩ := HX2.out.t2
      go_wp2_with fail
      refine (HMX.out _).mono ?_
      rintro e_ v_ ⟨rfl, rfl⟩
      go_wp2_with fail
      refine (HMY.out _).mono ?_
      rintro e_ v_ ⟨rfl, rfl⟩
      go_wp2_with fail
      refine (HWx1.out _).mono ?_
      rintro e_ v_ ⟨rfl, rfl⟩
      go_wp2_with fail
      refine (HWy1.out _).mono ?_
      rintro e_ v_ ⟨rfl, rfl⟩
      go_wp2_with fail
      refine (HWx2.out _).mono ?_
      rintro e_ v_ ⟨rfl, rfl⟩
      go_wp2_with fail
      refine (HWy2.out _).mono ?_
      rintro e_ v_ ⟨rfl, rfl⟩
      go_upto_region 12 with fail
      clear z0 z1 zf0 zf1 hlz u0 u1 uf0 uf1 hlu HMX HMY HWx1 HWy1 HWx2 HWy2
      refine wp_region_held_drew (S := fun w' => w'.cell? ⟨b11, 0, none⟩ = some (.int .i64 x1) ∧ w'.cell? ⟨b11, 1, none⟩ = some (.int .i64 y1) ∧ w'.cell? ⟨b12, 0, none⟩ = some (.int .i64 x2) ∧ w'.cell? ⟨b12, 1, none⟩ = some (.int .i64 y2)) (by kernel_rfl) ⟨HX1.out.t2.1, HX1.out.t2.2.1, HX2.out.t2.1, HX2.out.t2.2.1⟩ (fun hHeld => ?_)
      obtain ⟨w_926, hw_926⟩ : ∃ q : World, q = w_924.drew := ⟨_, rfl⟩
      rw [← hw_926] at hHeld ⊢
      have hc_926 : Below w_924.heap.size w_924 w_926 := by rw [hw_926]; exact (Below.refl _ _).drew
      clear hw_926
      replace HGP := hide (HGP.out.below hc_926)
      replace HX2 := hide (HX2.out.below hc_926)
      replace HX1 := hide (HX1.out.below hc_926)
      replace HB := hide (HB.out.trans (hc_926.mono HB.out.size))
      clear hc_926
      refine wpAnyH_take (i := 0) (oi := ⟨some 111, _, _, _, _, _⟩) (v := ?_) rfl (by kernel_rfl) (by kernel_rfl) (by kernel_rfl) (fun _ _ _ h => h) (Or.inl ⟨by rfl, ?_⟩) (by assumption) ?_
      rotate_left
      · (intro w' hSw; (try dsimp only at hSw); go_simp <;> (with_reducible rfl))
      try simp only [Act.put, List.setIfInBounds_toArray, List.set_cons_zero, List.set_cons_succ]
      refine wpAnyH_take (i := 1) (oi := ⟨some 112, _, _, _, _, _⟩) (v := ?_) rfl (by kernel_rfl) (by kernel_rfl) (by kernel_rfl) (fun _ _ _ h => h) (Or.inl ⟨by rfl, ?_⟩) (by assumption) ?_
      rotate_left
      · (intro w' hSw; (try dsimp only at hSw); go_simp <;> (with_reducible rfl))
      try simp only [Act.put, List.setIfInBounds_toArray, List.set_cons_zero, List.set_cons_succ]
      refine wpAnyH_take (i := 2) (oi := ⟨some 113, _, _, _, _, _⟩) (v := ?_) rfl (by kernel_rfl) (by kernel_rfl) (by kernel_rfl) (fun _ _ _ h => h) (Or.inl ⟨by rfl, ?_⟩) (by assumption) ?_
      rotate_left
      · (intro w' hSw; (try dsimp only at hSw); go_simp <;> (with_reducible rfl))
      try simp only [Act.put, List.setIfInBounds_toArray, List.set_cons_zero, List.set_cons_succ]
      refine wpAnyH_take (i := 3) (oi := ⟨some 114, _, _, _, _, _⟩) (v := ?_) rfl (by kernel_rfl) (by kernel_rfl) (by kernel_rfl) (fun _ _ _ h => h) (Or.inl ⟨by rfl, ?_⟩) (by assumption) ?_
      rotate_left
      · (intro w' hSw; (try dsimp only at hSw); go_simp <;> (with_reducible rfl))
      try simp only [Act.put, List.setIfInBounds_toArray, List.set_cons_zero, List.set_cons_succ]
      refine wpAnyH_take (i := 4) (oi := ⟨some 115, _, _, _, _, _⟩) (v := ?_) rfl (by kernel_rfl) (by kernel_rfl) (by kernel_rfl) (fun _ _ _ h => h) (Or.inl ⟨by rfl, ?_⟩) (by assumption) ?_
      rotate_left
      · (intro w' hSw; (try dsimp only at hSw); go_simp <;> (with_reducible rfl))
      try simp only [Act.put, List.setIfInBounds_toArray, List.set_cons_zero, List.set_cons_succ]
      refine wpAnyH_take (i := 6) (oi := ⟨some 117, _, _, _, _, _⟩) (v := ?_) rfl (by kernel_rfl) (by kernel_rfl) (by kernel_rfl) (fun _ _ _ h => h) (Or.inl ⟨by rfl, ?_⟩) (by assumption) ?_
      rotate_left
      · (intro w' hSw; (try dsimp only at hSw); go_simp <;> (with_reducible rfl))
      try simp only [Act.put, List.setIfInBounds_toArray, List.set_cons_zero, List.set_cons_succ]
      refine wpAnyH_take (i := 7) (oi := ⟨some 118, _, _, _, _, _⟩) (v := ?_) rfl (by kernel_rfl) (by kernel_rfl) (by kernel_rfl) (fun _ _ _ h => h) (Or.inl ⟨by rfl, ?_⟩) (by assumption) ?_
      rotate_left
      · (intro w' hSw; (try dsimp only at hSw); go_simp <;> (with_reducible rfl))
      try simp only [Act.put, List.setIfInBounds_toArray, List.set_cons_zero, List.set_cons_succ]
      refine wpAnyH_take (i := 8) (oi := ⟨some 119, _, _, _, _, _⟩) (v := ?_) rfl (by kernel_rfl) (by kernel_rfl) (by kernel_rfl) (fun _ _ _ h => h) (Or.inl ⟨by rfl, ?_⟩) (by assumption) ?_
      rotate_left
      · (intro w' hSw; (try dsimp only at hSw); go_simp <;> (with_reducible rfl))
      try simp only [Act.put, List.setIfInBounds_toArray, List.set_cons_zero, List.set_cons_succ]
      refine wpAnyH_take (i := 9) (oi := ⟨some 120, _, _, _, _, _⟩) (v := ?_) rfl (by kernel_rfl) (by kernel_rfl) (by kernel_rfl) (fun _ _ _ h => h) (Or.inl ⟨by rfl, ?_⟩) (by assumption) ?_
      rotate_left
      · (intro w' hSw; (try dsimp only at hSw); go_simp <;> (with_reducible rfl))
      try simp only [Act.put, List.setIfInBounds_toArray, List.set_cons_zero, List.set_cons_succ]
      refine wpAnyH_take (i := 10) (oi := ⟨some 121, _, _, _, _, _⟩) (v := ?_) rfl (by kernel_rfl) (by kernel_rfl) (by kernel_rfl) (fun _ _ _ h => h) (Or.inl ⟨by rfl, ?_⟩) (by assumption) ?_
      rotate_left
      · (intro w' hSw; (try dsimp only at hSw); go_simp <;> (with_reducible rfl))
      try simp only [Act.put, List.setIfInBounds_toArray, List.set_cons_zero, List.set_cons_succ]
      refine wpAnyH_ready (rs := [5]) (by kernel_rfl) (by simp) ?_
      refine AllReadyH.cons (o := ⟨some 116, _, _, _, _, _⟩) rfl (fun K' hK => ?_) AllReadyH.nil
      go_simp
      go_at_call 47
      refine (HSX.out _).mono ?_
      rintro e_ v_ ⟨rfl, rfl⟩
      go_wp2_with fail
      refine hK.out _ _ ⟨HX1.out.t2.1, HX1.out.t2.2.1, HX2.out.t2.1, HX2.out.t2.2.1⟩ (fun hHeld => ?_)
      clear hK K'
      try simp only [Act.put, List.setIfInBounds_toArray, List.set_cons_zero, List.set_cons_succ]
      refine wpAnyH_ready (rs := [11]) (by kernel_rfl) (by simp) ?_
      refine AllReadyH.cons (o := ⟨some 122, _, _, _, _, _⟩) rfl (fun K' hK => ?_) AllReadyH.nil
      go_simp
      go_at_call 47
      refine (HSY.out _).mono ?_
      rintro e_ v_ ⟨rfl, rfl⟩
      go_wp2_with fail
      refine hK.out _ _ ⟨HX1.out.t2.1, HX1.out.t2.2.1, HX2.out.t2.1, HX2.out.t2.2.1⟩ (fun hHeld => ?_)
      clear hK K'
      try simp only [Act.put, List.setIfInBounds_toArray, List.set_cons_zero, List.set_cons_succ]
      refine wpAnyH_take (i := 12) (oi := ⟨some 13, _, _, _, _, _⟩) (v := ?_) rfl (by kernel_rfl) (by kernel_rfl) (by kernel_rfl) (fun _ _ _ h => h) (Or.inl ⟨by rfl, ?_⟩) (by assumption) ?_
      rotate_left
      · (intro w' hSw; (try dsimp only at hSw); go_simp <;> (with_reducible rfl))
      try simp only [Act.put, List.setIfInBounds_toArray, List.set_cons_zero, List.set_cons_succ]
      refine wpAnyH_take (i := 13) (oi := ⟨some 14, _, _, _, _, _⟩) (v := ?_) rfl (by kernel_rfl) (by kernel_rfl) (by kernel_rfl) (fun _ _ _ h => h) (Or.inl ⟨by rfl, ?_⟩) (by assumption) ?_
      rotate_left
      · (intro w' hSw; (try dsimp only at hSw); go_simp <;> (with_reducible rfl))
      try simp only [Act.put, List.setIfInBounds_toArray, List.set_cons_zero, List.set_cons_succ]
      refine wpAnyH_done (by kernel_rfl) ?_ _
      clear hHeld
      by_cases hs2 : ρ + σ = 2
      case neg =>
        have q3 : IntKind.i64.wrap (ρ + σ) = ρ + σ := IntWalk.i64_in _ (by omega)
        have t5 : (ρ + σ != 2) = true := by simpa using hs2
        clear HNE
        go_wp2_with fail
        go_ret
        exact ⟨rfl, HB.out⟩
      by_cases hc : ρ = 0
      case pos =>
        obtain rfl : ρ = 0 := by omega
        obtain rfl : σ = 2 := by omega
        have hd := HNE.out (by decide) (by decide)
        clear hs2 hc r9 s9
        have HD := hide hd
        clear hd HNE HSX HSY
        go_wp2_with fail
        refine (HBO.out i _ (by omega)).mono ?_
        rintro e_ w_927 ⟨g1, rfl, hI1, hb_927⟩
        replace HGP := hide (HGP.out.below hb_927)
        replace HX2 := hide (HX2.out.below hb_927)
        replace HX1 := hide (HX1.out.below hb_927)
        replace HB := hide (HB.out.trans (hb_927.mono HB.out.size))
        clear hb_927
        have HI1 := hide hI1
        clear hI1
        go_wp2_with fail
        refine (HBO.out j _ (by omega)).mono ?_
        rintro e_ w_928 ⟨g2, rfl, hI2, hb_928⟩
        replace HGP := hide (HGP.out.below hb_928)
        replace HX2 := hide (HX2.out.below hb_928)
        replace HX1 := hide (HX1.out.below hb_928)
        replace HI1 := hide (HI1.out.below hb_928)
        replace HB := hide (HB.out.trans (hb_928.mono HB.out.size))
        clear hb_928
        have HI2 := hide hI2
        clear hI2
        go_wp2_with fail
        go_loopw [17, 18] (fun d n wr => ∃ k : Nat, k ≤ m ∧ d = .int .i64 (difF m i j k) ∧ n = .int .i64 (k : Int) ∧ Hid (IntsAt wr 0 (some ⟨g1, 0, none⟩) m (labF m i)) ∧ Hid (IntsAt wr 0 (some ⟨g2, 0, none⟩) m (labF m j)) ∧ Hid (Below w.heap.size w wr)) (fun _ n _ => m - (Go.RowKit.intOf n).toNat)
        case atStart => exact ⟨0, Nat.zero_le _, rfl, rfl, HI1, HI2, HB⟩
        case round =>
          clear HI1 HI2 HB HX1 HX2 HGP
          obtain ⟨k, hk, rfl, rfl, HI1, HI2, HB⟩ := hrel
          obtain ⟨wA, rfl⟩ : ∃ x : World, x = wr := ⟨_, rfl⟩
          by_cases hlt : k < m
          case neg =>
            obtain rfl : k = m := by omega
            have hltz : ¬ (k : Int) < (k : Int) := by omega
            rw [HD.out]
            clear HI1 HI2 HBO
            go_wp2_with fail
            go_ret
            exact ⟨rfl, HB.out⟩
          have hltz : (k : Int) < (m : Int) := by omega
          have HSTEP := hide (show difF m i j (k + 1) = difF m i j k + sizZ (labF m i k - labF m j k) from rfl)
          have hdl := difF_le m i j k
          have k0 := intsAt_cellK HI1.out hlt
          have k1 := intsAt_cellK HI2.out hlt
          have l0 := labF_bit m i k
          have l1 := labF_bit m j k
          simp only [Nat.zero_add] at k0 k1
          obtain ⟨d, hd⟩ : ∃ z, difF m i j k = z := ⟨_, rfl⟩
          obtain ⟨e0, he0⟩ : ∃ z, labF m i k = z := ⟨_, rfl⟩
          obtain ⟨e1, he1⟩ : ∃ z, labF m j k = z := ⟨_, rfl⟩
          rw [hd] at hdl ⊢
          rw [he0] at l0 k0
          rw [he1] at l1 k1
          rw [hd, he0, he1] at HSTEP
          have HE0 := hide he0
          have HE1 := hide he1
          clear hd he0 he1
          have lz : -1 ≤ e0 - e1 ∧ e0 - e1 ≤ 1 := by rcases l0 with rfl | rfl <;> rcases l1 with rfl | rfl <;> decide
          have q5 : IntKind.i64.wrap (e0 - e1) = e0 - e1 := IntWalk.i64_in _ (by omega)
          have HSD := hide (fun W => sizeZ_any (e0 - e1) W (by omega))
          have hsz : 0 ≤ sizZ (e0 - e1) ∧ sizZ (e0 - e1) ≤ 1 := by unfold sizZ; omega
          obtain ⟨t, ht⟩ : ∃ z, sizZ (e0 - e1) = z := ⟨_, rfl⟩
          rw [ht] at HSD HSTEP hsz
          have q6 : IntKind.i64.wrap (d + t) = d + t := IntWalk.i64_in _ (by omega)
          clear ht l0 l1 k0 k1
          go_upto_region 20 with fail
          refine wp_region_held_drew (S := fun w' => w'.cell? ⟨g1, k, none⟩ = some (.int .i64 e0) ∧ w'.cell? ⟨g2, k, none⟩ = some (.int .i64 e1)) (by kernel_rfl) ⟨by have := intsAt_cellK HI1.out hlt; rw [HE0.out, Nat.zero_add] at this; exact this, by have := intsAt_cellK HI2.out hlt; rw [HE1.out, Nat.zero_add] at this; exact this⟩ (fun hHeld => ?_)
          obtain ⟨w_929, hw_929⟩ : ∃ q : World, q = wA.drew := ⟨_, rfl⟩
          rw [← hw_929] at hHeld ⊢
          have hc_929 : Below wA.heap.size wA w_929 := by rw [hw_929]; exact (Below.refl _ _).drew
          clear hw_929
          replace HI1 := hide (HI1.out.below hc_929)
          replace HI2 := hide (HI2.out.below hc_929)
          replace HB := hide (HB.out.trans (hc_929.mono HB.out.size))
          clear hc_929
          refine wpAnyH_take (i := 0) (oi := ⟨some 146, _, _, _, _, _⟩) (v := ?_) rfl (by kernel_rfl) (by kernel_rfl) (by kernel_rfl) (fun _ _ _ h => h) (Or.inl ⟨by rfl, ?_⟩) (by assumption) ?_
          rotate_left
          · (intro w' hSw; (try dsimp only at hSw); go_simp <;> (with_reducible rfl))
          try simp only [Act.put, List.setIfInBounds_toArray, List.set_cons_zero, List.set_cons_succ]
          refine wpAnyH_take (i := 1) (oi := ⟨some 147, _, _, _, _, _⟩) (v := ?_) rfl (by kernel_rfl) (by kernel_rfl) (by kernel_rfl) (fun _ _ _ h => h) (Or.inl ⟨by rfl, ?_⟩) (by assumption) ?_
          rotate_left
          · (intro w' hSw; (try dsimp only at hSw); go_simp <;> (with_reducible rfl))
          try simp only [Act.put, List.setIfInBounds_toArray, List.set_cons_zero, List.set_cons_succ]
          refine wpAnyH_take (i := 2) (oi := ⟨some 148, _, _, _, _, _⟩) (v := ?_) rfl (by kernel_rfl) (by kernel_rfl) (by kernel_rfl) (fun _ _ _ h => h) (Or.inl ⟨by rfl, ?_⟩) (by assumption) ?_
          rotate_left
          · (intro w' hSw; (try dsimp only at hSw); go_simp <;> (with_reducible rfl))
          try simp only [Act.put, List.setIfInBounds_toArray, List.set_cons_zero, List.set_cons_succ]
          refine wpAnyH_take (i := 3) (oi := ⟨some 149, _, _, _, _, _⟩) (v := ?_) rfl (by kernel_rfl) (by kernel_rfl) (by kernel_rfl) (fun _ _ _ h => h) (Or.inl ⟨by rfl, ?_⟩) (by assumption) ?_
          rotate_left
          · (intro w' hSw; (try dsimp only at hSw); go_simp <;> (with_reducible rfl))
          try simp only [Act.put, List.setIfInBounds_toArray, List.set_cons_zero, List.set_cons_succ]
          refine wpAnyH_take (i := 4) (oi := ⟨some 150, _, _, _, _, _⟩) (v := ?_) rfl (by kernel_rfl) (by kernel_rfl) (by kernel_rfl) (fun _ _ _ h => h) (Or.inl ⟨by rfl, ?_⟩) (by assumption) ?_
          rotate_left
          · (intro w' hSw; (try dsimp only at hSw); go_simp <;> (with_reducible rfl))
          try simp only [Act.put, List.setIfInBounds_toArray, List.set_cons_zero, List.set_cons_succ]
          refine wpAnyH_take (i := 5) (oi := ⟨some 151, _, _, _, _, _⟩) (v := ?_) rfl (by kernel_rfl) (by kernel_rfl) (by kernel_rfl) (fun _ _ _ h => h) (Or.inl ⟨by rfl, ?_⟩) (by assumption) ?_
          rotate_left
          · (intro w' hSw; (try dsimp only at hSw); go_simp <;> (with_reducible rfl))
          try simp only [Act.put, List.setIfInBounds_toArray, List.set_cons_zero, List.set_cons_succ]
          refine wpAnyH_take (i := 6) (oi := ⟨some 152, _, _, _, _, _⟩) (v := ?_) rfl (by kernel_rfl) (by kernel_rfl) (by kernel_rfl) (fun _ _ _ h => h) (Or.inl ⟨by rfl, ?_⟩) (by assumption) ?_
          rotate_left
          · (intro w' hSw; (try dsimp only at hSw); go_simp <;> (with_reducible rfl))
          try simp only [Act.put, List.setIfInBounds_toArray, List.set_cons_zero, List.set_cons_succ]
          refine wpAnyH_take (i := 7) (oi := ⟨some 153, _, _, _, _, _⟩) (v := ?_) rfl (by kernel_rfl) (by kernel_rfl) (by kernel_rfl) (fun _ _ _ h => h) (Or.inl ⟨by rfl, ?_⟩) (by assumption) ?_
          rotate_left
          · (intro w' hSw; (try dsimp only at hSw); go_simp <;> (with_reducible rfl))
          try simp only [Act.put, List.setIfInBounds_toArray, List.set_cons_zero, List.set_cons_succ]
          refine wpAnyH_take (i := 8) (oi := ⟨some 154, _, _, _, _, _⟩) (v := ?_) rfl (by kernel_rfl) (by kernel_rfl) (by kernel_rfl) (fun _ _ _ h => h) (Or.inl ⟨by rfl, ?_⟩) (by assumption) ?_
          rotate_left
          · (intro w' hSw; (try dsimp only at hSw); go_simp <;> (with_reducible rfl))
          try simp only [Act.put, List.setIfInBounds_toArray, List.set_cons_zero, List.set_cons_succ]
          refine wpAnyH_take (i := 9) (oi := ⟨some 155, _, _, _, _, _⟩) (v := ?_) rfl (by kernel_rfl) (by kernel_rfl) (by kernel_rfl) (fun _ _ _ h => h) (Or.inl ⟨by rfl, ?_⟩) (by assumption) ?_
          rotate_left
          · (intro w' hSw; (try dsimp only at hSw); go_simp <;> (with_reducible rfl))
          try simp only [Act.put, List.setIfInBounds_toArray, List.set_cons_zero, List.set_cons_succ]
          refine wpAnyH_ready (rs := [10]) (by kernel_rfl) (by simp) ?_
          refine AllReadyH.cons (o := ⟨some 156, _, _, _, _, _⟩) rfl (fun K' hK => ?_) AllReadyH.nil
          go_simp
          go_at_call 47
          refine (HSD.out _).mono ?_
          rintro e_ v_ ⟨rfl, rfl⟩
          go_wp2_with fail
          refine hK.out _ _ ⟨by have := intsAt_cellK HI1.out hlt; rw [HE0.out, Nat.zero_add] at this; exact this, by have := intsAt_cellK HI2.out hlt; rw [HE1.out, Nat.zero_add] at this; exact this⟩ (fun hHeld => ?_)
          clear hK K'
          try simp only [Act.put, List.setIfInBounds_toArray, List.set_cons_zero, List.set_cons_succ]
          refine wpAnyH_take (i := 11) (oi := ⟨some 157, _, _, _, _, _⟩) (v := ?_) rfl (by kernel_rfl) (by kernel_rfl) (by kernel_rfl) (fun _ _ _ h => h) (Or.inl ⟨by rfl, ?_⟩) (by assumption) ?_
          rotate_left
          · (intro w' hSw; (try dsimp only at hSw); go_simp <;> (with_reducible rfl))
          try simp only [Act.put, List.setIfInBounds_toArray, List.set_cons_zero, List.set_cons_succ]
          refine wpAnyH_take (i := 12) (oi := ⟨some 17, _, _, _, _, _⟩) (v := ?_) rfl (by kernel_rfl) (by kernel_rfl) (by kernel_rfl) (fun _ _ _ h => h) (Or.inl ⟨by rfl, ?_⟩) (by assumption) ?_
          rotate_left
          · (intro w' hSw; (try dsimp only at hSw); go_simp <;> (with_reducible rfl))
          try simp only [Act.put, List.setIfInBounds_toArray, List.set_cons_zero, List.set_cons_succ]
          refine wpAnyH_done (by kernel_rfl) ?_ _
          clear hHeld HSD
          go_wp2_with fail
          go_roundw
          case rel => exact ⟨k + 1, by omega, by rw [HSTEP.out] <;> first | rfl | go_num, by go_num, HI1, HI2, HB⟩
          case measure => simp [Go.RowKit.intOf] <;> omega
      by_cases hc : σ = 0
      case pos =>
        obtain rfl : ρ = 2 := by omega
        obtain rfl : σ = 0 := by omega
        have hd := HNE.out (by decide) (by decide)
        clear hs2 hc r9 s9
        have HD := hide hd
        clear hd HNE HSX HSY
        go_wp2_with fail
        refine (HBO.out i _ (by omega)).mono ?_
        rintro e_ w_930 ⟨g1, rfl, hI1, hb_930⟩
        replace HGP := hide (HGP.out.below hb_930)
        replace HX2 := hide (HX2.out.below hb_930)
        replace HX1 := hide (HX1.out.below hb_930)
        replace HB := hide (HB.out.trans (hb_930.mono HB.out.size))
        clear hb_930
        have HI1 := hide hI1
        clear hI1
        go_wp2_with fail
        refine (HBO.out j _ (by omega)).mono ?_
        rintro e_ w_931 ⟨g2, rfl, hI2, hb_931⟩
        replace HGP := hide (HGP.out.below hb_931)
        replace HX2 := hide (HX2.out.below hb_931)
        replace HX1 := hide (HX1.out.below hb_931)
        replace HI1 := hide (HI1.out.below hb_931)
        replace HB := hide (HB.out.trans (hb_931.mono HB.out.size))
        clear hb_931
        have HI2 := hide hI2
        clear hI2
        go_wp2_with fail
        go_loopw [17, 18] (fun d n wr => ∃ k : Nat, k ≤ m ∧ d = .int .i64 (difF m i j k) ∧ n = .int .i64 (k : Int) ∧ Hid (IntsAt wr 0 (some ⟨g1, 0, none⟩) m (labF m i)) ∧ Hid (IntsAt wr 0 (some ⟨g2, 0, none⟩) m (labF m j)) ∧ Hid (Below w.heap.size w wr)) (fun _ n _ => m - (Go.RowKit.intOf n).toNat)
        case atStart => exact ⟨0, Nat.zero_le _, rfl, rfl, HI1, HI2, HB⟩
        case round =>
          clear HI1 HI2 HB HX1 HX2 HGP
          obtain ⟨k, hk, rfl, rfl, HI1, HI2, HB⟩ := hrel
          obtain ⟨wA, rfl⟩ : ∃ x : World, x = wr := ⟨_, rfl⟩
          by_cases hlt : k < m
          case neg =>
            obtain rfl : k = m := by omega
            have hltz : ¬ (k : Int) < (k : Int) := by omega
            rw [HD.out]
            clear HI1 HI2 HBO
            go_wp2_with fail
            go_ret
            exact ⟨rfl, HB.out⟩
          have hltz : (k : Int) < (m : Int) := by omega
          have HSTEP := hide (show difF m i j (k + 1) = difF m i j k + sizZ (labF m i k - labF m j k) from rfl)
          have hdl := difF_le m i j k
          have k0 := intsAt_cellK HI1.out hlt
          have k1 := intsAt_cellK HI2.out hlt
          have l0 := labF_bit m i k
          have l1 := labF_bit m j k
          simp only [Nat.zero_add] at k0 k1
          obtain ⟨d, hd⟩ : ∃ z, difF m i j k = z := ⟨_, rfl⟩
          obtain ⟨e0, he0⟩ : ∃ z, labF m i k = z := ⟨_, rfl⟩
          obtain ⟨e1, he1⟩ : ∃ z, labF m j k = z := ⟨_, rfl⟩
          rw [hd] at hdl ⊢
          rw [he0] at l0 k0
          rw [he1] at l1 k1
          rw [hd, he0, he1] at HSTEP
          have HE0 := hide he0
          have HE1 := hide he1
          clear hd he0 he1
          have lz : -1 ≤ e0 - e1 ∧ e0 - e1 ≤ 1 := by rcases l0 with rfl | rfl <;> rcases l1 with rfl | rfl <;> decide
          have q5 : IntKind.i64.wrap (e0 - e1) = e0 - e1 := IntWalk.i64_in _ (by omega)
          have HSD := hide (fun W => sizeZ_any (e0 - e1) W (by omega))
          have hsz : 0 ≤ sizZ (e0 - e1) ∧ sizZ (e0 - e1) ≤ 1 := by unfold sizZ; omega
          obtain ⟨t, ht⟩ : ∃ z, sizZ (e0 - e1) = z := ⟨_, rfl⟩
          rw [ht] at HSD HSTEP hsz
          have q6 : IntKind.i64.wrap (d + t) = d + t := IntWalk.i64_in _ (by omega)
          clear ht l0 l1 k0 k1
          go_upto_region 20 with fail
          refine wp_region_held_drew (S := fun w' => w'.cell? ⟨g1, k, none⟩ = some (.int .i64 e0) ∧ w'.cell? ⟨g2, k, none⟩ = some (.int .i64 e1)) (by kernel_rfl) ⟨by have := intsAt_cellK HI1.out hlt; rw [HE0.out, Nat.zero_add] at this; exact this, by have := intsAt_cellK HI2.out hlt; rw [HE1.out, Nat.zero_add] at this; exact this⟩ (fun hHeld => ?_)
          obtain ⟨w_932, hw_932⟩ : ∃ q : World, q = wA.drew := ⟨_, rfl⟩
          rw [← hw_932] at hHeld ⊢
          have hc_932 : Below wA.heap.size wA w_932 := by rw [hw_932]; exact (Below.refl _ _).drew
          clear hw_932
          replace HI1 := hide (HI1.out.below hc_932)
          replace HI2 := hide (HI2.out.below hc_932)
          replace HB := hide (HB.out.trans (hc_932.mono HB.out.size))
          clear hc_932
          refine wpAnyH_take (i := 0) (oi := ⟨some 146, _, _, _, _, _⟩) (v := ?_) rfl (by kernel_rfl) (by kernel_rfl) (by kernel_rfl) (fun _ _ _ h => h) (Or.inl ⟨by rfl, ?_⟩) (by assumption) ?_
          rotate_left
          · (intro w' hSw; (try dsimp only at hSw); go_simp <;> (with_reducible rfl))
          try simp only [Act.put, List.setIfInBounds_toArray, List.set_cons_zero, List.set_cons_succ]
          refine wpAnyH_take (i := 1) (oi := ⟨some 147, _, _, _, _, _⟩) (v := ?_) rfl (by kernel_rfl) (by kernel_rfl) (by kernel_rfl) (fun _ _ _ h => h) (Or.inl ⟨by rfl, ?_⟩) (by assumption) ?_
          rotate_left
          · (intro w' hSw; (try dsimp only at hSw); go_simp <;> (with_reducible rfl))
          try simp only [Act.put, List.setIfInBounds_toArray, List.set_cons_zero, List.set_cons_succ]
          refine wpAnyH_take (i := 2) (oi := ⟨some 148, _, _, _, _, _⟩) (v := ?_) rfl (by kernel_rfl) (by kernel_rfl) (by kernel_rfl) (fun _ _ _ h => h) (Or.inl ⟨by rfl, ?_⟩) (by assumption) ?_
          rotate_left
          · (intro w' hSw; (try dsimp only at hSw); go_simp <;> (with_reducible rfl))
          try simp only [Act.put, List.setIfInBounds_toArray, List.set_cons_zero, List.set_cons_succ]
          refine wpAnyH_take (i := 3) (oi := ⟨some 149, _, _, _, _, _⟩) (v := ?_) rfl (by kernel_rfl) (by kernel_rfl) (by kernel_rfl) (fun _ _ _ h => h) (Or.inl ⟨by rfl, ?_⟩) (by assumption) ?_
          rotate_left
          · (intro w' hSw; (try dsimp only at hSw); go_simp <;> (with_reducible rfl))
          try simp only [Act.put, List.setIfInBounds_toArray, List.set_cons_zero, List.set_cons_succ]
          refine wpAnyH_take (i := 4) (oi := ⟨some 150, _, _, _, _, _⟩) (v := ?_) rfl (by kernel_rfl) (by kernel_rfl) (by kernel_rfl) (fun _ _ _ h => h) (Or.inl ⟨by rfl, ?_⟩) (by assumption) ?_
          rotate_left
          · (intro w' hSw; (try dsimp only at hSw); go_simp <;> (with_reducible rfl))
          try simp only [Act.put, List.setIfInBounds_toArray, List.set_cons_zero, List.set_cons_succ]
          refine wpAnyH_take (i := 5) (oi := ⟨some 151, _, _, _, _, _⟩) (v := ?_) rfl (by kernel_rfl) (by kernel_rfl) (by kernel_rfl) (fun _ _ _ h => h) (Or.inl ⟨by rfl, ?_⟩) (by assumption) ?_
          rotate_left
          · (intro w' hSw; (try dsimp only at hSw); go_simp <;> (with_reducible rfl))
          try simp only [Act.put, List.setIfInBounds_toArray, List.set_cons_zero, List.set_cons_succ]
          refine wpAnyH_take (i := 6) (oi := ⟨some 152, _, _, _, _, _⟩) (v := ?_) rfl (by kernel_rfl) (by kernel_rfl) (by kernel_rfl) (fun _ _ _ h => h) (Or.inl ⟨by rfl, ?_⟩) (by assumption) ?_
          rotate_left
          · (intro w' hSw; (try dsimp only at hSw); go_simp <;> (with_reducible rfl))
          try simp only [Act.put, List.setIfInBounds_toArray, List.set_cons_zero, List.set_cons_succ]
          refine wpAnyH_take (i := 7) (oi := ⟨some 153, _, _, _, _, _⟩) (v := ?_) rfl (by kernel_rfl) (by kernel_rfl) (by kernel_rfl) (fun _ _ _ h => h) (Or.inl ⟨by rfl, ?_⟩) (by assumption) ?_
          rotate_left
          · (intro w' hSw; (try dsimp only at hSw); go_simp <;> (with_reducible rfl))
          try simp only [Act.put, List.setIfInBounds_toArray, List.set_cons_zero, List.set_cons_succ]
          refine wpAnyH_take (i := 8) (oi := ⟨some 154, _, _, _, _, _⟩) (v := ?_) rfl (by kernel_rfl) (by kernel_rfl) (by kernel_rfl) (fun _ _ _ h => h) (Or.inl ⟨by rfl, ?_⟩) (by assumption) ?_
          rotate_left
          · (intro w' hSw; (try dsimp only at hSw); go_simp <;> (with_reducible rfl))
          try simp only [Act.put, List.setIfInBounds_toArray, List.set_cons_zero, List.set_cons_succ]
          refine wpAnyH_take (i := 9) (oi := ⟨some 155, _, _, _, _, _⟩) (v := ?_) rfl (by kernel_rfl) (by kernel_rfl) (by kernel_rfl) (fun _ _ _ h => h) (Or.inl ⟨by rfl, ?_⟩) (by assumption) ?_
          rotate_left
          · (intro w' hSw; (try dsimp only at hSw); go_simp <;> (with_reducible rfl))
          try simp only [Act.put, List.setIfInBounds_toArray, List.set_cons_zero, List.set_cons_succ]
          refine wpAnyH_ready (rs := [10]) (by kernel_rfl) (by simp) ?_
          refine AllReadyH.cons (o := ⟨some 156, _, _, _, _, _⟩) rfl (fun K' hK => ?_) AllReadyH.nil
          go_simp
          go_at_call 47
          refine (HSD.out _).mono ?_
          rintro e_ v_ ⟨rfl, rfl⟩
          go_wp2_with fail
          refine hK.out _ _ ⟨by have := intsAt_cellK HI1.out hlt; rw [HE0.out, Nat.zero_add] at this; exact this, by have := intsAt_cellK HI2.out hlt; rw [HE1.out, Nat.zero_add] at this; exact this⟩ (fun hHeld => ?_)
          clear hK K'
          try simp only [Act.put, List.setIfInBounds_toArray, List.set_cons_zero, List.set_cons_succ]
          refine wpAnyH_take (i := 11) (oi := ⟨some 157, _, _, _, _, _⟩) (v := ?_) rfl (by kernel_rfl) (by kernel_rfl) (by kernel_rfl) (fun _ _ _ h => h) (Or.inl ⟨by rfl, ?_⟩) (by assumption) ?_
          rotate_left
          · (intro w' hSw; (try dsimp only at hSw); go_simp <;> (with_reducible rfl))
          try simp only [Act.put, List.setIfInBounds_toArray, List.set_cons_zero, List.set_cons_succ]
          refine wpAnyH_take (i := 12) (oi := ⟨some 17, _, _, _, _, _⟩) (v := ?_) rfl (by kernel_rfl) (by kernel_rfl) (by kernel_rfl) (fun _ _ _ h => h) (Or.inl ⟨by rfl, ?_⟩) (by assumption) ?_
          rotate_left
          · (intro w' hSw; (try dsimp only at hSw); go_simp <;> (with_reducible rfl))
          try simp only [Act.put, List.setIfInBounds_toArray, List.set_cons_zero, List.set_cons_succ]
          refine wpAnyH_done (by kernel_rfl) ?_ _
          clear hHeld HSD
          go_wp2_with fail
          go_roundw
          case rel => exact ⟨k + 1, by omega, by rw [HSTEP.out] <;> first | rfl | go_num, by go_num, HI1, HI2, HB⟩
          case measure => simp [Go.RowKit.intOf] <;> omega
      obtain rfl : ρ = 1 := by omega
      obtain rfl : σ = 1 := by omega
      clear HNE hs2
      go_wp2_with fail
      go_ret
      exact ⟨rfl, HB.out⟩
    clear hap hij
    obtain ⟨z0, z1, zf0, zf1, hlz⟩ := HX1.out.t2
    obtain ⟨u0, u1, uf0, uf1, hlu⟩ := HX2.out.t2
    go_wp2_with fail
    refine (HMX.out _).mono ?_
    rintro e_ v_ ⟨rfl, rfl⟩
    go_wp2_with fail
    refine (HMY.out _).mono ?_
    rintro e_ v_ ⟨rfl, rfl⟩
    go_wp2_with fail
    refine (HWx1.out _).mono ?_
    rintro e_ v_ ⟨rfl, rfl⟩
    go_wp2_with fail
    refine (HWy1.out _).mono ?_
    rintro e_ v_ ⟨rfl, rfl⟩
    go_wp2_with fail
    refine (HWx2.out _).mono ?_
    rintro e_ v_ ⟨rfl, rfl⟩
    go_wp2_with fail
    refine (HWy2.out _).mono ?_
    rintro e_ v_ ⟨rfl, rfl⟩
    go_upto_region 12 with fail
    clear z0 z1 zf0 zf1 hlz u0 u1 uf0 uf1 hlu HMX HMY HWx1 HWy1 HWx2 HWy2
    refine wp_region_held_drew (S := fun w' => w'.cell? ⟨b11, 0, none⟩ = some (.int .i64 x1) ∧ w'.cell? ⟨b11, 1, none⟩ = some (.int .i64 y1) ∧ w'.cell? ⟨b12, 0, none⟩ = some (.int .i64 x2) ∧ w'.cell? ⟨b12, 1, none⟩ = some (.int .i64 y2)) (by kernel_rfl) ⟨HX1.out.t2.1, HX1.out.t2.2.1, HX2.out.t2.1, HX2.out.t2.2.1⟩ (fun hHeld => ?_)
    obtain ⟨w_933, hw_933⟩ : ∃ q : World, q = w_924.drew := ⟨_, rfl⟩
    rw [← hw_933] at hHeld ⊢
    have hc_933 : Below w_924.heap.size w_924 w_933 := by rw [hw_933]; exact (Below.refl _ _).drew
    clear hw_933
    replace HGP := hide (HGP.out.below hc_933)
    replace HX2 := hide (HX2.out.below hc_933)
    replace HX1 := hide (HX1.out.below hc_933)
    replace HB := hide (HB.out.trans (hc_933.mono HB.out.size))
    clear hc_933
    refine wpAnyH_take (i := 0) (oi := ⟨some 111, _, _, _, _, _⟩) (v := ?_) rfl (by kernel_rfl) (by kernel_rfl) (by kernel_rfl) (fun _ _ _ h => h) (Or.inl ⟨by rfl, ?_⟩) (by assumption) ?_
    rotate_left
    · (intro w' hSw; (try dsimp only at hSw); go_simp <;> (with_reducible rfl))
    try simp only [Act.put, List.setIfInBounds_toArray, List.set_cons_zero, List.set_cons_succ]
    refine wpAnyH_take (i := 1) (oi := ⟨some 112, _, _, _, _, _⟩) (v := ?_) rfl (by kernel_rfl) (by kernel_rfl) (by kernel_rfl) (fun _ _ _ h => h) (Or.inl ⟨by rfl, ?_⟩) (by assumption) ?_
    rotate_left
    · (intro w' hSw; (try dsimp only at hSw); go_simp <;> (with_reducible rfl))
    try simp only [Act.put, List.setIfInBounds_toArray, List.set_cons_zero, List.set_cons_succ]
    refine wpAnyH_take (i := 2) (oi := ⟨some 113, _, _, _, _, _⟩) (v := ?_) rfl (by kernel_rfl) (by kernel_rfl) (by kernel_rfl) (fun _ _ _ h => h) (Or.inl ⟨by rfl, ?_⟩) (by assumption) ?_
    rotate_left
    · (intro w' hSw; (try dsimp only at hSw); go_simp <;> (with_reducible rfl))
    try simp only [Act.put, List.setIfInBounds_toArray, List.set_cons_zero, List.set_cons_succ]
    refine wpAnyH_take (i := 3) (oi := ⟨some 114, _, _, _, _, _⟩) (v := ?_) rfl (by kernel_rfl) (by kernel_rfl) (by kernel_rfl) (fun _ _ _ h => h) (Or.inl ⟨by rfl, ?_⟩) (by assumption) ?_
    rotate_left
    · (intro w' hSw; (try dsimp only at hSw); go_simp <;> (with_reducible rfl))
    try simp only [Act.put, List.setIfInBounds_toArray, List.set_cons_zero, List.set_cons_succ]
    refine wpAnyH_take (i := 4) (oi := ⟨some 115, _, _, _, _, _⟩) (v := ?_) rfl (by kernel_rfl) (by kernel_rfl) (by kernel_rfl) (fun _ _ _ h => h) (Or.inl ⟨by rfl, ?_⟩) (by assumption) ?_
    rotate_left
    · (intro w' hSw; (try dsimp only at hSw); go_simp <;> (with_reducible rfl))
    try simp only [Act.put, List.setIfInBounds_toArray, List.set_cons_zero, List.set_cons_succ]
    refine wpAnyH_take (i := 6) (oi := ⟨some 117, _, _, _, _, _⟩) (v := ?_) rfl (by kernel_rfl) (by kernel_rfl) (by kernel_rfl) (fun _ _ _ h => h) (Or.inl ⟨by rfl, ?_⟩) (by assumption) ?_
    rotate_left
    · (intro w' hSw; (try dsimp only at hSw); go_simp <;> (with_reducible rfl))
    try simp only [Act.put, List.setIfInBounds_toArray, List.set_cons_zero, List.set_cons_succ]
    refine wpAnyH_take (i := 7) (oi := ⟨some 118, _, _, _, _, _⟩) (v := ?_) rfl (by kernel_rfl) (by kernel_rfl) (by kernel_rfl) (fun _ _ _ h => h) (Or.inl ⟨by rfl, ?_⟩) (by assumption) ?_
    rotate_left
    · (intro w' hSw; (try dsimp only at hSw); go_simp <;> (with_reducible rfl))
    try simp only [Act.put, List.setIfInBounds_toArray, List.set_cons_zero, List.set_cons_succ]
    refine wpAnyH_take (i := 8) (oi := ⟨some 119, _, _, _, _, _⟩) (v := ?_) rfl (by kernel_rfl) (by kernel_rfl) (by kernel_rfl) (fun _ _ _ h => h) (Or.inl ⟨by rfl, ?_⟩) (by assumption) ?_
    rotate_left
    · (intro w' hSw; (try dsimp only at hSw); go_simp <;> (with_reducible rfl))
    try simp only [Act.put, List.setIfInBounds_toArray, List.set_cons_zero, List.set_cons_succ]
    refine wpAnyH_take (i := 9) (oi := ⟨some 120, _, _, _, _, _⟩) (v := ?_) rfl (by kernel_rfl) (by kernel_rfl) (by kernel_rfl) (fun _ _ _ h => h) (Or.inl ⟨by rfl, ?_⟩) (by assumption) ?_
    rotate_left
    · (intro w' hSw; (try dsimp only at hSw); go_simp <;> (with_reducible rfl))
    try simp only [Act.put, List.setIfInBounds_toArray, List.set_cons_zero, List.set_cons_succ]
    refine wpAnyH_take (i := 10) (oi := ⟨some 121, _, _, _, _, _⟩) (v := ?_) rfl (by kernel_rfl) (by kernel_rfl) (by kernel_rfl) (fun _ _ _ h => h) (Or.inl ⟨by rfl, ?_⟩) (by assumption) ?_
    rotate_left
    · (intro w' hSw; (try dsimp only at hSw); go_simp <;> (with_reducible rfl))
    try simp only [Act.put, List.setIfInBounds_toArray, List.set_cons_zero, List.set_cons_succ]
    refine wpAnyH_ready (rs := [5]) (by kernel_rfl) (by simp) ?_
    refine AllReadyH.cons (o := ⟨some 116, _, _, _, _, _⟩) rfl (fun K' hK => ?_) AllReadyH.nil
    go_simp
    go_at_call 47
    refine (HSX.out _).mono ?_
    rintro e_ v_ ⟨rfl, rfl⟩
    go_wp2_with fail
    refine hK.out _ _ ⟨HX1.out.t2.1, HX1.out.t2.2.1, HX2.out.t2.1, HX2.out.t2.2.1⟩ (fun hHeld => ?_)
    clear hK K'
    try simp only [Act.put, List.setIfInBounds_toArray, List.set_cons_zero, List.set_cons_succ]
    refine wpAnyH_ready (rs := [11]) (by kernel_rfl) (by simp) ?_
    refine AllReadyH.cons (o := ⟨some 122, _, _, _, _, _⟩) rfl (fun K' hK => ?_) AllReadyH.nil
    go_simp
    go_at_call 47
    refine (HSY.out _).mono ?_
    rintro e_ v_ ⟨rfl, rfl⟩
    go_wp2_with fail
    refine hK.out _ _ ⟨HX1.out.t2.1, HX1.out.t2.2.1, HX2.out.t2.1, HX2.out.t2.2.1⟩ (fun hHeld => ?_)
    clear hK K'
    try simp only [Act.put, List.setIfInBounds_toArray, List.set_cons_zero, List.set_cons_succ]
    refine wpAnyH_take (i := 12) (oi := ⟨some 13, _, _, _, _, _⟩) (v := ?_) rfl (by kernel_rfl) (by kernel_rfl) (by kernel_rfl) (fun _ _ _ h => h) (Or.inl ⟨by rfl, ?_⟩) (by assumption) ?_
    rotate_left
    · (intro w' hSw; (try dsimp only at hSw); go_simp <;> (with_reducible rfl))
    try simp only [Act.put, List.setIfInBounds_toArray, List.set_cons_zero, List.set_cons_succ]
    refine wpAnyH_take (i := 13) (oi := ⟨some 14, _, _, _, _, _⟩) (v := ?_) rfl (by kernel_rfl) (by kernel_rfl) (by kernel_rfl) (fun _ _ _ h => h) (Or.inl ⟨by rfl, ?_⟩) (by assumption) ?_
    rotate_left
    · (intro w' hSw; (try dsimp only at hSw); go_simp <;> (with_reducible rfl))
    try simp only [Act.put, List.setIfInBounds_toArray, List.set_cons_zero, List.set_cons_succ]
    refine wpAnyH_done (by kernel_rfl) ?_ _
    clear hHeld
    by_cases hs2 : ρ + σ = 2
    case neg =>
      have q3 : IntKind.i64.wrap (ρ + σ) = ρ + σ := IntWalk.i64_in _ (by omega)
      have t5 : (ρ + σ != 2) = true := by simpa using hs2
      clear HNE
      go_wp2_with fail
      go_ret
      exact ⟨rfl, HB.out⟩
    by_cases hc : ρ = 0
    case pos =>
      obtain rfl : ρ = 0 := by omega
      obtain rfl : σ = 2 := by omega
      have hd := HNE.out (by decide) (by decide)
      clear hs2 hc r9 s9
      have HD := hide hd
      clear hd HNE HSX HSY
      go_wp2_with fail
      refine (HBO.out i _ (by omega)).mono ?_
      rintro e_ w_934 ⟨g1, rfl, hI1, hb_934⟩
      replace HGP := hide (HGP.out.below hb_934)
      replace HX2 := hide (HX2.out.below hb_934)
      replace HX1 := hide (HX1.out.below hb_934)
      replace HB := hide (HB.out.trans (hb_934.mono HB.out.size))
      clear hb_934
      have HI1 := hide hI1
      clear hI1
      go_wp2_with fail
      refine (HBO.out j _ (by omega)).mono ?_
      rintro e_ w_935 ⟨g2, rfl, hI2, hb_935⟩
      replace HGP := hide (HGP.out.below hb_935)
      replace HX2 := hide (HX2.out.below hb_935)
      replace HX1 := hide (HX1.out.below hb_935)
      replace HI1 := hide (HI1.out.below hb_935)
      replace HB := hide (HB.out.trans (hb_935.mono HB.out.size))
      clear hb_935
      have HI2 := hide hI2
      clear hI2
      go_wp2_with fail
      go_loopw [17, 18] (fun d n wr => ∃ k : Nat, k ≤ m ∧ d = .int .i64 (difF m i j k) ∧ n = .int .i64 (k : Int) ∧ Hid (IntsAt wr 0 (some ⟨g1, 0, none⟩) m (labF m i)) ∧ Hid (IntsAt wr 0 (some ⟨g2, 0, none⟩) m (labF m j)) ∧ Hid (Below w.heap.size w wr)) (fun _ n _ => m - (Go.RowKit.intOf n).toNat)
      case atStart => exact ⟨0, Nat.zero_le _, rfl, rfl, HI1, HI2, HB⟩
      case round =>
        clear HI1 HI2 HB HX1 HX2 HGP
        obtain ⟨k, hk, rfl, rfl, HI1, HI2, HB⟩ := hrel
        obtain ⟨wA, rfl⟩ : ∃ x : World, x = wr := ⟨_, rfl⟩
        by_cases hlt : k < m
        case neg =>
          obtain rfl : k = m := by omega
          have hltz : ¬ (k : Int) < (k : Int) := by omega
          rw [HD.out]
          clear HI1 HI2 HBO
          go_wp2_with fail
          go_ret
          exact ⟨rfl, HB.out⟩
        have hltz : (k : Int) < (m : Int) := by omega
        have HSTEP := hide (show difF m i j (k + 1) = difF m i j k + sizZ (labF m i k - labF m j k) from rfl)
        have hdl := difF_le m i j k
        have k0 := intsAt_cellK HI1.out hlt
        have k1 := intsAt_cellK HI2.out hlt
        have l0 := labF_bit m i k
        have l1 := labF_bit m j k
        simp only [Nat.zero_add] at k0 k1
        obtain ⟨d, hd⟩ : ∃ z, difF m i j k = z := ⟨_, rfl⟩
        obtain ⟨e0, he0⟩ : ∃ z, labF m i k = z := ⟨_, rfl⟩
        obtain ⟨e1, he1⟩ : ∃ z, labF m j k = z := ⟨_, rfl⟩
        rw [hd] at hdl ⊢
        rw [he0] at l0 k0
        rw [he1] at l1 k1
        rw [hd, he0, he1] at HSTEP
        have HE0 := hide he0
        have HE1 := hide he1
        clear hd he0 he1
        have lz : -1 ≤ e0 - e1 ∧ e0 - e1 ≤ 1 := by rcases l0 with rfl | rfl <;> rcases l1 with rfl | rfl <;> decide
        have q5 : IntKind.i64.wrap (e0 - e1) = e0 - e1 := IntWalk.i64_in _ (by omega)
        have HSD := hide (fun W => sizeZ_any (e0 - e1) W (by omega))
        have hsz : 0 ≤ sizZ (e0 - e1) ∧ sizZ (e0 - e1) ≤ 1 := by unfold sizZ; omega
        obtain ⟨t, ht⟩ : ∃ z, sizZ (e0 - e1) = z := ⟨_, rfl⟩
        rw [ht] at HSD HSTEP hsz
        have q6 : IntKind.i64.wrap (d + t) = d + t := IntWalk.i64_in _ (by omega)
        clear ht l0 l1 k0 k1
        go_upto_region 20 with fail
        refine wp_region_held_drew (S := fun w' => w'.cell? ⟨g1, k, none⟩ = some (.int .i64 e0) ∧ w'.cell? ⟨g2, k, none⟩ = some (.int .i64 e1)) (by kernel_rfl) ⟨by have := intsAt_cellK HI1.out hlt; rw [HE0.out, Nat.zero_add] at this; exact this, by have := intsAt_cellK HI2.out hlt; rw [HE1.out, Nat.zero_add] at this; exact this⟩ (fun hHeld => ?_)
        obtain ⟨w_936, hw_936⟩ : ∃ q : World, q = wA.drew := ⟨_, rfl⟩
        rw [← hw_936] at hHeld ⊢
        have hc_936 : Below wA.heap.size wA w_936 := by rw [hw_936]; exact (Below.refl _ _).drew
        clear hw_936
        replace HI1 := hide (HI1.out.below hc_936)
        replace HI2 := hide (HI2.out.below hc_936)
        replace HB := hide (HB.out.trans (hc_936.mono HB.out.size))
        clear hc_936
        refine wpAnyH_take (i := 0) (oi := ⟨some 146, _, _, _, _, _⟩) (v := ?_) rfl (by kernel_rfl) (by kernel_rfl) (by kernel_rfl) (fun _ _ _ h => h) (Or.inl ⟨by rfl, ?_⟩) (by assumption) ?_
        rotate_left
        · (intro w' hSw; (try dsimp only at hSw); go_simp <;> (with_reducible rfl))
        try simp only [Act.put, List.setIfInBounds_toArray, List.set_cons_zero, List.set_cons_succ]
        refine wpAnyH_take (i := 1) (oi := ⟨some 147, _, _, _, _, _⟩) (v := ?_) rfl (by kernel_rfl) (by kernel_rfl) (by kernel_rfl) (fun _ _ _ h => h) (Or.inl ⟨by rfl, ?_⟩) (by assumption) ?_
        rotate_left
        · (intro w' hSw; (try dsimp only at hSw); go_simp <;> (with_reducible rfl))
        try simp only [Act.put, List.setIfInBounds_toArray, List.set_cons_zero, List.set_cons_succ]
        refine wpAnyH_take (i := 2) (oi := ⟨some 148, _, _, _, _, _⟩) (v := ?_) rfl (by kernel_rfl) (by kernel_rfl) (by kernel_rfl) (fun _ _ _ h => h) (Or.inl ⟨by rfl, ?_⟩) (by assumption) ?_
        rotate_left
        · (intro w' hSw; (try dsimp only at hSw); go_simp <;> (with_reducible rfl))
        try simp only [Act.put, List.setIfInBounds_toArray, List.set_cons_zero, List.set_cons_succ]
        refine wpAnyH_take (i := 3) (oi := ⟨some 149, _, _, _, _, _⟩) (v := ?_) rfl (by kernel_rfl) (by kernel_rfl) (by kernel_rfl) (fun _ _ _ h => h) (Or.inl ⟨by rfl, ?_⟩) (by assumption) ?_
        rotate_left
        · (intro w' hSw; (try dsimp only at hSw); go_simp <;> (with_reducible rfl))
        try simp only [Act.put, List.setIfInBounds_toArray, List.set_cons_zero, List.set_cons_succ]
        refine wpAnyH_take (i := 4) (oi := ⟨some 150, _, _, _, _, _⟩) (v := ?_) rfl (by kernel_rfl) (by kernel_rfl) (by kernel_rfl) (fun _ _ _ h => h) (Or.inl ⟨by rfl, ?_⟩) (by assumption) ?_
        rotate_left
        · (intro w' hSw; (try dsimp only at hSw); go_simp <;> (with_reducible rfl))
        try simp only [Act.put, List.setIfInBounds_toArray, List.set_cons_zero, List.set_cons_succ]
        refine wpAnyH_take (i := 5) (oi := ⟨some 151, _, _, _, _, _⟩) (v := ?_) rfl (by kernel_rfl) (by kernel_rfl) (by kernel_rfl) (fun _ _ _ h => h) (Or.inl ⟨by rfl, ?_⟩) (by assumption) ?_
        rotate_left
        · (intro w' hSw; (try dsimp only at hSw); go_simp <;> (with_reducible rfl))
        try simp only [Act.put, List.setIfInBounds_toArray, List.set_cons_zero, List.set_cons_succ]
        refine wpAnyH_take (i := 6) (oi := ⟨some 152, _, _, _, _, _⟩) (v := ?_) rfl (by kernel_rfl) (by kernel_rfl) (by kernel_rfl) (fun _ _ _ h => h) (Or.inl ⟨by rfl, ?_⟩) (by assumption) ?_
        rotate_left
        · (intro w' hSw; (try dsimp only at hSw); go_simp <;> (with_reducible rfl))
        try simp only [Act.put, List.setIfInBounds_toArray, List.set_cons_zero, List.set_cons_succ]
        refine wpAnyH_take (i := 7) (oi := ⟨some 153, _, _, _, _, _⟩) (v := ?_) rfl (by kernel_rfl) (by kernel_rfl) (by kernel_rfl) (fun _ _ _ h => h) (Or.inl ⟨by rfl, ?_⟩) (by assumption) ?_
        rotate_left
        · (intro w' hSw; (try dsimp only at hSw); go_simp <;> (with_reducible rfl))
        try simp only [Act.put, List.setIfInBounds_toArray, List.set_cons_zero, List.set_cons_succ]
        refine wpAnyH_take (i := 8) (oi := ⟨some 154, _, _, _, _, _⟩) (v := ?_) rfl (by kernel_rfl) (by kernel_rfl) (by kernel_rfl) (fun _ _ _ h => h) (Or.inl ⟨by rfl, ?_⟩) (by assumption) ?_
        rotate_left
        · (intro w' hSw; (try dsimp only at hSw); go_simp <;> (with_reducible rfl))
        try simp only [Act.put, List.setIfInBounds_toArray, List.set_cons_zero, List.set_cons_succ]
        refine wpAnyH_take (i := 9) (oi := ⟨some 155, _, _, _, _, _⟩) (v := ?_) rfl (by kernel_rfl) (by kernel_rfl) (by kernel_rfl) (fun _ _ _ h => h) (Or.inl ⟨by rfl, ?_⟩) (by assumption) ?_
        rotate_left
        · (intro w' hSw; (try dsimp only at hSw); go_simp <;> (with_reducible rfl))
        try simp only [Act.put, List.setIfInBounds_toArray, List.set_cons_zero, List.set_cons_succ]
        refine wpAnyH_ready (rs := [10]) (by kernel_rfl) (by simp) ?_
        refine AllReadyH.cons (o := ⟨some 156, _, _, _, _, _⟩) rfl (fun K' hK => ?_) AllReadyH.nil
        go_simp
        go_at_call 47
        refine (HSD.out _).mono ?_
        rintro e_ v_ ⟨rfl, rfl⟩
        go_wp2_with fail
        refine hK.out _ _ ⟨by have := intsAt_cellK HI1.out hlt; rw [HE0.out, Nat.zero_add] at this; exact this, by have := intsAt_cellK HI2.out hlt; rw [HE1.out, Nat.zero_add] at this; exact this⟩ (fun hHeld => ?_)
        clear hK K'
        try simp only [Act.put, List.setIfInBounds_toArray, List.set_cons_zero, List.set_cons_succ]
        refine wpAnyH_take (i := 11) (oi := ⟨some 157, _, _, _, _, _⟩) (v := ?_) rfl (by kernel_rfl) (by kernel_rfl) (by kernel_rfl) (fun _ _ _ h => h) (Or.inl ⟨by rfl, ?_⟩) (by assumption) ?_
        rotate_left
        · (intro w' hSw; (try dsimp only at hSw); go_simp <;> (with_reducible rfl))
        try simp only [Act.put, List.setIfInBounds_toArray, List.set_cons_zero, List.set_cons_succ]
        refine wpAnyH_take (i := 12) (oi := ⟨some 17, _, _, _, _, _⟩) (v := ?_) rfl (by kernel_rfl) (by kernel_rfl) (by kernel_rfl) (fun _ _ _ h => h) (Or.inl ⟨by rfl, ?_⟩) (by assumption) ?_
        rotate_left
        · (intro w' hSw; (try dsimp only at hSw); go_simp <;> (with_reducible rfl))
        try simp only [Act.put, List.setIfInBounds_toArray, List.set_cons_zero, List.set_cons_succ]
        refine wpAnyH_done (by kernel_rfl) ?_ _
        clear hHeld HSD
        go_wp2_with fail
        go_roundw
        case rel => exact ⟨k + 1, by omega, by rw [HSTEP.out] <;> first | rfl | go_num, by go_num, HI1, HI2, HB⟩
        case measure => simp [Go.RowKit.intOf] <;> omega
    by_cases hc : σ = 0
    case pos =>
      obtain rfl : ρ = 2 := by omega
      obtain rfl : σ = 0 := by omega
      have hd := HNE.out (by decide) (by decide)
      clear hs2 hc r9 s9
      have HD := hide hd
      clear hd HNE HSX HSY
      go_wp2_with fail
      refine (HBO.out i _ (by omega)).mono ?_
      rintro e_ w_937 ⟨g1, rfl, hI1, hb_937⟩
      replace HGP := hide (HGP.out.below hb_937)
      replace HX2 := hide (HX2.out.below hb_937)
      replace HX1 := hide (HX1.out.below hb_937)
      replace HB := hide (HB.out.trans (hb_937.mono HB.out.size))
      clear hb_937
      have HI1 := hide hI1
      clear hI1
      go_wp2_with fail
      refine (HBO.out j _ (by omega)).mono ?_
      rintro e_ w_938 ⟨g2, rfl, hI2, hb_938⟩
      replace HGP := hide (HGP.out.below hb_938)
      replace HX2 := hide (HX2.out.below hb_938)
      replace HX1 := hide (HX1.out.below hb_938)
      replace HI1 := hide (HI1.out.below hb_938)
      replace HB := hide (HB.out.trans (hb_938.mono HB.out.size))
      clear hb_938
      have HI2 := hide hI2
      clear hI2
      go_wp2_with fail
      go_loopw [17, 18] (fun d n wr => ∃ k : Nat, k ≤ m ∧ d = .int .i64 (difF m i j k) ∧ n = .int .i64 (k : Int) ∧ Hid (IntsAt wr 0 (some ⟨g1, 0, none⟩) m (labF m i)) ∧ Hid (IntsAt wr 0 (some ⟨g2, 0, none⟩) m (labF m j)) ∧ Hid (Below w.heap.size w wr)) (fun _ n _ => m - (Go.RowKit.intOf n).toNat)
      case atStart => exact ⟨0, Nat.zero_le _, rfl, rfl, HI1, HI2, HB⟩
      case round =>
        clear HI1 HI2 HB HX1 HX2 HGP
        obtain ⟨k, hk, rfl, rfl, HI1, HI2, HB⟩ := hrel
        obtain ⟨wA, rfl⟩ : ∃ x : World, x = wr := ⟨_, rfl⟩
        by_cases hlt : k < m
        case neg =>
          obtain rfl : k = m := by omega
          have hltz : ¬ (k : Int) < (k : Int) := by omega
          rw [HD.out]
          clear HI1 HI2 HBO
          go_wp2_with fail
          go_ret
          exact ⟨rfl, HB.out⟩
        have hltz : (k : Int) < (m : Int) := by omega
        have HSTEP := hide (show difF m i j (k + 1) = difF m i j k + sizZ (labF m i k - labF m j k) from rfl)
        have hdl := difF_le m i j k
        have k0 := intsAt_cellK HI1.out hlt
        have k1 := intsAt_cellK HI2.out hlt
        have l0 := labF_bit m i k
        have l1 := labF_bit m j k
        simp only [Nat.zero_add] at k0 k1
        obtain ⟨d, hd⟩ : ∃ z, difF m i j k = z := ⟨_, rfl⟩
        obtain ⟨e0, he0⟩ : ∃ z, labF m i k = z := ⟨_, rfl⟩
        obtain ⟨e1, he1⟩ : ∃ z, labF m j k = z := ⟨_, rfl⟩
        rw [hd] at hdl ⊢
        rw [he0] at l0 k0
        rw [he1] at l1 k1
        rw [hd, he0, he1] at HSTEP
        have HE0 := hide he0
        have HE1 := hide he1
        clear hd he0 he1
        have lz : -1 ≤ e0 - e1 ∧ e0 - e1 ≤ 1 := by rcases l0 with rfl | rfl <;> rcases l1 with rfl | rfl <;> decide
        have q5 : IntKind.i64.wrap (e0 - e1) = e0 - e1 := IntWalk.i64_in _ (by omega)
        have HSD := hide (fun W => sizeZ_any (e0 - e1) W (by omega))
        have hsz : 0 ≤ sizZ (e0 - e1) ∧ sizZ (e0 - e1) ≤ 1 := by unfold sizZ; omega
        obtain ⟨t, ht⟩ : ∃ z, sizZ (e0 - e1) = z := ⟨_, rfl⟩
        rw [ht] at HSD HSTEP hsz
        have q6 : IntKind.i64.wrap (d + t) = d + t := IntWalk.i64_in _ (by omega)
        clear ht l0 l1 k0 k1
        go_upto_region 20 with fail
        refine wp_region_held_drew (S := fun w' => w'.cell? ⟨g1, k, none⟩ = some (.int .i64 e0) ∧ w'.cell? ⟨g2, k, none⟩ = some (.int .i64 e1)) (by kernel_rfl) ⟨by have := intsAt_cellK HI1.out hlt; rw [HE0.out, Nat.zero_add] at this; exact this, by have := intsAt_cellK HI2.out hlt; rw [HE1.out, Nat.zero_add] at this; exact this⟩ (fun hHeld => ?_)
        obtain ⟨w_939, hw_939⟩ : ∃ q : World, q = wA.drew := ⟨_, rfl⟩
        rw [← hw_939] at hHeld ⊢
        have hc_939 : Below wA.heap.size wA w_939 := by rw [hw_939]; exact (Below.refl _ _).drew
        clear hw_939
        replace HI1 := hide (HI1.out.below hc_939)
        replace HI2 := hide (HI2.out.below hc_939)
        replace HB := hide (HB.out.trans (hc_939.mono HB.out.size))
        clear hc_939
        refine wpAnyH_take (i := 0) (oi := ⟨some 146, _, _, _, _, _⟩) (v := ?_) rfl (by kernel_rfl) (by kernel_rfl) (by kernel_rfl) (fun _ _ _ h => h) (Or.inl ⟨by rfl, ?_⟩) (by assumption) ?_
        rotate_left
        · (intro w' hSw; (try dsimp only at hSw); go_simp <;> (with_reducible rfl))
        try simp only [Act.put, List.setIfInBounds_toArray, List.set_cons_zero, List.set_cons_succ]
        refine wpAnyH_take (i := 1) (oi := ⟨some 147, _, _, _, _, _⟩) (v := ?_) rfl (by kernel_rfl) (by kernel_rfl) (by kernel_rfl) (fun _ _ _ h => h) (Or.inl ⟨by rfl, ?_⟩) (by assumption) ?_
        rotate_left
        · (intro w' hSw; (try dsimp only at hSw); go_simp <;> (with_reducible rfl))
        try simp only [Act.put, List.setIfInBounds_toArray, List.set_cons_zero, List.set_cons_succ]
        refine wpAnyH_take (i := 2) (oi := ⟨some 148, _, _, _, _, _⟩) (v := ?_) rfl (by kernel_rfl) (by kernel_rfl) (by kernel_rfl) (fun _ _ _ h => h) (Or.inl ⟨by rfl, ?_⟩) (by assumption) ?_
        rotate_left
        · (intro w' hSw; (try dsimp only at hSw); go_simp <;> (with_reducible rfl))
        try simp only [Act.put, List.setIfInBounds_toArray, List.set_cons_zero, List.set_cons_succ]
        refine wpAnyH_take (i := 3) (oi := ⟨some 149, _, _, _, _, _⟩) (v := ?_) rfl (by kernel_rfl) (by kernel_rfl) (by kernel_rfl) (fun _ _ _ h => h) (Or.inl ⟨by rfl, ?_⟩) (by assumption) ?_
        rotate_left
        · (intro w' hSw; (try dsimp only at hSw); go_simp <;> (with_reducible rfl))
        try simp only [Act.put, List.setIfInBounds_toArray, List.set_cons_zero, List.set_cons_succ]
        refine wpAnyH_take (i := 4) (oi := ⟨some 150, _, _, _, _, _⟩) (v := ?_) rfl (by kernel_rfl) (by kernel_rfl) (by kernel_rfl) (fun _ _ _ h => h) (Or.inl ⟨by rfl, ?_⟩) (by assumption) ?_
        rotate_left
        · (intro w' hSw; (try dsimp only at hSw); go_simp <;> (with_reducible rfl))
        try simp only [Act.put, List.setIfInBounds_toArray, List.set_cons_zero, List.set_cons_succ]
        refine wpAnyH_take (i := 5) (oi := ⟨some 151, _, _, _, _, _⟩) (v := ?_) rfl (by kernel_rfl) (by kernel_rfl) (by kernel_rfl) (fun _ _ _ h => h) (Or.inl ⟨by rfl, ?_⟩) (by assumption) ?_
        rotate_left
        · (intro w' hSw; (try dsimp only at hSw); go_simp <;> (with_reducible rfl))
        try simp only [Act.put, List.setIfInBounds_toArray, List.set_cons_zero, List.set_cons_succ]
        refine wpAnyH_take (i := 6) (oi := ⟨some 152, _, _, _, _, _⟩) (v := ?_) rfl (by kernel_rfl) (by kernel_rfl) (by kernel_rfl) (fun _ _ _ h => h) (Or.inl ⟨by rfl, ?_⟩) (by assumption) ?_
        rotate_left
        · (intro w' hSw; (try dsimp only at hSw); go_simp <;> (with_reducible rfl))
        try simp only [Act.put, List.setIfInBounds_toArray, List.set_cons_zero, List.set_cons_succ]
        refine wpAnyH_take (i := 7) (oi := ⟨some 153, _, _, _, _, _⟩) (v := ?_) rfl (by kernel_rfl) (by kernel_rfl) (by kernel_rfl) (fun _ _ _ h => h) (Or.inl ⟨by rfl, ?_⟩) (by assumption) ?_
        rotate_left
        · (intro w' hSw; (try dsimp only at hSw); go_simp <;> (with_reducible rfl))
        try simp only [Act.put, List.setIfInBounds_toArray, List.set_cons_zero, List.set_cons_succ]
        refine wpAnyH_take (i := 8) (oi := ⟨some 154, _, _, _, _, _⟩) (v := ?_) rfl (by kernel_rfl) (by kernel_rfl) (by kernel_rfl) (fun _ _ _ h => h) (Or.inl ⟨by rfl, ?_⟩) (by assumption) ?_
        rotate_left
        · (intro w' hSw; (try dsimp only at hSw); go_simp <;> (with_reducible rfl))
        try simp only [Act.put, List.setIfInBounds_toArray, List.set_cons_zero, List.set_cons_succ]
        refine wpAnyH_take (i := 9) (oi := ⟨some 155, _, _, _, _, _⟩) (v := ?_) rfl (by kernel_rfl) (by kernel_rfl) (by kernel_rfl) (fun _ _ _ h => h) (Or.inl ⟨by rfl, ?_⟩) (by assumption) ?_
        rotate_left
        · (intro w' hSw; (try dsimp only at hSw); go_simp <;> (with_reducible rfl))
        try simp only [Act.put, List.setIfInBounds_toArray, List.set_cons_zero, List.set_cons_succ]
        refine wpAnyH_ready (rs := [10]) (by kernel_rfl) (by simp) ?_
        refine AllReadyH.cons (o := ⟨some 156, _, _, _, _, _⟩) rfl (fun K' hK => ?_) AllReadyH.nil
        go_simp
        go_at_call 47
        refine (HSD.out _).mono ?_
        rintro e_ v_ ⟨rfl, rfl⟩
        go_wp2_with fail
        refine hK.out _ _ ⟨by have := intsAt_cellK HI1.out hlt; rw [HE0.out, Nat.zero_add] at this; exact this, by have := intsAt_cellK HI2.out hlt; rw [HE1.out, Nat.zero_add] at this; exact this⟩ (fun hHeld => ?_)
        clear hK K'
        try simp only [Act.put, List.setIfInBounds_toArray, List.set_cons_zero, List.set_cons_succ]
        refine wpAnyH_take (i := 11) (oi := ⟨some 157, _, _, _, _, _⟩) (v := ?_) rfl (by kernel_rfl) (by kernel_rfl) (by kernel_rfl) (fun _ _ _ h => h) (Or.inl ⟨by rfl, ?_⟩) (by assumption) ?_
        rotate_left
        · (intro w' hSw; (try dsimp only at hSw); go_simp <;> (with_reducible rfl))
        try simp only [Act.put, List.setIfInBounds_toArray, List.set_cons_zero, List.set_cons_succ]
        refine wpAnyH_take (i := 12) (oi := ⟨some 17, _, _, _, _, _⟩) (v := ?_) rfl (by kernel_rfl) (by kernel_rfl) (by kernel_rfl) (fun _ _ _ h => h) (Or.inl ⟨by rfl, ?_⟩) (by assumption) ?_
        rotate_left
        · (intro w' hSw; (try dsimp only at hSw); go_simp <;> (with_reducible rfl))
        try simp only [Act.put, List.setIfInBounds_toArray, List.set_cons_zero, List.set_cons_succ]
        refine wpAnyH_done (by kernel_rfl) ?_ _
        clear hHeld HSD
        go_wp2_with fail
        go_roundw
        case rel => exact ⟨k + 1, by omega, by rw [HSTEP.out] <;> first | rfl | go_num, by go_num, HI1, HI2, HB⟩
        case measure => simp [Go.RowKit.intOf] <;> omega
    obtain rfl : ρ = 1 := by omega
    obtain rfl : σ = 1 := by omega
    clear HNE hs2
    go_wp2_with fail
    go_ret
    exact ⟨rfl, HB.out⟩
end Go.Proofs.Ytonmkmaeohfjpaa
