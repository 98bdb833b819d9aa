/- Lemmas: S55, S52, S56. -/
import Derived.Test.YtonmkmaeohfjpaaBk02
import Derived.Test.YtonmkmaeohfjpaaBk17
import Derived.Test.YtonmkmaeohfjpaaBk20
import Derived.Test.YtonmkmaeohfjpaaBk21
import Derived.Test.YtonmkmaeohfjpaaBk22
set_option linter.unusedVariables false
set_option linter.unusedSimpArgs false
/- Period and Jumped of the reference, on a register that is right. -/
namespace Go.Proofs.Ytonmkmaeohfjpaa
open Go Go.RowKit Go.Lib
theorem boxOther3 {w : World} {b p : Nat} {t : TypeId} {cs : Array Value} (h : Box w b t cs) (hp : b ≠ p) (u0 u1 u2 : Value) : Box (((w.setCell ⟨p, 0, none⟩ u0).setCell ⟨p, 1, none⟩ u1).setCell ⟨p, 2, none⟩ u2) b t cs := ((h.other (p := ⟨p, 0, none⟩) hp u0).other (p := ⟨p, 1, none⟩) hp u1).other (p := ⟨p, 2, none⟩) hp u2
theorem intsOther3 {w : World} {lo n p : Nat} {A : Option Addr} {F : Nat → Int} (h : IntsAt w lo A n F) (hp : ∀ b o, A = some ⟨b, o, none⟩ → b ≠ p) (u0 u1 u2 : Value) : IntsAt (((w.setCell ⟨p, 0, none⟩ u0).setCell ⟨p, 1, none⟩ u1).setCell ⟨p, 2, none⟩ u2) lo A n F := intsOther (p := ⟨p, 2, none⟩) (intsOther (p := ⟨p, 1, none⟩) (intsOther (p := ⟨p, 0, none⟩) h hp u0) hp u1) hp u2
theorem belowPut3 {B p : Nat} {a w : World} (h : Below B a w) (hp : B ≤ p) (u0 u1 u2 : Value) : Below B a (((w.setCell ⟨p, 0, none⟩ u0).setCell ⟨p, 1, none⟩ u1).setCell ⟨p, 2, none⟩ u2) := ((h.setCell (p := ⟨p, 0, none⟩) hp u0).setCell (p := ⟨p, 1, none⟩) hp u1).setCell (p := ⟨p, 2, none⟩) hp u2
theorem intsFar {w : World} {lo n p : Nat} {A : Option Addr} {F : Nat → Int} (h : IntsAt w lo A n F) (hn : 0 < n) (hp : p < lo) : ∀ b o, A = some ⟨b, o, none⟩ → b ≠ p := fun b o e => by
  obtain ⟨b', o', e', h5, -⟩ := h 0 hn
  rw [e] at e'
  injection e' with e'
  injection e' with e'
  omega
set_option maxHeartbeats 16000000 in
set_option maxRecDepth 100000 in
theorem PeriodR_any (A B : Option Addr) (n c m d p : Nat) (T S : Nat → Int) (w : World) (hp : IsPer (m + 1) n T S p) (hok : RegOk (m + 1) n T S) (hc : n ≤ c) (hd : m + 1 ≤ d) (hd9 : d ≤ 9223372036854775807) (hT : IntsAt w 0 A n T) (hS : IntsAt w 0 B (m + 1) S) :
    Calls Try.prog 88 #[.agg #[.int .i64 ((m : Int) + 1), .slice A n c, .slice B (m + 1) d]] w fun e w' => e = .returned (.int .i64 (p : Int)) ∧ Below w.heap.size w w' := by
  have HTT := hide hT
  have HSS := hide hS
  have HOK := hide hok
  have hn1 := hok.some_
  have HNX := hide (fun k A B c d W (h1 : n ≤ c) (h2 : m + 1 ≤ d) (h3 : d ≤ 9223372036854775807) hI hJ => NextR_any A B n c m d T (itS (m + 1) n T S k) W (hok.it k) h1 h2 h3 hI hJ)
  have HSTP := hide (show ∀ k, nextS (m + 1) n T (itS (m + 1) n T S k) = itS (m + 1) n T S (k + 1) from fun _ => rfl)
  have H0 := hide (show itS (m + 1) n T S 0 = S from rfl)
  have hp1 := hp.pos
  have hp9 := hp.most
  have hm9 := hok.most
  have HBK := hide hp.back
  have HFI := hide hp.first
  obtain ⟨I, hI⟩ : ∃ z, itS (m + 1) n T S = z := ⟨_, rfl⟩
  simp only [hI] at HNX HSTP H0 HBK HFI
  clear hI hT hS hok hp
  go_enter Try.func88, Try.ntmps88
  go_upto_region 1 with fail
  obtain ⟨w1, hw1⟩ : ∃ z : World, z = w.alloc (.cells #[.int .i64 ((m : Int) + 1), .slice A n c, .slice B (m + 1) d] 24) := ⟨_, rfl⟩
  try rw [← hw1]
  obtain ⟨b1, hb1⟩ : ∃ z, w.heap.size = z := ⟨_, rfl⟩
  have HX := hide (show Box w1 b1 24 #[.int .i64 ((m : Int) + 1), .slice A n c, .slice B (m + 1) d] by rw [hw1]; exact Box.made hb1.symm)
  have HB := hide (show Below w.heap.size w w1 by rw [hw1]; (repeat (first | (with_reducible exact Below.refl _ _) | (with_reducible refine Go.below_drewN ?_ _) | (with_reducible refine Below.drew ?_) | (with_reducible refine Below.alloc ?_ (by first | exact Nat.le_refl _ | (simp; done) | (simp; omega) | omega) _) | (with_reducible refine Below.setCell ?_ (by first | exact Nat.le_refl _ | (simp; done) | (simp; omega) | omega) _))))
  try simp only [hb1]
  clear hw1
  obtain ⟨c0, c1, c2, hlz⟩ := rec_cells HX.out
  go_wp2_with fail
  clear c0 c1 c2 hlz
  refine (HNX.out 0 A B c d _ hc hd hd9 (HTT.out.below HB.out) (H0.out ▸ HSS.out.below HB.out)).mono ?_
  rintro e_ w2 ⟨C, f, D, e, rfl, hC, hD, hf, he, he9, hb⟩
  have hX := HX.out.lt
  replace HX := hide (HX.out.below hb)
  replace HB := hide (HB.out.trans (hb.mono HB.out.size))
  rw [HSTP.out] at hD
  clear H0
  go_upto_region 2 with fail
  obtain ⟨b4, hb4⟩ : ∃ z, w2.heap.size = z := ⟨_, rfl⟩
  obtain ⟨w3, hw3⟩ : ∃ z : World, z = w2.alloc (.cells #[.int .i64 ((m : Int) + 1), .slice C n f, .slice D (m + 1) e] 24) := ⟨_, rfl⟩
  try rw [← hw3]
  have HX4 := hide (show Box w3 b4 24 #[.int .i64 ((m : Int) + 1), .slice C n f, .slice D (m + 1) e] by rw [hw3]; exact Box.made hb4.symm)
  have hc3 : Below w2.heap.size w2 w3 := by rw [hw3]; (repeat (first | (with_reducible exact Below.refl _ _) | (with_reducible refine Go.below_drewN ?_ _) | (with_reducible refine Below.drew ?_) | (with_reducible refine Below.alloc ?_ (by first | exact Nat.le_refl _ | (simp; done) | (simp; omega) | omega) _) | (with_reducible refine Below.setCell ?_ (by first | exact Nat.le_refl _ | (simp; done) | (simp; omega) | omega) _)))
  replace HX := hide (HX.out.below hc3)
  have HC := hide ((hC.below hc3).weak (Nat.zero_le _))
  have HD := hide ((hD.below hc3).weak (Nat.zero_le _))
  have h14 : b1 < b4 := by have := hb.size; omega
  replace HB := hide (HB.out.trans (hc3.mono HB.out.size))
  try simp only [hb4]
  clear hw3 hc3 hC hD hb4 hX hb
  go_wp2_with fail
  go_loopw [5] (fun z wr => ∃ (k : Nat) (C D : Option Addr) (f e : Nat), 1 ≤ k ∧ k ≤ p ∧ z = .int .i64 (k : Int) ∧ Hid (Box wr b1 24 #[.int .i64 ((m : Int) + 1), .slice A n c, .slice B (m + 1) d]) ∧ Hid (Box wr b4 24 #[.int .i64 ((m : Int) + 1), .slice C n f, .slice D (m + 1) e]) ∧ Hid (IntsAt wr 0 C n T) ∧ Hid (IntsAt wr 0 D (m + 1) (I k)) ∧ n ≤ f ∧ m + 1 ≤ e ∧ e ≤ 9223372036854775807 ∧ Hid (Below w.heap.size w wr)) (fun z _ => p - (Go.RowKit.intOf z).toNat)
  case atStart => exact ⟨1, C, D, f, e, Nat.le_refl _, hp1, rfl, HX, HX4, HC, HD, hf, he, he9, HB⟩
  case round =>
    clear HX HX4 HC HD HB
    obtain ⟨k, C, D, f, e, hk1, hkp, rfl, HX, HX4, HC, HD, hf, he, he9, HB⟩ := hrel
    obtain ⟨wA, rfl⟩ : ∃ x : World, x = wr := ⟨_, rfl⟩
    obtain ⟨c0, c1, c2, hlz⟩ := rec_cells HX.out
    obtain ⟨d0, d1, d2, hlx⟩ := rec_cells HX4.out
    have HIN := hide (ints_any D B (m + 1) (m + 1) e d (I k) S wA (by omega) (by omega) HD.out (HSS.out.below HB.out))
    by_cases hlt : k < p
    case neg =>
      obtain rfl : p = k := by omega
      rw [intsB_iff.2 ⟨rfl, HBK.out⟩] at HIN
      clear HNX HSTP
      go_wp2_with (go_at_call 26; refine HIN.out.mono ?_; rintro e_ w4 ⟨rfl, q, hq⟩; have hc4 : Below wA.heap.size wA w4 := (by rw [hq]; exact Go.below_drewN (Below.refl _ _) _); clear hq)
      go_ret
      exact ⟨rfl, HB.out.trans (hc4.mono HB.out.size)⟩
    have hne : intsB (m + 1) (I k) (m + 1) S = false := by
      obtain ⟨j, hj, hne⟩ := HFI.out k hk1 hlt
      rw [← Bool.not_eq_true, intsB_iff]
      exact fun h => hne (h.2 j hj)
    rw [hne] at HIN
    have HXD := hide (HX.out.drewN)
    clear hne
    go_wp2_with (go_at_call 26; refine HIN.out.mono ?_; rintro e_ w4 ⟨rfl, q, hq⟩; have hc4 : Below wA.heap.size wA w4 := (by rw [hq]; exact Go.below_drewN (Below.refl _ _) _); clear hq; obtain ⟨d0, d1, d2, hlx⟩ := rec_cells (HX4.out.below hc4))
    clear d0 d1 d2 hlx c0 c1 c2 hlz HIN HXD
    replace HX := hide (HX.out.below hc4)
    replace HX4 := hide (HX4.out.below hc4)
    replace HC := hide (HC.out.below hc4)
    replace HD := hide (HD.out.below hc4)
    replace HB := hide (HB.out.trans (hc4.mono HB.out.size))
    clear hc4
    refine (HNX.out k C D f e _ hf he he9 HC.out HD.out).mono ?_
    rintro e_ w5 ⟨C2, f2, D2, e2, rfl, hC2, hD2, hf2, he2, he29, hb⟩
    rw [HSTP.out] at hD2
    have hx4 := HX4.out.lt
    replace HX := hide (HX.out.below hb)
    replace HX4 := hide (HX4.out.below hb)
    replace HB := hide (HB.out.trans (hb.mono HB.out.size))
    have hfC := intsFar hC2 hn1 hx4
    have hfD := intsFar hD2 (by omega) hx4
    obtain ⟨d0, d1, d2, f0, f1, ff2, hlx⟩ := HX4.out.r3
    go_wp2_with fail
    clear d0 d1 d2 f0 f1 ff2 hlx
    go_roundw
    case rel => exact ⟨k + 1, C2, D2, f2, e2, by omega, by omega, by go_num, hide (boxOther3 HX.out (by omega) _ _ _), hide (HX4.out.r3putAll _ _ _), hide ((intsOther3 hC2 hfC _ _ _).weak (Nat.zero_le _)), hide ((intsOther3 hD2 hfD _ _ _).weak (Nat.zero_le _)), hf2, he2, he29, hide (belowPut3 HB.out (by omega) _ _ _)⟩
    case measure => simp [Go.RowKit.intOf]; omega
set_option maxHeartbeats 16000000 in
set_option maxRecDepth 100000 in
theorem JumpedR_any (A B : Option Addr) (n c m d p s : Nat) (T S : Nat → Int) (w : World) (hp : IsPer (m + 1) n T S p) (hs : s ≤ 1000000000) (hok : RegOk (m + 1) n T S) (hc : n ≤ c) (hd : m + 1 ≤ d) (hd9 : d ≤ 9223372036854775807) (hT : IntsAt w 0 A n T) (hS : IntsAt w 0 B (m + 1) S) :
    Calls Try.prog 28 #[.agg #[.int .i64 ((m : Int) + 1), .slice A n c, .slice B (m + 1) d], .int .i64 (s : Int)] w fun e w' => ∃ C f D g, e = .returned (.agg #[.int .i64 ((m : Int) + 1), .slice C n f, .slice D (m + 1) g]) ∧ IntsAt w' 0 C n T ∧ IntsAt w' 0 D (m + 1) (itS (m + 1) n T S (s % p)) ∧ Below w.heap.size w w' := by
  have HTT := hide hT
  have HSS := hide hS
  have HOK := hide hok
  have hn1 := hok.some_
  have HNX := hide (fun k A B c d W (h1 : n ≤ c) (h2 : m + 1 ≤ d) (h3 : d ≤ 9223372036854775807) hI hJ => NextR_any A B n c m d T (itS (m + 1) n T S k) W (hok.it k) h1 h2 h3 hI hJ)
  have HSTP := hide (show ∀ k, nextS (m + 1) n T (itS (m + 1) n T S k) = itS (m + 1) n T S (k + 1) from fun _ => rfl)
  have H0 := hide (show itS (m + 1) n T S 0 = S from rfl)
  have hp1 := hp.pos
  have hp9 := hp.most
  have hm9 := hok.most
  have hn10 := hok.count
  have HPE := hide (fun W hI hJ => PeriodR_any A B n c m d p T S W hp hok hc hd hd9 hI hJ)
  have HCO := hide (fun W h1 h2 => CopyRegister_any ((m : Int) + 1) A B n c (m + 1) d T S W (by omega) (by omega) h1 h2)
  obtain ⟨t, ht⟩ : ∃ t : Nat, s % p = t := ⟨_, rfl⟩
  have htz : (s : Int) % (p : Int) = (t : Int) := by rw [← ht]; omega
  have htp : t < p := by rw [← ht]; exact Nat.mod_lt _ hp1
  have qt : (s : Int).tmod (p : Int) = (t : Int) := by rw [Int.tmod_eq_emod_of_nonneg (by omega)]; exact htz
  have hpz : ¬ (p : Int) = 0 := by omega
  rw [ht]
  obtain ⟨I, hI⟩ : ∃ z, itS (m + 1) n T S = z := ⟨_, rfl⟩
  simp only [hI] at HNX HSTP H0 ⊢
  clear hI hT hS hok hp ht
  go_enter Try.func28, Try.ntmps28
  go_upto_region 1 with fail
  obtain ⟨w1, hw1⟩ : ∃ z : World, z = (w.alloc (.cells #[.int .i64 ((m : Int) + 1), .slice A n c, .slice B (m + 1) d] 24)).alloc (.cells #[.int .i64 0, .slice none 0 0, .slice none 0 0] 24) := ⟨_, rfl⟩
  try rw [← hw1]
  obtain ⟨b2, hb2⟩ : ∃ z, w.heap.size = z := ⟨_, rfl⟩
  obtain ⟨b4, hb4⟩ : ∃ z, b2 + 1 = z := ⟨_, rfl⟩
  have HX := hide (show Box w1 b2 24 #[.int .i64 ((m : Int) + 1), .slice A n c, .slice B (m + 1) d] by rw [hw1]; exact (Box.made hb2.symm).alloc _)
  have HX4 := hide (show Box w1 b4 24 #[.int .i64 0, .slice none 0 0, .slice none 0 0] by rw [hw1]; exact Box.made (by simp; omega))
  have HB := hide (show Below w.heap.size w w1 by rw [hw1]; (repeat (first | (with_reducible exact Below.refl _ _) | (with_reducible refine Go.below_drewN ?_ _) | (with_reducible refine Below.drew ?_) | (with_reducible refine Below.alloc ?_ (by first | exact Nat.le_refl _ | (simp; done) | (simp; omega) | omega) _) | (with_reducible refine Below.setCell ?_ (by first | exact Nat.le_refl _ | (simp; done) | (simp; omega) | omega) _))))
  try simp only [hb2, hb4]
  clear hw1
  obtain ⟨c0, c1, c2, hlz⟩ := rec_cells HX.out
  go_wp2_with fail
  clear c0 c1 c2 hlz
  refine (HCO.out _ (HTT.out.below HB.out) (HSS.out.below HB.out)).mono ?_
  rintro e_ w2 ⟨C, f, D, e, rfl, ho1, ho2, hb, -⟩
  have h1s := HX4.out.lt
  replace HX := hide (HX.out.below hb)
  replace HX4 := hide (HX4.out.below hb)
  replace HB := hide (HB.out.trans (hb.mono HB.out.size))
  have hcf := ho1.cap_any
  have hde := ho2.cap_any
  obtain ⟨qa, qc, e1, -, hC⟩ := ho1.form
  injection e1 with e1 e1b e1c
  subst e1
  obtain ⟨qa2, qc2, e2, -, hD⟩ := ho2.form
  injection e2 with e2 e2b e2c
  subst e2
  clear e1b e1c e2b e2c ho1 ho2
  go_upto_region 2 with fail
  obtain ⟨b5, hb5⟩ : ∃ z, w2.heap.size = z := ⟨_, rfl⟩
  obtain ⟨w3, hw3⟩ : ∃ z : World, z = w2.alloc (.cells #[.int .i64 ((m : Int) + 1), .slice C n f, .slice D (m + 1) e] 24) := ⟨_, rfl⟩
  try rw [← hw3]
  have HX5 := hide (show Box w3 b5 24 #[.int .i64 ((m : Int) + 1), .slice C n f, .slice D (m + 1) e] by rw [hw3]; exact Box.made hb5.symm)
  have hc3 : Below w2.heap.size w2 w3 := by rw [hw3]; (repeat (first | (with_reducible exact Below.refl _ _) | (with_reducible refine Go.below_drewN ?_ _) | (with_reducible refine Below.drew ?_) | (with_reducible refine Below.alloc ?_ (by first | exact Nat.le_refl _ | (simp; done) | (simp; omega) | omega) _) | (with_reducible refine Below.setCell ?_ (by first | exact Nat.le_refl _ | (simp; done) | (simp; omega) | omega) _)))
  replace HX := hide (HX.out.below hc3)
  replace HX4 := hide (HX4.out.below hc3)
  have HC := hide ((hC.below hc3).weak h1s)
  have HD := hide (H0.out.symm ▸ (hD.below hc3).weak h1s : IntsAt w3 (b4 + 1) D (m + 1) (I 0))
  have h45 : b4 < b5 := by have := hb.size; omega
  replace HB := hide (HB.out.trans (hc3.mono HB.out.size))
  try simp only [hb5]
  clear hw3 hc3 hC hD hb5 h1s hb H0 HCO
  obtain ⟨c0, c1, c2, hlz⟩ := rec_cells HX.out
  go_wp2_with fail
  clear c0 c1 c2 hlz
  refine (HPE.out _ (HTT.out.below HB.out) (HSS.out.below HB.out)).mono ?_
  rintro e_ w4 ⟨rfl, hb⟩
  replace HX := hide (HX.out.below hb)
  replace HX4 := hide (HX4.out.below hb)
  replace HX5 := hide (HX5.out.below hb)
  replace HC := hide (HC.out.below hb)
  replace HD := hide (HD.out.below hb)
  replace HB := hide (HB.out.trans (hb.mono HB.out.size))
  clear hb HPE
  go_wp2_with fail
  go_loopw [6] (fun z wr => ∃ (k : Nat) (q : Int) (C D : Option Addr) (f e : Nat), k ≤ t ∧ Hid (q = (t : Int) - (k : Int)) ∧ z = .int .i64 q ∧ Hid (Box wr b4 24 #[.int .i64 0, .slice none 0 0, .slice none 0 0]) ∧ Hid (Box wr b5 24 #[.int .i64 ((m : Int) + 1), .slice C n f, .slice D (m + 1) e]) ∧ Hid (IntsAt wr (b4 + 1) C n T) ∧ Hid (IntsAt wr (b4 + 1) D (m + 1) (I k)) ∧ n ≤ f ∧ m + 1 ≤ e ∧ e ≤ 9223372036854775807 ∧ Hid (Below w.heap.size w wr)) (fun z _ => (Go.RowKit.intOf z).toNat)
  case atStart => exact ⟨0, _, C, D, f, e, Nat.zero_le _, hide (by omega), rfl, HX4, HX5, HC, HD, hcf.1, hde.1, hde.2, HB⟩
  case round =>
    clear HX HX4 HX5 HC HD HB hcf hde
    obtain ⟨k, q, C, D, f, e, hkt, HQ, rfl, HX4, HX5, HC, HD, hf, he, he9, HB⟩ := hrel
    obtain ⟨wA, rfl⟩ : ∃ x : World, x = wr := ⟨_, rfl⟩
    by_cases hlt : k < t
    case neg =>
      have hkt2 : k = t := by omega
      have hqz : ¬ (0 : Int) < q := by have := HQ.out; omega
      obtain ⟨d0, d1, d2, hlx⟩ := rec_cells HX5.out
      obtain ⟨x0, x1, x2, f0, f1, ff2, hly⟩ := HX4.out.r3
      have HPA := hide (HX4.out.r3putAll (.int .i64 ((m : Int) + 1)) (.slice C n f) (.slice D (m + 1) e))
      have HFC := hide (intsFar HC.out hn1 (Nat.lt_succ_self _))
      have HFD := hide (intsFar HD.out (Nat.succ_pos _) (Nat.lt_succ_self _))
      clear HNX HSTP HQ hkt hlt
      go_wp2_with fail
      obtain ⟨z0, z1, z2, -, -, -, -⟩ := HPA.out.r3
      refine bodyPost_ret (v := .agg #[.int .i64 ((m : Int) + 1), .slice C n f, .slice D (m + 1) e]) ?_ rfl ⟨C, f, D, ⟨e, rfl⟩, (intsOther3 HC.out HFC.out _ _ _).weak (Nat.zero_le _), hkt2 ▸ (intsOther3 HD.out HFD.out _ _ _).weak (Nat.zero_le _), by first | exact belowPut3 HB.out (by omega) _ _ _ | (rw [← hb2]; exact belowPut3 HB.out (by omega) _ _ _)⟩
      simp [results, Try.results28, go_sem, z0, z1, z2]
    have hqz : (0 : Int) < q := by have := HQ.out; omega
    have hq9 : q ≤ 1024 := by have := HQ.out; omega
    have h4s := HX4.out.lt
    have h5s := HX5.out.lt
    obtain ⟨d0, d1, d2, hlx⟩ := rec_cells HX5.out
    go_wp2_with fail
    clear d0 d1 d2 hlx
    refine (HNX.out k C D f e _ hf he he9 (HC.out.weak (Nat.zero_le _)) (HD.out.weak (Nat.zero_le _))).mono ?_
    rintro e_ w5 ⟨C2, f2, D2, e2, rfl, hC2, hD2, hf2, he2, he29, hb⟩
    rw [HSTP.out] at hD2
    replace HX4 := hide (HX4.out.below hb)
    replace HX5 := hide (HX5.out.below hb)
    replace HB := hide (HB.out.trans (hb.mono HB.out.size))
    have hfC := intsFar hC2 hn1 h5s
    have hfD := intsFar hD2 (by omega) h5s
    obtain ⟨d0, d1, d2, f0, f1, ff2, hlx⟩ := HX5.out.r3
    go_wp2_with fail
    clear d0 d1 d2 f0 f1 ff2 hlx
    go_roundw
    case rel => exact ⟨k + 1, q - 1, C2, D2, f2, e2, by omega, hide (by have := HQ.out; omega), by go_num, hide (boxOther3 HX4.out (by omega) _ _ _), hide (HX5.out.r3putAll _ _ _), hide ((intsOther3 hC2 hfC _ _ _).weak h4s), hide ((intsOther3 hD2 hfD _ _ _).weak h4s), hf2, he2, he29, hide (belowPut3 HB.out (by omega) _ _ _)⟩
    case measure => simp [Go.RowKit.intOf]; omega
end Go.Proofs.Ytonmkmaeohfjpaa
/- Sequence of the reference, on a register that is right. -/
namespace Go.Proofs.Ytonmkmaeohfjpaa
open Go Go.RowKit Go.Lib
set_option maxHeartbeats 16000000 in
set_option maxRecDepth 100000 in
theorem SequenceR_any (A B : Option Addr) (n c m d q : Nat) (T S : Nat → Int) (w : World) (hq : q ≤ 400) (hok : RegOk (m + 1) n T S) (hc : n ≤ c) (hd : m + 1 ≤ d) (hd9 : d ≤ 9223372036854775807) (hT : IntsAt w 0 A n T) (hS : IntsAt w 0 B (m + 1) S) :
    Calls Try.prog 27 #[.agg #[.int .i64 ((m : Int) + 1), .slice A n c, .slice B (m + 1) d], .int .i64 (q : Int)] w fun e w' => ∃ v, e = .returned v ∧ OwnInts w' w.heap.size v q (fun j => itS (m + 1) n T S j 0) ∧ Below w.heap.size w w' := by
  have HTT := hide hT
  have HSS := hide hS
  have HOK := hide hok
  have HNX := hide (fun k A B c d W (h1 : n ≤ c) (h2 : m + 1 ≤ d) (h3 : d ≤ 9223372036854775807) hI hJ => NextR_any A B n c m d T (itS (m + 1) n T S k) W (hok.it k) h1 h2 h3 hI hJ)
  have HSTP := hide (show ∀ k, nextS (m + 1) n T (itS (m + 1) n T S k) = itS (m + 1) n T S (k + 1) from fun _ => rfl)
  have H0 := hide (show itS (m + 1) n T S 0 = S from rfl)
  obtain ⟨I, hI⟩ : ∃ z, itS (m + 1) n T S = z := ⟨_, rfl⟩
  simp only [hI] at HNX HSTP H0 ⊢
  clear hI hT hS hok
  go_enter Try.func27, Try.ntmps27
  go_upto_region 1 with fail
  obtain ⟨b2, hb2⟩ : ∃ z, w.heap.size = z := ⟨_, rfl⟩
  obtain ⟨w1, hw1⟩ : ∃ z : World, z = w.alloc (.cells #[.int .i64 ((m : Int) + 1), .slice A n c, .slice B (m + 1) d] 24) := ⟨_, rfl⟩
  try rw [← hw1]
  have HX := hide (show Box w1 b2 24 #[.int .i64 ((m : Int) + 1), .slice A n c, .slice B (m + 1) d] by rw [hw1]; exact Box.made hb2.symm)
  have HB := hide (show Below b2 w w1 by rw [hw1, ← hb2]; (repeat (first | (with_reducible exact Below.refl _ _) | (with_reducible refine Go.below_drewN ?_ _) | (with_reducible refine Below.drew ?_) | (with_reducible refine Below.alloc ?_ (by first | exact Nat.le_refl _ | (simp; done) | (simp; omega) | omega) _) | (with_reducible refine Below.setCell ?_ (by first | exact Nat.le_refl _ | (simp; done) | (simp; omega) | omega) _))))
  try simp only [hb2]
  have hC := hide (HTT.out.below (show Below w.heap.size w w1 by rw [hb2]; exact HB.out))
  have hD := hide (H0.out ▸ HSS.out.below (show Below w.heap.size w w1 by rw [hb2]; exact HB.out) : IntsAt w1 0 B (m + 1) (I 0))
  clear hw1 HTT HSS
  go_wp2_with fail
  go_loopw [5, 6] (fun v z wr => ∃ (k : Nat) (C D : Option Addr) (f e : Nat), k ≤ q ∧ z = .int .i64 (k : Int) ∧ Hid (OwnInts wr (b2 + 1) v k (fun j => I j 0)) ∧ Hid (Box wr b2 24 #[.int .i64 ((m : Int) + 1), .slice C n f, .slice D (m + 1) e]) ∧ Hid (IntsAt wr 0 C n T) ∧ Hid (IntsAt wr 0 D (m + 1) (I k)) ∧ n ≤ f ∧ m + 1 ≤ e ∧ e ≤ 9223372036854775807 ∧ Hid (Below b2 w wr)) (fun _ z _ => q - (Go.RowKit.intOf z).toNat)
  case atStart => exact ⟨0, A, B, c, d, Nat.zero_le _, rfl, hide (OwnInts.nil_ _ _ _), HX, hC, hD, hc, hd, hd9, HB⟩
  case round =>
    clear HX hC hD HB
    obtain ⟨k, C, D, f, e, hk, rfl, HV, HX, HC, HD, hf, he, he9, HB⟩ := hrel
    obtain ⟨wA, rfl⟩ : ∃ x : World, x = wr := ⟨_, rfl⟩
    obtain ⟨Av, cv, rfl, hcv, -⟩ := HV.out.form
    by_cases hlt : k < q
    case neg =>
      obtain rfl : q = k := by omega
      have hltz : ¬ (q : Int) < (q : Int) := by omega
      clear HNX HSTP H0 HOK
      go_wp2_with fail
      go_ret
      have ho := ownS_weak (base' := b2) HV.out (by omega)
      subst hb2
      first | exact ⟨_, rfl, ho, HB.out⟩ | exact ⟨ho, HB.out⟩
    have hltz : (k : Int) < (q : Int) := by omega
    obtain ⟨c0, c1, c2, hlz⟩ := rec_cells HX.out
    go_wp2_with fail
    clear c0 c1 c2
    refine (HNX.out k C D f e _ hf he he9 HC.out HD.out).mono ?_
    rintro e_ w2 ⟨C2, f2, D2, e2, rfl, hc2, hd2, hf2, he2, he29, hb⟩
    have hvl : ∀ z, (Value.slice Av k cv).ownBlock = some z → b2 + 1 ≤ z ∧ z < wA.heap.size := fun z hz => ownV_at (w' := wA) (v' := Value.slice Av k cv) HV.out hz
    have HVL := hide hvl
    replace HV := hide (HV.out.below hb)
    replace HX := hide (HX.out.below hb)
    replace HB := hide (HB.out.trans (hb.mono (by omega)))
    rw [HSTP.out] at hd2
    have HC2 := hide hc2
    have HD2 := hide hd2
    have hs2 := hb.size
    clear hc2 hd2 hb hvl HC HD HNX HSTP H0
    go_upto_region 6 with fail
    obtain ⟨b8, hb8⟩ : ∃ z, w2.heap.size = z := ⟨_, rfl⟩
    obtain ⟨w3, hw3⟩ : ∃ z : World, z = w2.alloc (.cells #[.int .i64 ((m : Int) + 1), .slice C2 n f2, .slice D2 (m + 1) e2] 24) := ⟨_, rfl⟩
    try rw [← hw3]
    have HX8 := hide (show Box w3 b8 24 #[.int .i64 ((m : Int) + 1), .slice C2 n f2, .slice D2 (m + 1) e2] by rw [hw3]; exact Box.made hb8.symm)
    have hc3 : Below w2.heap.size w2 w3 := by rw [hw3]; (repeat (first | (with_reducible exact Below.refl _ _) | (with_reducible refine Go.below_drewN ?_ _) | (with_reducible refine Below.drew ?_) | (with_reducible refine Below.alloc ?_ (by first | exact Nat.le_refl _ | (simp; done) | (simp; omega) | omega) _) | (with_reducible refine Below.setCell ?_ (by first | exact Nat.le_refl _ | (simp; done) | (simp; omega) | omega) _)))
    have hX := HX.out.lt
    replace HV := hide (HV.out.below hc3)
    replace HX := hide (HX.out.below hc3)
    replace HC2 := hide (HC2.out.below hc3)
    replace HD2 := hide (HD2.out.below hc3)
    replace HB := hide (HB.out.trans (hc3.mono (by omega)))
    try simp only [hb8]
    clear hw3 hc3
    have h8 := HX8.out.lt
    obtain ⟨y, hy⟩ : ∃ z, I k 0 = z := ⟨_, rfl⟩
    try simp only [hy]
    have HY := hide hy
    clear hy
    refine wp_region_held_drew (S := fun w' => w'.cell? ⟨b8, 0, none⟩ = some (.int .i64 ((m : Int) + 1)) ∧ w'.cell? ⟨b8, 1, none⟩ = some (.slice C2 n f2) ∧ w'.cell? ⟨b8, 2, none⟩ = some (.slice D2 (m + 1) e2)) (by kernel_rfl) ⟨HX8.out.at_ 0, HX8.out.at_ 1, HX8.out.at_ 2⟩ (fun hHeld => ?_)
    obtain ⟨w_1, hw_1⟩ : ∃ q : World, q = w3.drew := ⟨_, rfl⟩
    rw [← hw_1] at hHeld ⊢
    have hc_1 : Below w3.heap.size w3 w_1 := by rw [hw_1]; exact (Below.refl _ _).drew
    clear hw_1
    replace HX8 := hide (HX8.out.below hc_1)
    replace HV := hide (HV.out.below hc_1)
    replace HX := hide (HX.out.below hc_1)
    replace HC2 := hide (HC2.out.below hc_1)
    replace HD2 := hide (HD2.out.below hc_1)
    replace HB := hide (HB.out.trans (hc_1.mono (by omega)))
    replace h8 := Nat.lt_of_lt_of_le h8 hc_1.size
    clear hc_1
    refine wpAnyH_take (i := 0) (oi := ⟨some 19, _, _, _, _, _⟩) (v := ?_) rfl (by kernel_rfl) (by kernel_rfl) (by kernel_rfl) (fun _ _ _ h => h) (Or.inl ⟨by rfl, ?_⟩) (by assumption) ?_
    rotate_left
    · (intro w' hSw; (try dsimp only at hSw); go_simp <;> (with_reducible rfl))
    try simp only [Act.put, List.setIfInBounds_toArray, List.set_cons_zero, List.set_cons_succ]
    refine wpAnyH_take (i := 1) (oi := ⟨some 20, _, _, _, _, _⟩) (v := ?_) rfl (by kernel_rfl) (by kernel_rfl) (by kernel_rfl) (fun _ _ _ h => h) (Or.inl ⟨by rfl, ?_⟩) (by assumption) ?_
    rotate_left
    · (intro w' hSw; (try dsimp only at hSw); go_simp <;> (with_reducible rfl))
    try simp only [Act.put, List.setIfInBounds_toArray, List.set_cons_zero, List.set_cons_succ]
    refine wpAnyH_take (i := 4) (oi := ⟨some 23, _, _, _, _, _⟩) (v := ?_) rfl (by kernel_rfl) (by kernel_rfl) (by kernel_rfl) (fun _ _ _ h => h) (Or.inl ⟨by rfl, ?_⟩) (by assumption) ?_
    rotate_left
    · (intro w' hSw; (try dsimp only at hSw); go_simp <;> (with_reducible rfl))
    try simp only [Act.put, List.setIfInBounds_toArray, List.set_cons_zero, List.set_cons_succ]
    refine wpAnyH_ready (rs := [2]) (by kernel_rfl) (by simp) ?_
    refine AllReadyH.cons (o := ⟨some 21, _, _, _, _, _⟩) rfl (fun K' hK => ?_) AllReadyH.nil
    go_simp
    obtain ⟨g9, hg9⟩ : ∃ z, w_1.heap.size = z := ⟨_, rfl⟩
    obtain ⟨w_2, hw_2⟩ : ∃ z : World, z = w_1.alloc (.cells #[.int .i64 y] 3) := ⟨_, rfl⟩
    try rw [← hw_2]
    have HP9 := hide (show Box w_2 g9 3 #[.int .i64 y] by rw [hw_2]; exact Box.made hg9.symm)
    have hc_2 : Below w_1.heap.size w_1 w_2 := by rw [hw_2]; exact (Below.refl _ _).alloc (Nat.le_refl _) _
    clear hw_2
    replace HX8 := hide (HX8.out.below hc_2)
    replace HV := hide (HV.out.below hc_2)
    replace HX := hide (HX.out.below hc_2)
    replace HC2 := hide (HC2.out.below hc_2)
    replace HD2 := hide (HD2.out.below hc_2)
    replace HB := hide (HB.out.trans (hc_2.mono (by omega)))
    replace h8 := Nat.lt_of_lt_of_le h8 hc_2.size
    clear hc_2
    try simp only [hg9]
    clear hg9
    refine hK.out _ _ ⟨HX8.out.at_ 0, HX8.out.at_ 1, HX8.out.at_ 2⟩ (fun hHeld => ?_)
    clear hK K'
    try simp only [Act.put, List.setIfInBounds_toArray, List.set_cons_zero, List.set_cons_succ]
    refine wpAnyH_ready (rs := [3]) (by kernel_rfl) (by simp) ?_
    refine AllReadyH.cons (o := ⟨some 22, _, _, _, _, _⟩) rfl (fun K' hK => ?_) AllReadyH.nil
    refine step_append_twoI _ rfl (.tmp 19) (.tmp 21) rfl (b2 + 1) 0 (.slice Av k cv) k _ rfl HV.out g9 1 1 (fun _ => y) rfl (fun i hi => ⟨g9, 0, rfl, Nat.zero_le _, HP9.out.lt, by obtain rfl : i = 0 := (by omega); exact HP9.out.at_ 0⟩) (by omega) (by omega) ?_
    intro v9 w_3 ho9 hgr9 hat9
    obtain ⟨A9, c9, rfl, hcv9, -⟩ := ho9.form
    have hfar : ∀ z, (Value.slice Av k cv).ownBlock = some z → z < wA.heap.size := fun z hz => (HVL.out z hz).2
    have hlo : ∀ z, (Value.slice Av k cv).ownBlock = some z → b2 + 1 ≤ z := fun z hz => (HVL.out z hz).1
    replace HX8 := hide (show Box _ b8 24 #[.int .i64 ((m : Int) + 1), .slice C2 n f2, .slice D2 (m + 1) e2] from (hgr9.block b8 h8 (fun e => by have := hfar _ e.symm; omega)).trans HX8.out)
    replace HX := hide (show Box _ b2 24 #[.int .i64 ((m : Int) + 1), .slice C n f, .slice D (m + 1) e] from (hgr9.block b2 HX.out.lt (fun e => by have := hlo _ e.symm; omega)).trans HX.out)
    replace HC2 := hide (HC2.out.grownI hgr9 (fun b o e => by obtain ⟨b', o', e', h5, -⟩ := HC2.out 0 (by have := HOK.out.some_; omega); rw [e] at e'; injection e' with e'; injection e' with e'; subst e'; intro hz; have := hfar _ hz; omega))
    replace HD2 := hide (HD2.out.grownI hgr9 (fun b o e => by obtain ⟨b', o', e', h5, -⟩ := HD2.out 0 (by omega); rw [e] at e'; injection e' with e'; injection e' with e'; subst e'; intro hz; have := hfar _ hz; omega))
    replace HB := hide (HB.out.grown hgr9 (by omega) (fun z e => by have := hlo _ e; omega))
    replace h8 := Nat.lt_of_lt_of_le h8 hgr9.size
    have HV2 := hide (OwnInts.congr (G := fun j => I j 0) ho9 fun i hi => by
      unfold catF
      by_cases e : i < k
      · rw [if_pos e]
      · rw [if_neg e, show i = k by omega, HY.out])
    clear hfar hlo ho9 hgr9 hat9 HV HP9
    refine hK.out _ _ ⟨HX8.out.at_ 0, HX8.out.at_ 1, HX8.out.at_ 2⟩ (fun hHeld => ?_)
    clear hK K'
    try simp only [Act.put, List.setIfInBounds_toArray, List.set_cons_zero, List.set_cons_succ]
    refine wpAnyH_take (i := 5) (oi := ⟨some 5, _, _, _, _, _⟩) (v := ?_) rfl (by kernel_rfl) (by kernel_rfl) (by kernel_rfl) (fun _ _ _ h => h) (Or.inl ⟨by rfl, ?_⟩) (by assumption) ?_
    rotate_left
    · (intro w' hSw; (try dsimp only at hSw); go_simp <;> (with_reducible rfl))
    try simp only [Act.put, List.setIfInBounds_toArray, List.set_cons_zero, List.set_cons_succ]
    refine wpAnyH_ready (rs := [6]) (by kernel_rfl) (by simp) ?_
    refine AllReadyH.cons (o := ⟨none, _, _, _, _, _⟩) rfl (fun K' hK => ?_) AllReadyH.nil
    obtain ⟨x0, x1, x2, f0, f1, ff2, hlx⟩ := HX.out.r3
    go_simp
    clear x0 x1 x2 f0 f1 ff2 hlx
    have hfC : ∀ b o, C2 = some ⟨b, o, none⟩ → b ≠ b2 := fun b o e => by obtain ⟨b', o', e', h5, -⟩ := HC2.out 0 (by have := HOK.out.some_; omega); rw [e] at e'; injection e' with e'; injection e' with e'; omega
    have hfD : ∀ b o, D2 = some ⟨b, o, none⟩ → b ≠ b2 := fun b o e => by obtain ⟨b', o', e', h5, -⟩ := HD2.out 0 (by omega); rw [e] at e'; injection e' with e'; injection e' with e'; omega
    replace HC2 := hide (intsOther (p := ⟨b2, 2, none⟩) (intsOther (p := ⟨b2, 1, none⟩) (intsOther (p := ⟨b2, 0, none⟩) HC2.out hfC (.int .i64 ((m : Int) + 1))) hfC (.slice C2 n f2)) hfC (.slice D2 (m + 1) e2))
    replace HD2 := hide (intsOther (p := ⟨b2, 2, none⟩) (intsOther (p := ⟨b2, 1, none⟩) (intsOther (p := ⟨b2, 0, none⟩) HD2.out hfD (.int .i64 ((m : Int) + 1))) hfD (.slice C2 n f2)) hfD (.slice D2 (m + 1) e2))
    have hv2 : ∀ (i : Nat), (Value.slice A9 (k + 1) c9).ownBlock ≠ some b2 := fun _ e => by have := (ownV_at (w' := wA) (v' := Value.slice A9 (k + 1) c9) HV2.out e).1; omega
    replace HV2 := hide (ownV_other (o := 2) (ownV_other (o := 1) (ownV_other (o := 0) HV2.out (hv2 0) (.int .i64 ((m : Int) + 1))) (hv2 0) (.slice C2 n f2)) (hv2 0) (.slice D2 (m + 1) e2))
    replace HX8 := hide (((HX8.out.other (p := ⟨b2, 0, none⟩) (by show b8 ≠ b2; omega) (.int .i64 ((m : Int) + 1))).other (p := ⟨b2, 1, none⟩) (by show b8 ≠ b2; omega) (.slice C2 n f2)).other (p := ⟨b2, 2, none⟩) (by show b8 ≠ b2; omega) (.slice D2 (m + 1) e2))
    replace HX := hide (HX.out.r3putAll (.int .i64 ((m : Int) + 1)) (.slice C2 n f2) (.slice D2 (m + 1) e2))
    replace HB := hide (((HB.out.setCell (p := ⟨b2, 0, none⟩) (Nat.le_refl _) (.int .i64 ((m : Int) + 1))).setCell (p := ⟨b2, 1, none⟩) (Nat.le_refl _) (.slice C2 n f2)).setCell (p := ⟨b2, 2, none⟩) (Nat.le_refl _) (.slice D2 (m + 1) e2))
    obtain ⟨w_4, hw_4⟩ : ∃ z : World, ((w_3.setCell ⟨b2, 0, none⟩ (.int .i64 ((m : Int) + 1))).setCell ⟨b2, 1, none⟩ (.slice C2 n f2)).setCell ⟨b2, 2, none⟩ (.slice D2 (m + 1) e2) = z := ⟨_, rfl⟩
    rw [hw_4] at HX8 HX HB HC2 HD2 HV2 ⊢
    clear hw_4
    refine hK.out _ _ ⟨HX8.out.at_ 0, HX8.out.at_ 1, HX8.out.at_ 2⟩ (fun hHeld => ?_)
    clear hK K'
    try simp only [Act.put, List.setIfInBounds_toArray, List.set_cons_zero, List.set_cons_succ]
    refine wpAnyH_done (by kernel_rfl) ?_ _
    clear hHeld
    go_wp2_with fail
    go_roundw
    case rel => exact ⟨k + 1, C2, D2, f2, e2, by omega, by go_num, HV2, HX, hide (HC2.out.weak (Nat.zero_le _)), hide (HD2.out.weak (Nat.zero_le _)), hf2, he2, he29, HB⟩
    case measure => simp [Go.RowKit.intOf]; omega
end Go.Proofs.Ytonmkmaeohfjpaa
/- The walk of SymbolRegisters. -/
namespace Go.Proofs.Ytonmkmaeohfjpaa
open Go Go.RowKit Go.Lib Ieee
theorem copyAny (L : Int) (A B : Option Addr) (n c m d : Nat) (T S : Nat → Int) (w : World) (hn : n ≤ 100000) (hm : m ≤ 100000) (hT : IntsAt w 0 A n T) (hS : IntsAt w 0 B m S) :
    Calls Try.prog 19 #[.agg #[.int .i64 L, .slice A n c, .slice B m d]] w fun e w' => ∃ C f D k, e = .returned (.agg #[.int .i64 L, .slice C n f, .slice D m k]) ∧ IntsAt w' 0 C n T ∧ IntsAt w' 0 D m S ∧ Below w.heap.size w w' :=
  (CopyRegister_any L A B n c m d T S w hn hm hT hS).mono fun e w' ⟨C, f, D, k, e1, h1, h2, h3, _⟩ => by
    obtain ⟨A1, c1, e2, -, hI⟩ := h1.form
    injection e2 with e2 _ _
    subst e2
    obtain ⟨A2, c2, e3, -, hJ⟩ := h2.form
    injection e3 with e3 _ _
    subst e3
    exact ⟨_, f, _, k, e1, hI.weak (Nat.zero_le _), hJ.weak (Nat.zero_le _), h3⟩
theorem seqU (A B : Option Addr) (n c p d : Nat) (q : Int) (T S : Nat → Int) (w : World) (hn : n ≤ 100000) (hp : p ≤ 10000) (hz : regE ((p : Int) + 1) n T (p + 1) S = 0) (hT : IntsAt w 0 A n T) (hS : IntsAt w 0 B (p + 1) S) :
    Calls Try.prog 21 #[.agg #[.int .i64 ((p : Int) + 1), .slice A n c, .slice B (p + 1) d], .int .i64 q] w fun e w' => ∃ V l k E, e = .returned (.tuple #[.slice V l k, .int .i64 E]) ∧ (1 ≤ q ∧ q ≤ 400 → E = 0 ∧ (l : Int) = q) ∧ (¬ (1 ≤ q ∧ q ≤ 400) → E = 2 ∧ l = 0) ∧ IntsAt w' 0 V l (fun j => itS (p + 1) n T S j 0) ∧ Below w.heap.size w w' :=
  (Sequence_any _ q A B n c (p + 1) d T S w hn (by omega) hT hS).mono fun e w' ⟨v, e1, h1, h2, h3⟩ => by
    have hE : seqE ((p : Int) + 1) n T (p + 1) S q = if withinB q 1 400 = true then 0 else 2 := by unfold seqE; rw [if_pos hz]
    by_cases hq : 1 ≤ q ∧ q ≤ 400
    · rw [withinB_yes hq, if_pos rfl] at hE
      obtain ⟨g, rfl, ho⟩ := h1 hE
      rw [hE] at e1
      exact ⟨_, _, _, _, e1, fun _ => ⟨rfl, by omega⟩, fun h => absurd hq h, ho.atG (Nat.zero_le _), h3⟩
    · rw [withinB_no hq, if_neg (by decide)] at hE
      rw [h2 (by rw [hE]; decide), hE] at e1
      exact ⟨_, _, _, _, e1, fun h => absurd h hq, fun _ => ⟨rfl, rfl⟩, IntsAt.nil_, h3⟩
theorem jumpU (b n c b2 m d p : Nat) (s : Int) (T S : Nat → Int) (w : World) (hn : n ≤ 100000) (hm : m + 1 ≤ 100000) (hz : regE ((m : Int) + 1) n T (m + 1) S = 0) (hok : RegOk (m + 1) n T S) (hp : IsPer (m + 1) n T S p) (hT : IntsAt w 0 (some ⟨b, 0, none⟩) n T) (hS : IntsAt w 0 (some ⟨b2, 0, none⟩) (m + 1) S) :
    Calls Try.prog 22 #[.agg #[.int .i64 ((m : Int) + 1), .slice (some ⟨b, 0, none⟩) n c, .slice (some ⟨b2, 0, none⟩) (m + 1) d], .int .i64 s] w fun e w' => ∃ K C n2 f D m2 k E, e = .returned (.tuple #[.agg #[.int .i64 K, .slice C n2 f, .slice D m2 k], .int .i64 E]) ∧ (0 ≤ s ∧ s ≤ 1000000000 → K = (m : Int) + 1 ∧ n2 = n ∧ m2 = m + 1 ∧ E = 0) ∧ (¬ (0 ≤ s ∧ s ≤ 1000000000) → K = 0 ∧ n2 = 0 ∧ m2 = 0 ∧ E = 2) ∧ IntsAt w' 0 C n2 T ∧ IntsAt w' 0 D m2 (itS (m + 1) n T S (s.toNat % p)) ∧ Below w.heap.size w w' := by
  by_cases hs : 0 ≤ s ∧ s ≤ 1000000000
  · obtain ⟨σ, rfl⟩ : ∃ z : Nat, s = (z : Int) := ⟨s.toNat, by omega⟩
    refine (jumpOk b n c b2 m d p σ (σ % p) T S w hz hok hp (by omega) rfl hT hS).mono ?_
    rintro e w' ⟨g, f, h, k, e1, h1, h2, h3⟩
    exact ⟨_, _, _, _, _, _, _, _, e1, fun _ => ⟨rfl, rfl, rfl, rfl⟩, fun h => absurd hs h, h1, h2, h3⟩
  · have hE : jmpE ((m : Int) + 1) n T (m + 1) S s = 2 := by unfold jmpE; rw [if_pos hz, withinB_no hs]; rfl
    have h := Jumped_wrong ((m : Int) + 1) s _ _ n c (m + 1) d T S w hn hm (by rw [hE]; decide) hT hS
    rw [hE] at h
    refine h.mono ?_
    rintro e w' ⟨e1, h3⟩
    exact ⟨_, _, _, _, _, _, _, _, e1, fun h => absurd h hs, fun _ => ⟨rfl, rfl, rfl, rfl⟩, IntsAt.nil_, IntsAt.nil_, h3⟩
set_option maxHeartbeats 32000000 in
set_option maxRecDepth 100000 in
theorem symbolRegisters_walk (L q s : Int) (A B : Option Addr) (n c m d : Nat) (T S : Nat → Int) (w : World) (hn : n ≤ 9223372036854775807) (hm : m ≤ 9223372036854775807) (hnc : n ≤ c) (hmd : m ≤ d) (hd9 : d ≤ 9223372036854775807) (hT : IntsAt w 0 A n T) (hS : IntsAt w 0 B m S) :
    Calls Try.prog 3 #[.agg #[.int .i64 L, .slice A n c, .slice B m d], .int .i64 q, .int .i64 s] w fun e w' => e = .returned (.bool true) ∧ Below w.heap.size w w' := by
  have HB := hide (Below.refl w.heap.size w)
  have HTT := hide hT
  have HSS := hide hS
  clear hT hS
  have HSH := hide (fun W => short_any L A B n c m d W)
  have HW4 := hide (fun W => within_any q 41 400 W)
  have HW1 := hide (fun W => within_any q 1 400 W)
  have HWS := hide (fun W => within_any s 0 1000000000 W)
  go_enter Try.func3, Try.ntmps3
  go_upto_region 1 with fail
  obtain ⟨v1, hv1⟩ : ∃ z : World, z = (w.alloc (.cells #[.int .i64 L, .slice A n c, .slice B m d] 24)) := ⟨_, rfl⟩
  try rw [← hv1]
  have HX := hide (show Box v1 (w.heap.size) 24 #[.int .i64 L, .slice A n c, .slice B m d] by rw [hv1]; exact Box.made rfl)
  have hb1 : Below w.heap.size w v1 := by rw [hv1]; (repeat (first | (with_reducible exact Below.refl _ _) | (with_reducible refine Go.below_drewN ?_ _) | (with_reducible refine Below.drew ?_) | (with_reducible refine Below.alloc ?_ (by first | exact Nat.le_refl _ | (simp; done) | (simp; omega) | omega) _) | (with_reducible refine Below.setCell ?_ (by first | exact Nat.le_refl _ | (simp; done) | (simp; omega) | omega) _)))
  clear hv1
  replace HTT := hide (HTT.out.below hb1)
  replace HSS := hide (HSS.out.below hb1)
  replace HB := hide (HB.out.trans (hb1.mono HB.out.size))
  clear hb1
  obtain ⟨b1, eb1⟩ : ∃ z, w.heap.size = z := ⟨_, rfl⟩
  simp only [eb1] at HX
  try simp only [eb1]
  clear eb1
  go_wp2_with fail
  refine (awakeS_any _).mono ?_
  rintro e_ v2 ⟨rfl, hb2⟩
  replace HTT := hide (HTT.out.below hb2)
  replace HSS := hide (HSS.out.below hb2)
  replace HX := hide (HX.out.below hb2)
  replace HB := hide (HB.out.trans (hb2.mono HB.out.size))
  clear hb2
  obtain ⟨l0_0, l0_1, l0_2, l0_z⟩ := rec_cells HX.out
  go_wp2_with fail
  clear l0_0 l0_1 l0_2 l0_z
  by_cases h12 : n ≤ 12 ∧ m ≤ 12
  case neg =>
    have hs : (decide ((n : Int) ≤ 12) && decide ((m : Int) ≤ 12)) = false := by simp; omega
    rw [hs] at HSH
    clear hs
    refine (HSH.out _).mono ?_
    rintro e_ v3 ⟨rfl, hb3⟩
    replace HTT := hide (HTT.out.below hb3)
    replace HSS := hide (HSS.out.below hb3)
    replace HX := hide (HX.out.below hb3)
    replace HB := hide (HB.out.trans (hb3.mono HB.out.size))
    clear hb3
    go_wp2_with fail
    go_ret
    exact ⟨rfl, HB.out⟩
  have hs : (decide ((n : Int) ≤ 12) && decide ((m : Int) ≤ 12)) = true := by simp; omega
  rw [hs] at HSH
  clear hs
  refine (HSH.out _).mono ?_
  rintro e_ v4 ⟨rfl, hb4⟩
  replace HTT := hide (HTT.out.below hb4)
  replace HSS := hide (HSS.out.below hb4)
  replace HX := hide (HX.out.below hb4)
  replace HB := hide (HB.out.trans (hb4.mono HB.out.size))
  clear hb4
  go_wp2_with fail
  by_cases h41 : 41 ≤ q ∧ q ≤ 400
  case pos =>
    have e4 := HW4.out
    simp only [withinB_yes h41] at e4
    refine (e4 _).mono ?_
    rintro e_ v_ ⟨rfl, rfl⟩
    go_wp2_with fail
    go_ret
    exact ⟨rfl, HB.out⟩
  have e4 := HW4.out
  simp only [withinB_no h41] at e4
  refine (e4 _).mono ?_
  rintro e_ v_ ⟨rfl, rfl⟩
  obtain ⟨l0_0, l0_1, l0_2, l0_z⟩ := rec_cells HX.out
  go_wp2_with fail
  clear l0_0 l0_1 l0_2 l0_z
  clear e4 HW4
  have HCO := hide (fun W h1 h2 => copyAny L A B n c m d T S W (by omega) (by omega) h1 h2)
  have HCR := hide (fun A B c d W h1 h2 => CheckRegister_any L A B n c m d T S W (by omega) (by omega) h1 h2)
  have HRR := hide (fun W (h1 : IntsAt W 0 A n T) (h2 : IntsAt W 0 B m S) => CheckRegisterR_any L A B n c m d T S W (by omega) (by omega) h1 h2)
  have HNO := hide (fun C D f k W (h1 : IntsAt W 0 C 0 T) (h2 : IntsAt W 0 D 0 S) => sameOk 0 C D none none 0 f 0 k 0 0 T S S W (by omega) (by omega) h1 h2 IntsAt.nil_ IntsAt.nil_ (fun _ _ => rfl))
  obtain ⟨r, hr⟩ : ∃ z, regE L n T m S = z := ⟨_, rfl⟩
  rw [hr] at HRR
  simp only [hr] at HCR
  by_cases hr0 : r = 0
  case neg =>
    have HZ := hide hr
    have t2 : (r != 0) = true := by simpa using hr0
    have t1 : (r == 0) = false := by simpa using hr0
    have HR0 := hide hr0
    clear hr hr0
    refine (HCO.out _ HTT.out HSS.out).mono ?_
    rintro e_ v5 ⟨C1, f1, D1, k1, rfl, ht1, hs1, hb5⟩
    replace HTT := hide (HTT.out.below hb5)
    replace HSS := hide (HSS.out.below hb5)
    replace HX := hide (HX.out.below hb5)
    replace HB := hide (HB.out.trans (hb5.mono HB.out.size))
    clear hb5
    have HCT1 := hide ht1
    clear ht1
    have HCS1 := hide hs1
    clear hs1
    go_wp2_with fail
    refine (HCR.out _ _ _ _ _ HCT1.out HCS1.out).mono ?_
    rintro e_ v6 ⟨rfl, hb6⟩
    replace HTT := hide (HTT.out.below hb6)
    replace HSS := hide (HSS.out.below hb6)
    replace HX := hide (HX.out.below hb6)
    replace HCT1 := hide (HCT1.out.below hb6)
    replace HCS1 := hide (HCS1.out.below hb6)
    replace HB := hide (HB.out.trans (hb6.mono HB.out.size))
    clear hb6
    clear HCT1 HCS1
    obtain ⟨l0_0, l0_1, l0_2, l0_z⟩ := rec_cells HX.out
    go_wp2_with fail
    clear l0_0 l0_1 l0_2 l0_z
    refine (HCO.out _ HTT.out HSS.out).mono ?_
    rintro e_ v7 ⟨C2, f2, D2, k2, rfl, ht2, hs2, hb7⟩
    replace HTT := hide (HTT.out.below hb7)
    replace HSS := hide (HSS.out.below hb7)
    replace HX := hide (HX.out.below hb7)
    replace HB := hide (HB.out.trans (hb7.mono HB.out.size))
    clear hb7
    have HCT2 := hide ht2
    clear ht2
    have HCS2 := hide hs2
    clear hs2
    go_wp2_with fail
    have HN := hide (Next_wrong L C2 D2 n f2 m k2 T S _ (by omega) (by omega) (by rw [HZ.out]; exact HR0.out) HCT2.out HCS2.out)
    rw [HZ.out] at HN
    refine (HN.out).mono ?_
    rintro e_ v8 ⟨rfl, hb8⟩
    replace HTT := hide (HTT.out.below hb8)
    replace HSS := hide (HSS.out.below hb8)
    replace HX := hide (HX.out.below hb8)
    replace HCT2 := hide (HCT2.out.below hb8)
    replace HCS2 := hide (HCS2.out.below hb8)
    replace HB := hide (HB.out.trans (hb8.mono HB.out.size))
    clear hb8
    clear HN
    clear HCT2 HCS2
    go_upto_region 7 with fail
    obtain ⟨v9, hv9⟩ : ∃ z : World, z = (v8.alloc (.cells #[.int .i64 0, .slice none 0 0, .slice none 0 0] 24)) := ⟨_, rfl⟩
    try rw [← hv9]
    have HX9 := hide (show Box v9 (v8.heap.size) 24 #[.int .i64 0, .slice none 0 0, .slice none 0 0] by rw [hv9]; exact Box.made rfl)
    have hb9 : Below v8.heap.size v8 v9 := by rw [hv9]; (repeat (first | (with_reducible exact Below.refl _ _) | (with_reducible refine Go.below_drewN ?_ _) | (with_reducible refine Below.drew ?_) | (with_reducible refine Below.alloc ?_ (by first | exact Nat.le_refl _ | (simp; done) | (simp; omega) | omega) _) | (with_reducible refine Below.setCell ?_ (by first | exact Nat.le_refl _ | (simp; done) | (simp; omega) | omega) _)))
    clear hv9
    replace HTT := hide (HTT.out.below hb9)
    replace HSS := hide (HSS.out.below hb9)
    replace HX := hide (HX.out.below hb9)
    replace HB := hide (HB.out.trans (hb9.mono HB.out.size))
    clear hb9
    obtain ⟨b9, eb9⟩ : ∃ z, v8.heap.size = z := ⟨_, rfl⟩
    simp only [eb9] at HX9
    try simp only [eb9]
    clear eb9
    obtain ⟨l0_0, l0_1, l0_2, l0_z⟩ := rec_cells HX.out
    go_wp2_with fail
    clear l0_0 l0_1 l0_2 l0_z
    refine (HCO.out _ HTT.out HSS.out).mono ?_
    rintro e_ v10 ⟨C3, f3, D3, k3, rfl, ht3, hs3, hb10⟩
    replace HTT := hide (HTT.out.below hb10)
    replace HSS := hide (HSS.out.below hb10)
    replace HX := hide (HX.out.below hb10)
    replace HX9 := hide (HX9.out.below hb10)
    replace HB := hide (HB.out.trans (hb10.mono HB.out.size))
    clear hb10
    have HCT3 := hide ht3
    clear ht3
    have HCS3 := hide hs3
    clear hs3
    go_wp2_with fail
    have HN := hide (Sequence_any L q C3 D3 n f3 m k3 T S _ (by omega) (by omega) HCT3.out HCS3.out)
    have hse : seqE L n T m S q = r := by unfold seqE; rw [HZ.out, if_neg HR0.out]
    rw [hse] at HN
    clear hse
    refine HN.out.mono ?_
    rintro e_ v11 ⟨vv, rfl, -, hv, hb11⟩
    obtain rfl := hv HR0.out
    clear HN
    replace HTT := hide (HTT.out.below hb11)
    replace HSS := hide (HSS.out.below hb11)
    replace HX := hide (HX.out.below hb11)
    replace HX9 := hide (HX9.out.below hb11)
    replace HCT3 := hide (HCT3.out.below hb11)
    replace HCS3 := hide (HCS3.out.below hb11)
    replace HB := hide (HB.out.trans (hb11.mono HB.out.size))
    clear hb11
    clear HCT3 HCS3
    obtain ⟨l0_0, l0_1, l0_2, l0_z⟩ := rec_cells HX.out
    go_wp2_with fail
    clear l0_0 l0_1 l0_2 l0_z
    refine (HCO.out _ HTT.out HSS.out).mono ?_
    rintro e_ v12 ⟨C4, f4, D4, k4, rfl, ht4, hs4, hb12⟩
    replace HTT := hide (HTT.out.below hb12)
    replace HSS := hide (HSS.out.below hb12)
    replace HX := hide (HX.out.below hb12)
    replace HX9 := hide (HX9.out.below hb12)
    replace HB := hide (HB.out.trans (hb12.mono HB.out.size))
    clear hb12
    have HCT4 := hide ht4
    clear ht4
    have HCS4 := hide hs4
    clear hs4
    go_wp2_with fail
    have hje : jmpE L n T m S s = r := by unfold jmpE; rw [HZ.out, if_neg HR0.out]
    have HN := hide (Jumped_wrong L s C4 D4 n f4 m k4 T S _ (by omega) (by omega) (by rw [hje]; exact HR0.out) HCT4.out HCS4.out)
    rw [hje] at HN
    clear hje
    refine (HN.out).mono ?_
    rintro e_ v13 ⟨rfl, hb13⟩
    replace HTT := hide (HTT.out.below hb13)
    replace HSS := hide (HSS.out.below hb13)
    replace HX := hide (HX.out.below hb13)
    replace HX9 := hide (HX9.out.below hb13)
    replace HCT4 := hide (HCT4.out.below hb13)
    replace HCS4 := hide (HCS4.out.below hb13)
    replace HB := hide (HB.out.trans (hb13.mono HB.out.size))
    clear hb13
    clear HN
    clear HCT4 HCS4
    go_upto_region 10 with fail
    obtain ⟨v14, hv14⟩ : ∃ z : World, z = ((v13.alloc (.cells #[.int .i64 0, .slice none 0 0, .slice none 0 0] 24)).alloc (.cells #[.int .i64 0, .slice none 0 0, .slice none 0 0] 24)) := ⟨_, rfl⟩
    try rw [← hv14]
    have HX13 := hide (show Box v14 (v13.heap.size) 24 #[.int .i64 0, .slice none 0 0, .slice none 0 0] by rw [hv14]; exact (Box.made rfl).alloc _)
    have HX15 := hide (show Box v14 (v13.heap.size + 1) 24 #[.int .i64 0, .slice none 0 0, .slice none 0 0] by rw [hv14]; exact Box.made (by simp))
    have hb14 : Below v13.heap.size v13 v14 := by rw [hv14]; (repeat (first | (with_reducible exact Below.refl _ _) | (with_reducible refine Go.below_drewN ?_ _) | (with_reducible refine Below.drew ?_) | (with_reducible refine Below.alloc ?_ (by first | exact Nat.le_refl _ | (simp; done) | (simp; omega) | omega) _) | (with_reducible refine Below.setCell ?_ (by first | exact Nat.le_refl _ | (simp; done) | (simp; omega) | omega) _)))
    clear hv14
    replace HTT := hide (HTT.out.below hb14)
    replace HSS := hide (HSS.out.below hb14)
    replace HX := hide (HX.out.below hb14)
    replace HX9 := hide (HX9.out.below hb14)
    replace HB := hide (HB.out.trans (hb14.mono HB.out.size))
    clear hb14
    obtain ⟨b14, eb14⟩ : ∃ z, v13.heap.size = z := ⟨_, rfl⟩
    simp only [eb14] at HX13 HX15
    try simp only [eb14]
    clear eb14
    obtain ⟨l0_0, l0_1, l0_2, l0_z⟩ := rec_cells HX.out
    go_wp2_with fail
    clear l0_0 l0_1 l0_2 l0_z
    refine (HRR.out _ HTT.out HSS.out).mono ?_
    rintro e_ v15 ⟨rfl, hb15⟩
    replace HTT := hide (HTT.out.below hb15)
    replace HSS := hide (HSS.out.below hb15)
    replace HX := hide (HX.out.below hb15)
    replace HX9 := hide (HX9.out.below hb15)
    replace HX13 := hide (HX13.out.below hb15)
    replace HX15 := hide (HX15.out.below hb15)
    replace HB := hide (HB.out.trans (hb15.mono HB.out.size))
    clear hb15
    obtain ⟨l0_0, l0_1, l0_2, l0_z⟩ := rec_cells HX9.out
    obtain ⟨l1_0, l1_1, l1_2, l1_z⟩ := rec_cells HX15.out
    go_wp2_with fail
    clear l0_0 l0_1 l0_2 l0_z l1_0 l1_1 l1_2 l1_z
    refine (HNO.out _ _ _ _ _ IntsAt.nil_ IntsAt.nil_).mono ?_
    rintro e_ v16 ⟨rfl, hb16⟩
    replace HTT := hide (HTT.out.below hb16)
    replace HSS := hide (HSS.out.below hb16)
    replace HX := hide (HX.out.below hb16)
    replace HX9 := hide (HX9.out.below hb16)
    replace HX13 := hide (HX13.out.below hb16)
    replace HX15 := hide (HX15.out.below hb16)
    replace HB := hide (HB.out.trans (hb16.mono HB.out.size))
    clear hb16
    obtain ⟨l0_0, l0_1, l0_2, l0_z⟩ := rec_cells HX13.out
    obtain ⟨l1_0, l1_1, l1_2, l1_z⟩ := rec_cells HX15.out
    go_wp2_with fail
    clear l0_0 l0_1 l0_2 l0_z l1_0 l1_1 l1_2 l1_z
    refine (HNO.out _ _ _ _ _ IntsAt.nil_ IntsAt.nil_).mono ?_
    rintro e_ v17 ⟨rfl, hb17⟩
    replace HTT := hide (HTT.out.below hb17)
    replace HSS := hide (HSS.out.below hb17)
    replace HX := hide (HX.out.below hb17)
    replace HX9 := hide (HX9.out.below hb17)
    replace HX13 := hide (HX13.out.below hb17)
    replace HX15 := hide (HX15.out.below hb17)
    replace HB := hide (HB.out.trans (hb17.mono HB.out.size))
    clear hb17
    go_wp2_with fail
    go_ret
    exact ⟨rfl, HB.out⟩
  subst hr0
  obtain ⟨p, rfl, rfl, hok⟩ := regE_ok hr
  have HZ := hide hr
  have HOK := hide hok
  have hq9 := hok.most
  have hn10 := hok.count
  have hn1 := hok.some_
  obtain ⟨π, hπ⟩ := per_ex hok
  have HPER := hide hπ
  clear hr hok hπ HSH HCO
  have HCO := hide (fun W (h1 : IntsAt W 0 A n T) (h2 : IntsAt W 0 B (p + 1) S) => copyOk ((p : Int) + 1) A B n c (p + 1) d T S W (by omega) (by omega) hn1 (by omega) h1 h2)
  refine (HCO.out _ HTT.out HSS.out).mono ?_
  rintro e_ v18 ⟨g5, f5, h5, k5, rfl, ht5, hs5, hb18⟩
  replace HTT := hide (HTT.out.below hb18)
  replace HSS := hide (HSS.out.below hb18)
  replace HX := hide (HX.out.below hb18)
  replace HB := hide (HB.out.trans (hb18.mono HB.out.size))
  clear hb18
  have HCT5 := hide ht5
  clear ht5
  have HCS5 := hide hs5
  clear hs5
  go_wp2_with fail
  refine (HCR.out _ _ _ _ _ HCT5.out HCS5.out).mono ?_
  rintro e_ v19 ⟨rfl, hb19⟩
  replace HTT := hide (HTT.out.below hb19)
  replace HSS := hide (HSS.out.below hb19)
  replace HX := hide (HX.out.below hb19)
  replace HCT5 := hide (HCT5.out.below hb19)
  replace HCS5 := hide (HCS5.out.below hb19)
  replace HB := hide (HB.out.trans (hb19.mono HB.out.size))
  clear hb19
  clear HCT5 HCS5
  clear HCR
  obtain ⟨l0_0, l0_1, l0_2, l0_z⟩ := rec_cells HX.out
  go_wp2_with fail
  clear l0_0 l0_1 l0_2 l0_z
  refine (HCO.out _ HTT.out HSS.out).mono ?_
  rintro e_ v20 ⟨g6, f6, h6, k6, rfl, ht6, hs6, hb20⟩
  replace HTT := hide (HTT.out.below hb20)
  replace HSS := hide (HSS.out.below hb20)
  replace HX := hide (HX.out.below hb20)
  replace HB := hide (HB.out.trans (hb20.mono HB.out.size))
  clear hb20
  have HCT6 := hide ht6
  clear ht6
  have HCS6 := hide hs6
  clear hs6
  go_wp2_with fail
  refine (nextOk g6 n f6 h6 p k6 T S _ HZ.out HOK.out HCT6.out HCS6.out).mono ?_
  rintro e_ v21 ⟨u9, x9, y9, z9, rfl, ht9, hs9, hb21⟩
  replace HTT := hide (HTT.out.below hb21)
  replace HSS := hide (HSS.out.below hb21)
  replace HX := hide (HX.out.below hb21)
  replace HCT6 := hide (HCT6.out.below hb21)
  replace HCS6 := hide (HCS6.out.below hb21)
  replace HB := hide (HB.out.trans (hb21.mono HB.out.size))
  clear hb21
  have HT9 := hide ht9
  clear ht9
  have HS9 := hide hs9
  clear hs9
  clear HCT6 HCS6
  go_upto_region 7 with fail
  obtain ⟨v22, hv22⟩ : ∃ z : World, z = (v21.alloc (.cells #[.int .i64 ((p : Int) + 1), .slice (some ⟨u9, 0, none⟩) n x9, .slice (some ⟨y9, 0, none⟩) (p + 1) z9] 24)) := ⟨_, rfl⟩
  try rw [← hv22]
  have HX9 := hide (show Box v22 (v21.heap.size) 24 #[.int .i64 ((p : Int) + 1), .slice (some ⟨u9, 0, none⟩) n x9, .slice (some ⟨y9, 0, none⟩) (p + 1) z9] by rw [hv22]; exact Box.made rfl)
  have hb22 : Below v21.heap.size v21 v22 := by rw [hv22]; (repeat (first | (with_reducible exact Below.refl _ _) | (with_reducible refine Go.below_drewN ?_ _) | (with_reducible refine Below.drew ?_) | (with_reducible refine Below.alloc ?_ (by first | exact Nat.le_refl _ | (simp; done) | (simp; omega) | omega) _) | (with_reducible refine Below.setCell ?_ (by first | exact Nat.le_refl _ | (simp; done) | (simp; omega) | omega) _)))
  clear hv22
  replace HTT := hide (HTT.out.below hb22)
  replace HSS := hide (HSS.out.below hb22)
  replace HX := hide (HX.out.below hb22)
  replace HT9 := hide (HT9.out.below hb22)
  replace HS9 := hide (HS9.out.below hb22)
  replace HB := hide (HB.out.trans (hb22.mono HB.out.size))
  clear hb22
  obtain ⟨b22, eb22⟩ : ∃ z, v21.heap.size = z := ⟨_, rfl⟩
  simp only [eb22] at HX9
  try simp only [eb22]
  clear eb22
  obtain ⟨l0_0, l0_1, l0_2, l0_z⟩ := rec_cells HX.out
  go_wp2_with fail
  clear l0_0 l0_1 l0_2 l0_z
  refine (HCO.out _ HTT.out HSS.out).mono ?_
  rintro e_ v23 ⟨g7, f7, h7, k7, rfl, ht7, hs7, hb23⟩
  replace HTT := hide (HTT.out.below hb23)
  replace HSS := hide (HSS.out.below hb23)
  replace HX := hide (HX.out.below hb23)
  replace HT9 := hide (HT9.out.below hb23)
  replace HS9 := hide (HS9.out.below hb23)
  replace HX9 := hide (HX9.out.below hb23)
  replace HB := hide (HB.out.trans (hb23.mono HB.out.size))
  clear hb23
  have HCT7 := hide ht7
  clear ht7
  have HCS7 := hide hs7
  clear hs7
  go_wp2_with fail
  refine (seqU _ _ n f7 p k7 q T S _ (by omega) (by omega) HZ.out HCT7.out HCS7.out).mono ?_
  rintro e_ v24 ⟨V, l, kv, E1, rfl, hq1, hq2, hv, hb24⟩
  replace HTT := hide (HTT.out.below hb24)
  replace HSS := hide (HSS.out.below hb24)
  replace HX := hide (HX.out.below hb24)
  replace HT9 := hide (HT9.out.below hb24)
  replace HS9 := hide (HS9.out.below hb24)
  replace HX9 := hide (HX9.out.below hb24)
  replace HCT7 := hide (HCT7.out.below hb24)
  replace HCS7 := hide (HCS7.out.below hb24)
  replace HB := hide (HB.out.trans (hb24.mono HB.out.size))
  clear hb24
  have HV := hide hv
  clear hv
  clear HCT7 HCS7
  have HQ1 := hide hq1
  have HQ2 := hide hq2
  clear hq1 hq2
  obtain ⟨l0_0, l0_1, l0_2, l0_z⟩ := rec_cells HX.out
  go_wp2_with fail
  clear l0_0 l0_1 l0_2 l0_z
  refine (HCO.out _ HTT.out HSS.out).mono ?_
  rintro e_ v25 ⟨g8, f8, h8, k8, rfl, ht8, hs8, hb25⟩
  replace HTT := hide (HTT.out.below hb25)
  replace HSS := hide (HSS.out.below hb25)
  replace HX := hide (HX.out.below hb25)
  replace HT9 := hide (HT9.out.below hb25)
  replace HS9 := hide (HS9.out.below hb25)
  replace HX9 := hide (HX9.out.below hb25)
  replace HV := hide (HV.out.below hb25)
  replace HB := hide (HB.out.trans (hb25.mono HB.out.size))
  clear hb25
  have HCT8 := hide ht8
  clear ht8
  have HCS8 := hide hs8
  clear hs8
  go_wp2_with fail
  refine (jumpU g8 n f8 h8 p k8 π s T S _ (by omega) (by omega) HZ.out HOK.out HPER.out HCT8.out HCS8.out).mono ?_
  rintro e_ v26 ⟨KK, u13, n13, x13, y13, m13, z13, E2, rfl, hj1, hj2, ht13, hs13, hb26⟩
  replace HTT := hide (HTT.out.below hb26)
  replace HSS := hide (HSS.out.below hb26)
  replace HX := hide (HX.out.below hb26)
  replace HT9 := hide (HT9.out.below hb26)
  replace HS9 := hide (HS9.out.below hb26)
  replace HX9 := hide (HX9.out.below hb26)
  replace HV := hide (HV.out.below hb26)
  replace HCT8 := hide (HCT8.out.below hb26)
  replace HCS8 := hide (HCS8.out.below hb26)
  replace HB := hide (HB.out.trans (hb26.mono HB.out.size))
  clear hb26
  have HT13 := hide ht13
  clear ht13
  have HS13 := hide hs13
  clear hs13
  clear HCT8 HCS8
  have HJ1 := hide hj1
  have HJ2 := hide hj2
  clear hj1 hj2
  go_upto_region 10 with fail
  obtain ⟨v27, hv27⟩ : ∃ z : World, z = ((v26.alloc (.cells #[.int .i64 KK, .slice u13 n13 x13, .slice y13 m13 z13] 24)).alloc (.cells #[.int .i64 0, .slice none 0 0, .slice none 0 0] 24)) := ⟨_, rfl⟩
  try rw [← hv27]
  have HX13 := hide (show Box v27 (v26.heap.size) 24 #[.int .i64 KK, .slice u13 n13 x13, .slice y13 m13 z13] by rw [hv27]; exact (Box.made rfl).alloc _)
  have HX15 := hide (show Box v27 (v26.heap.size + 1) 24 #[.int .i64 0, .slice none 0 0, .slice none 0 0] by rw [hv27]; exact Box.made (by simp))
  have hb27 : Below v26.heap.size v26 v27 := by rw [hv27]; (repeat (first | (with_reducible exact Below.refl _ _) | (with_reducible refine Go.below_drewN ?_ _) | (with_reducible refine Below.drew ?_) | (with_reducible refine Below.alloc ?_ (by first | exact Nat.le_refl _ | (simp; done) | (simp; omega) | omega) _) | (with_reducible refine Below.setCell ?_ (by first | exact Nat.le_refl _ | (simp; done) | (simp; omega) | omega) _)))
  clear hv27
  replace HTT := hide (HTT.out.below hb27)
  replace HSS := hide (HSS.out.below hb27)
  replace HX := hide (HX.out.below hb27)
  replace HT9 := hide (HT9.out.below hb27)
  replace HS9 := hide (HS9.out.below hb27)
  replace HX9 := hide (HX9.out.below hb27)
  replace HV := hide (HV.out.below hb27)
  replace HT13 := hide (HT13.out.below hb27)
  replace HS13 := hide (HS13.out.below hb27)
  replace HB := hide (HB.out.trans (hb27.mono HB.out.size))
  clear hb27
  obtain ⟨b27, eb27⟩ : ∃ z, v26.heap.size = z := ⟨_, rfl⟩
  simp only [eb27] at HX13 HX15
  try simp only [eb27]
  clear eb27
  obtain ⟨l0_0, l0_1, l0_2, l0_z⟩ := rec_cells HX.out
  go_wp2_with fail
  clear l0_0 l0_1 l0_2 l0_z
  refine (HRR.out _ HTT.out HSS.out).mono ?_
  rintro e_ v28 ⟨rfl, hb28⟩
  replace HTT := hide (HTT.out.below hb28)
  replace HSS := hide (HSS.out.below hb28)
  replace HX := hide (HX.out.below hb28)
  replace HT9 := hide (HT9.out.below hb28)
  replace HS9 := hide (HS9.out.below hb28)
  replace HX9 := hide (HX9.out.below hb28)
  replace HV := hide (HV.out.below hb28)
  replace HT13 := hide (HT13.out.below hb28)
  replace HS13 := hide (HS13.out.below hb28)
  replace HX13 := hide (HX13.out.below hb28)
  replace HX15 := hide (HX15.out.below hb28)
  replace HB := hide (HB.out.trans (hb28.mono HB.out.size))
  clear hb28
  obtain ⟨l0_0, l0_1, l0_2, l0_z⟩ := rec_cells HX.out
  go_wp2_with fail
  clear l0_0 l0_1 l0_2 l0_z
  clear HRR
  refine (NextR_any A B n c p d T S _ HOK.out hnc hmd hd9 HTT.out HSS.out).mono ?_
  rintro e_ v29 ⟨u18, x18, y18, z18, rfl, ht18, hs18, -, -, -, hb29⟩
  replace HTT := hide (HTT.out.below hb29)
  replace HSS := hide (HSS.out.below hb29)
  replace HX := hide (HX.out.below hb29)
  replace HT9 := hide (HT9.out.below hb29)
  replace HS9 := hide (HS9.out.below hb29)
  replace HX9 := hide (HX9.out.below hb29)
  replace HV := hide (HV.out.below hb29)
  replace HT13 := hide (HT13.out.below hb29)
  replace HS13 := hide (HS13.out.below hb29)
  replace HX13 := hide (HX13.out.below hb29)
  replace HX15 := hide (HX15.out.below hb29)
  replace HB := hide (HB.out.trans (hb29.mono HB.out.size))
  clear hb29
  have HT18 := hide (ht18.weak (Nat.zero_le _))
  have HS18 := hide (hs18.weak (Nat.zero_le _))
  clear ht18 hs18
  go_upto_region 16 with fail
  obtain ⟨v30, hv30⟩ : ∃ z : World, z = (v29.alloc (.cells #[.int .i64 ((p : Int) + 1), .slice u18 n x18, .slice y18 (p + 1) z18] 24)) := ⟨_, rfl⟩
  try rw [← hv30]
  have HX18 := hide (show Box v30 (v29.heap.size) 24 #[.int .i64 ((p : Int) + 1), .slice u18 n x18, .slice y18 (p + 1) z18] by rw [hv30]; exact Box.made rfl)
  have hb30 : Below v29.heap.size v29 v30 := by rw [hv30]; (repeat (first | (with_reducible exact Below.refl _ _) | (with_reducible refine Go.below_drewN ?_ _) | (with_reducible refine Below.drew ?_) | (with_reducible refine Below.alloc ?_ (by first | exact Nat.le_refl _ | (simp; done) | (simp; omega) | omega) _) | (with_reducible refine Below.setCell ?_ (by first | exact Nat.le_refl _ | (simp; done) | (simp; omega) | omega) _)))
  clear hv30
  replace HTT := hide (HTT.out.below hb30)
  replace HSS := hide (HSS.out.below hb30)
  replace HX := hide (HX.out.below hb30)
  replace HT9 := hide (HT9.out.below hb30)
  replace HS9 := hide (HS9.out.below hb30)
  replace HX9 := hide (HX9.out.below hb30)
  replace HV := hide (HV.out.below hb30)
  replace HT13 := hide (HT13.out.below hb30)
  replace HS13 := hide (HS13.out.below hb30)
  replace HX13 := hide (HX13.out.below hb30)
  replace HX15 := hide (HX15.out.below hb30)
  replace HT18 := hide (HT18.out.below hb30)
  replace HS18 := hide (HS18.out.below hb30)
  replace HB := hide (HB.out.trans (hb30.mono HB.out.size))
  clear hb30
  obtain ⟨b30, eb30⟩ : ∃ z, v29.heap.size = z := ⟨_, rfl⟩
  simp only [eb30] at HX18
  try simp only [eb30]
  clear eb30
  obtain ⟨l0_0, l0_1, l0_2, l0_z⟩ := rec_cells HX9.out
  obtain ⟨l1_0, l1_1, l1_2, l1_z⟩ := rec_cells HX18.out
  go_wp2_with fail
  clear l0_0 l0_1 l0_2 l0_z l1_0 l1_1 l1_2 l1_z
  refine (sameOk _ _ _ _ _ n x9 (p + 1) z9 x18 z18 T _ _ _ (by omega) (by omega) HT9.out HS9.out HT18.out HS18.out (fun _ _ => rfl)).mono ?_
  rintro e_ v31 ⟨rfl, hb31⟩
  replace HTT := hide (HTT.out.below hb31)
  replace HSS := hide (HSS.out.below hb31)
  replace HX := hide (HX.out.below hb31)
  replace HT9 := hide (HT9.out.below hb31)
  replace HS9 := hide (HS9.out.below hb31)
  replace HX9 := hide (HX9.out.below hb31)
  replace HV := hide (HV.out.below hb31)
  replace HT13 := hide (HT13.out.below hb31)
  replace HS13 := hide (HS13.out.below hb31)
  replace HX13 := hide (HX13.out.below hb31)
  replace HX15 := hide (HX15.out.below hb31)
  replace HT18 := hide (HT18.out.below hb31)
  replace HS18 := hide (HS18.out.below hb31)
  replace HX18 := hide (HX18.out.below hb31)
  replace HB := hide (HB.out.trans (hb31.mono HB.out.size))
  clear hb31
  go_wp2_with fail
  clear HX9 HT9 HS9 HX18 HT18 HS18
  by_cases hq : 1 ≤ q ∧ q ≤ 400
  case neg =>
    obtain ⟨rfl, rfl⟩ := HQ2.out hq
    have e6 := HW1.out
    simp only [withinB_no hq] at e6
    refine (e6 _).mono ?_
    rintro e_ v_ ⟨rfl, rfl⟩
    go_wp2_with fail
    clear e6 HQ1 HQ2
    by_cases hs0 : 0 ≤ s ∧ s ≤ 1000000000
    case neg =>
      obtain ⟨rfl, rfl, rfl, rfl⟩ := HJ2.out hs0
      have e5 := HWS.out
      simp only [withinB_no hs0] at e5
      refine (e5 _).mono ?_
      rintro e_ v_ ⟨rfl, rfl⟩
      obtain ⟨l0_0, l0_1, l0_2, l0_z⟩ := rec_cells HX13.out
      obtain ⟨l1_0, l1_1, l1_2, l1_z⟩ := rec_cells HX15.out
      go_wp2_with fail
      clear l0_0 l0_1 l0_2 l0_z l1_0 l1_1 l1_2 l1_z
      clear e5
      refine (HNO.out _ _ _ _ _ IntsAt.nil_ IntsAt.nil_).mono ?_
      rintro e_ v32 ⟨rfl, hb32⟩
      replace HTT := hide (HTT.out.below hb32)
      replace HSS := hide (HSS.out.below hb32)
      replace HX := hide (HX.out.below hb32)
      replace HV := hide (HV.out.below hb32)
      replace HT13 := hide (HT13.out.below hb32)
      replace HS13 := hide (HS13.out.below hb32)
      replace HX13 := hide (HX13.out.below hb32)
      replace HX15 := hide (HX15.out.below hb32)
      replace HB := hide (HB.out.trans (hb32.mono HB.out.size))
      clear hb32
      go_wp2_with fail
      go_ret
      exact ⟨rfl, HB.out⟩
    obtain ⟨rfl, hnn, rfl, rfl⟩ := HJ1.out hs0
    subst n13
    have e5 := HWS.out
    simp only [withinB_yes hs0] at e5
    refine (e5 _).mono ?_
    rintro e_ v_ ⟨rfl, rfl⟩
    clear e5 HJ1 HJ2
    obtain ⟨σ, rfl⟩ : ∃ z : Nat, s = (z : Int) := ⟨s.toNat, by omega⟩
    have hs13 := HS13.out
    rw [show ((σ : Int).toNat) = σ from rfl] at hs13
    replace HS13 := hide hs13
    clear hs13
    go_upto_region 25 with fail
    refine wp_region_held_drew (S := fun w' => w'.cell? ⟨b27, 0, none⟩ = some (.int .i64 ((p : Int) + 1)) ∧ w'.cell? ⟨b27, 1, none⟩ = some (.slice u13 n x13) ∧ w'.cell? ⟨b27, 2, none⟩ = some (.slice y13 (p + 1) z13) ∧ w'.cell? ⟨b1, 0, none⟩ = some (.int .i64 ((p : Int) + 1)) ∧ w'.cell? ⟨b1, 1, none⟩ = some (.slice A n c) ∧ w'.cell? ⟨b1, 2, none⟩ = some (.slice B (p + 1) d)) (by kernel_rfl) ⟨HX13.out.r3.1, HX13.out.r3.2.1, HX13.out.r3.2.2.1, HX.out.r3.1, HX.out.r3.2.1, HX.out.r3.2.2.1⟩ (fun hHeld => ?_)
    obtain ⟨w_981, hw_981⟩ : ∃ q : World, q = v31.drew := ⟨_, rfl⟩
    rw [← hw_981] at hHeld ⊢
    have hc_981 : Below v31.heap.size v31 w_981 := by rw [hw_981]; exact (Below.refl _ _).drew
    clear hw_981
    replace HTT := hide (HTT.out.below hc_981)
    replace HSS := hide (HSS.out.below hc_981)
    replace HX := hide (HX.out.below hc_981)
    replace HV := hide (HV.out.below hc_981)
    replace HT13 := hide (HT13.out.below hc_981)
    replace HS13 := hide (HS13.out.below hc_981)
    replace HX13 := hide (HX13.out.below hc_981)
    replace HX15 := hide (HX15.out.below hc_981)
    replace HB := hide (HB.out.trans (hc_981.mono HB.out.size))
    clear hc_981
    refine wpAnyH_take (i := 0) (oi := ⟨some 140, _, _, _, _, _⟩) (v := ?_) rfl (by kernel_rfl) (by kernel_rfl) (by kernel_rfl) (fun _ _ _ h => h) (Or.inl ⟨by rfl, ?_⟩) (by assumption) ?_
    rotate_left
    · (intro w' hSw; (try dsimp only at hSw); go_simp <;> (with_reducible rfl))
    try simp only [Act.put, List.setIfInBounds_toArray, List.set_cons_zero, List.set_cons_succ]
    refine wpAnyH_take (i := 1) (oi := ⟨some 141, _, _, _, _, _⟩) (v := ?_) rfl (by kernel_rfl) (by kernel_rfl) (by kernel_rfl) (fun _ _ _ h => h) (Or.inl ⟨by rfl, ?_⟩) (by assumption) ?_
    rotate_left
    · (intro w' hSw; (try dsimp only at hSw); go_simp <;> (with_reducible rfl))
    try simp only [Act.put, List.setIfInBounds_toArray, List.set_cons_zero, List.set_cons_succ]
    refine wpAnyH_take (i := 2) (oi := ⟨some 142, _, _, _, _, _⟩) (v := ?_) rfl (by kernel_rfl) (by kernel_rfl) (by kernel_rfl) (fun _ _ _ h => h) (Or.inl ⟨by rfl, ?_⟩) (by assumption) ?_
    rotate_left
    · (intro w' hSw; (try dsimp only at hSw); go_simp <;> (with_reducible rfl))
    try simp only [Act.put, List.setIfInBounds_toArray, List.set_cons_zero, List.set_cons_succ]
    refine wpAnyH_take (i := 3) (oi := ⟨some 143, _, _, _, _, _⟩) (v := ?_) rfl (by kernel_rfl) (by kernel_rfl) (by kernel_rfl) (fun _ _ _ h => h) (Or.inl ⟨by rfl, ?_⟩) (by assumption) ?_
    rotate_left
    · (intro w' hSw; (try dsimp only at hSw); go_simp <;> (with_reducible rfl))
    try simp only [Act.put, List.setIfInBounds_toArray, List.set_cons_zero, List.set_cons_succ]
    refine wpAnyH_take (i := 4) (oi := ⟨some 144, _, _, _, _, _⟩) (v := ?_) rfl (by kernel_rfl) (by kernel_rfl) (by kernel_rfl) (fun _ _ _ h => h) (Or.inl ⟨by rfl, ?_⟩) (by assumption) ?_
    rotate_left
    · (intro w' hSw; (try dsimp only at hSw); go_simp <;> (with_reducible rfl))
    try simp only [Act.put, List.setIfInBounds_toArray, List.set_cons_zero, List.set_cons_succ]
    refine wpAnyH_take (i := 5) (oi := ⟨some 145, _, _, _, _, _⟩) (v := ?_) rfl (by kernel_rfl) (by kernel_rfl) (by kernel_rfl) (fun _ _ _ h => h) (Or.inl ⟨by rfl, ?_⟩) (by assumption) ?_
    rotate_left
    · (intro w' hSw; (try dsimp only at hSw); go_simp <;> (with_reducible rfl))
    try simp only [Act.put, List.setIfInBounds_toArray, List.set_cons_zero, List.set_cons_succ]
    refine wpAnyH_ready (rs := [6]) (by kernel_rfl) (by simp) ?_
    refine AllReadyH.cons (o := ⟨some 146, _, _, _, _, _⟩) rfl (fun K' hK => ?_) AllReadyH.nil
    go_simp
    go_at_call 28
    refine (JumpedR_any A B n c p d π σ T S _ HPER.out (by omega) HOK.out hnc hmd hd9 HTT.out HSS.out).mono ?_
    rintro e_ w_982 ⟨uj, xj, yj, zj, rfl, htj, hsj, hb_982⟩
    replace HTT := hide (HTT.out.below hb_982)
    replace HSS := hide (HSS.out.below hb_982)
    replace HX := hide (HX.out.below hb_982)
    replace HV := hide (HV.out.below hb_982)
    replace HT13 := hide (HT13.out.below hb_982)
    replace HS13 := hide (HS13.out.below hb_982)
    replace HX13 := hide (HX13.out.below hb_982)
    replace HX15 := hide (HX15.out.below hb_982)
    replace HB := hide (HB.out.trans (hb_982.mono HB.out.size))
    clear hb_982
    have HTJ := hide htj
    have HSJ := hide hsj
    clear htj hsj
    go_wp2_with fail
    refine hK.out _ _ ⟨HX13.out.r3.1, HX13.out.r3.2.1, HX13.out.r3.2.2.1, HX.out.r3.1, HX.out.r3.2.1, HX.out.r3.2.2.1⟩ (fun hHeld => ?_)
    clear hK K'
    try simp only [Act.put, List.setIfInBounds_toArray, List.set_cons_zero, List.set_cons_succ]
    refine wpAnyH_ready (rs := [7]) (by kernel_rfl) (by simp) ?_
    refine AllReadyH.cons (o := ⟨some 147, _, _, _, _, _⟩) rfl (fun K' hK => ?_) AllReadyH.nil
    go_simp
    go_at_call 24
    refine (sameOk _ _ _ _ _ n x13 (p + 1) z13 xj zj T _ _ _ (by omega) (by omega) HT13.out HS13.out HTJ.out HSJ.out (fun _ _ => rfl)).mono ?_
    rintro e_ w_983 ⟨rfl, hb_983⟩
    replace HTT := hide (HTT.out.below hb_983)
    replace HSS := hide (HSS.out.below hb_983)
    replace HX := hide (HX.out.below hb_983)
    replace HV := hide (HV.out.below hb_983)
    replace HT13 := hide (HT13.out.below hb_983)
    replace HS13 := hide (HS13.out.below hb_983)
    replace HX13 := hide (HX13.out.below hb_983)
    replace HX15 := hide (HX15.out.below hb_983)
    replace HTJ := hide (HTJ.out.below hb_983)
    replace HSJ := hide (HSJ.out.below hb_983)
    replace HB := hide (HB.out.trans (hb_983.mono HB.out.size))
    clear hb_983
    go_wp2_with fail
    refine hK.out _ _ ⟨HX13.out.r3.1, HX13.out.r3.2.1, HX13.out.r3.2.2.1, HX.out.r3.1, HX.out.r3.2.1, HX.out.r3.2.2.1⟩ (fun hHeld => ?_)
    clear hK K'
    try simp only [Act.put, List.setIfInBounds_toArray, List.set_cons_zero, List.set_cons_succ]
    refine wpAnyH_take (i := 8) (oi := ⟨some 148, _, _, _, _, _⟩) (v := ?_) rfl (by kernel_rfl) (by kernel_rfl) (by kernel_rfl) (fun _ _ _ h => h) (Or.inl ⟨by rfl, ?_⟩) (by assumption) ?_
    rotate_left
    · (intro w' hSw; (try dsimp only at hSw); go_simp <;> (with_reducible rfl))
    try simp only [Act.put, List.setIfInBounds_toArray, List.set_cons_zero, List.set_cons_succ]
    refine wpAnyH_take (i := 9) (oi := ⟨some 6, _, _, _, _, _⟩) (v := ?_) rfl (by kernel_rfl) (by kernel_rfl) (by kernel_rfl) (fun _ _ _ h => h) (Or.inl ⟨by rfl, ?_⟩) (by assumption) ?_
    rotate_left
    · (intro w' hSw; (try dsimp only at hSw); go_simp <;> (with_reducible rfl))
    try simp only [Act.put, List.setIfInBounds_toArray, List.set_cons_zero, List.set_cons_succ]
    refine wpAnyH_done (by kernel_rfl) ?_ _
    clear hHeld
    go_wp2_with fail
    go_ret
    exact ⟨rfl, HB.out⟩
  obtain ⟨rfl, hlq⟩ := HQ1.out hq
  subst hlq
  have e6 := HW1.out
  simp only [withinB_yes hq] at e6
  refine (e6 _).mono ?_
  rintro e_ v_ ⟨rfl, rfl⟩
  obtain ⟨l0_0, l0_1, l0_2, l0_z⟩ := rec_cells HX.out
  go_wp2_with fail
  clear l0_0 l0_1 l0_2 l0_z
  clear e6 HQ1 HQ2
  have hl400 : l ≤ 400 := by omega
  have HRS := hide (fun W h1 h2 => SequenceR_any A B n c p d l T S W hl400 HOK.out hnc hmd hd9 h1 h2)
  refine (HRS.out _ HTT.out HSS.out).mono ?_
  rintro e_ v33 ⟨vr, rfl, hor, hb33⟩
  obtain ⟨Ar, ar, rfl, -, hir⟩ := hor.form
  replace HTT := hide (HTT.out.below hb33)
  replace HSS := hide (HSS.out.below hb33)
  replace HX := hide (HX.out.below hb33)
  replace HV := hide (HV.out.below hb33)
  replace HT13 := hide (HT13.out.below hb33)
  replace HS13 := hide (HS13.out.below hb33)
  replace HX13 := hide (HX13.out.below hb33)
  replace HX15 := hide (HX15.out.below hb33)
  replace HB := hide (HB.out.trans (hb33.mono HB.out.size))
  clear hb33
  have HIR := hide (hir.weak (Nat.zero_le _))
  clear hor hir HRS
  go_wp2_with fail
  have HIN := hide (ints_any V Ar l l kv ar _ _ _ (by omega) (by omega) HV.out HIR.out)
  rw [show intsB l (fun j => itS (p + 1) n T S j 0) l (fun j => itS (p + 1) n T S j 0) = true from intsB_iff.2 ⟨rfl, fun _ _ => rfl⟩] at HIN
  refine (HIN.out).mono ?_
  rintro e_ v34 ⟨rfl, q34, hq34⟩
  have hb34 : Below v33.heap.size v33 v34 := by rw [hq34]; exact Go.below_drewN (Below.refl _ _) _
  clear hq34 HIN
  replace HTT := hide (HTT.out.below hb34)
  replace HSS := hide (HSS.out.below hb34)
  replace HX := hide (HX.out.below hb34)
  replace HV := hide (HV.out.below hb34)
  replace HT13 := hide (HT13.out.below hb34)
  replace HS13 := hide (HS13.out.below hb34)
  replace HX13 := hide (HX13.out.below hb34)
  replace HX15 := hide (HX15.out.below hb34)
  replace HIR := hide (HIR.out.below hb34)
  replace HB := hide (HB.out.trans (hb34.mono HB.out.size))
  clear hb34
  clear HIR
  go_wp2_with fail
  by_cases hs0 : 0 ≤ s ∧ s ≤ 1000000000
  case neg =>
    obtain ⟨rfl, rfl, rfl, rfl⟩ := HJ2.out hs0
    have e5 := HWS.out
    simp only [withinB_no hs0] at e5
    refine (e5 _).mono ?_
    rintro e_ v_ ⟨rfl, rfl⟩
    obtain ⟨l0_0, l0_1, l0_2, l0_z⟩ := rec_cells HX13.out
    obtain ⟨l1_0, l1_1, l1_2, l1_z⟩ := rec_cells HX15.out
    go_wp2_with fail
    clear l0_0 l0_1 l0_2 l0_z l1_0 l1_1 l1_2 l1_z
    clear e5
    refine (HNO.out _ _ _ _ _ IntsAt.nil_ IntsAt.nil_).mono ?_
    rintro e_ v35 ⟨rfl, hb35⟩
    replace HTT := hide (HTT.out.below hb35)
    replace HSS := hide (HSS.out.below hb35)
    replace HX := hide (HX.out.below hb35)
    replace HV := hide (HV.out.below hb35)
    replace HT13 := hide (HT13.out.below hb35)
    replace HS13 := hide (HS13.out.below hb35)
    replace HX13 := hide (HX13.out.below hb35)
    replace HX15 := hide (HX15.out.below hb35)
    replace HB := hide (HB.out.trans (hb35.mono HB.out.size))
    clear hb35
    go_wp2_with fail
    go_ret
    exact ⟨rfl, HB.out⟩
  obtain ⟨rfl, hnn, rfl, rfl⟩ := HJ1.out hs0
  subst n13
  have e5 := HWS.out
  simp only [withinB_yes hs0] at e5
  refine (e5 _).mono ?_
  rintro e_ v_ ⟨rfl, rfl⟩
  clear e5 HJ1 HJ2
  obtain ⟨σ, rfl⟩ : ∃ z : Nat, s = (z : Int) := ⟨s.toNat, by omega⟩
  have hs13 := HS13.out
  rw [show ((σ : Int).toNat) = σ from rfl] at hs13
  replace HS13 := hide hs13
  clear hs13
  go_upto_region 25 with fail
  refine wp_region_held_drew (S := fun w' => w'.cell? ⟨b27, 0, none⟩ = some (.int .i64 ((p : Int) + 1)) ∧ w'.cell? ⟨b27, 1, none⟩ = some (.slice u13 n x13) ∧ w'.cell? ⟨b27, 2, none⟩ = some (.slice y13 (p + 1) z13) ∧ w'.cell? ⟨b1, 0, none⟩ = some (.int .i64 ((p : Int) + 1)) ∧ w'.cell? ⟨b1, 1, none⟩ = some (.slice A n c) ∧ w'.cell? ⟨b1, 2, none⟩ = some (.slice B (p + 1) d)) (by kernel_rfl) ⟨HX13.out.r3.1, HX13.out.r3.2.1, HX13.out.r3.2.2.1, HX.out.r3.1, HX.out.r3.2.1, HX.out.r3.2.2.1⟩ (fun hHeld => ?_)
  obtain ⟨w_981, hw_981⟩ : ∃ q : World, q = v34.drew := ⟨_, rfl⟩
  rw [← hw_981] at hHeld ⊢
  have hc_981 : Below v34.heap.size v34 w_981 := by rw [hw_981]; exact (Below.refl _ _).drew
  clear hw_981
  replace HTT := hide (HTT.out.below hc_981)
  replace HSS := hide (HSS.out.below hc_981)
  replace HX := hide (HX.out.below hc_981)
  replace HV := hide (HV.out.below hc_981)
  replace HT13 := hide (HT13.out.below hc_981)
  replace HS13 := hide (HS13.out.below hc_981)
  replace HX13 := hide (HX13.out.below hc_981)
  replace HX15 := hide (HX15.out.below hc_981)
  replace HB := hide (HB.out.trans (hc_981.mono HB.out.size))
  clear hc_981
  refine wpAnyH_take (i := 0) (oi := ⟨some 140, _, _, _, _, _⟩) (v := ?_) rfl (by kernel_rfl) (by kernel_rfl) (by kernel_rfl) (fun _ _ _ h => h) (Or.inl ⟨by rfl, ?_⟩) (by assumption) ?_
  rotate_left
  · (intro w' hSw; (try dsimp only at hSw); go_simp <;> (with_reducible rfl))
  try simp only [Act.put, List.setIfInBounds_toArray, List.set_cons_zero, List.set_cons_succ]
  refine wpAnyH_take (i := 1) (oi := ⟨some 141, _, _, _, _, _⟩) (v := ?_) rfl (by kernel_rfl) (by kernel_rfl) (by kernel_rfl) (fun _ _ _ h => h) (Or.inl ⟨by rfl, ?_⟩) (by assumption) ?_
  rotate_left
  · (intro w' hSw; (try dsimp only at hSw); go_simp <;> (with_reducible rfl))
  try simp only [Act.put, List.setIfInBounds_toArray, List.set_cons_zero, List.set_cons_succ]
  refine wpAnyH_take (i := 2) (oi := ⟨some 142, _, _, _, _, _⟩) (v := ?_) rfl (by kernel_rfl) (by kernel_rfl) (by kernel_rfl) (fun _ _ _ h => h) (Or.inl ⟨by rfl, ?_⟩) (by assumption) ?_
  rotate_left
  · (intro w' hSw; (try dsimp only at hSw); go_simp <;> (with_reducible rfl))
  try simp only [Act.put, List.setIfInBounds_toArray, List.set_cons_zero, List.set_cons_succ]
  refine wpAnyH_take (i := 3) (oi := ⟨some 143, _, _, _, _, _⟩) (v := ?_) rfl (by kernel_rfl) (by kernel_rfl) (by kernel_rfl) (fun _ _ _ h => h) (Or.inl ⟨by rfl, ?_⟩) (by assumption) ?_
  rotate_left
  · (intro w' hSw; (try dsimp only at hSw); go_simp <;> (with_reducible rfl))
  try simp only [Act.put, List.setIfInBounds_toArray, List.set_cons_zero, List.set_cons_succ]
  refine wpAnyH_take (i := 4) (oi := ⟨some 144, _, _, _, _, _⟩) (v := ?_) rfl (by kernel_rfl) (by kernel_rfl) (by kernel_rfl) (fun _ _ _ h => h) (Or.inl ⟨by rfl, ?_⟩) (by assumption) ?_
  rotate_left
  · (intro w' hSw; (try dsimp only at hSw); go_simp <;> (with_reducible rfl))
  try simp only [Act.put, List.setIfInBounds_toArray, List.set_cons_zero, List.set_cons_succ]
  refine wpAnyH_take (i := 5) (oi := ⟨some 145, _, _, _, _, _⟩) (v := ?_) rfl (by kernel_rfl) (by kernel_rfl) (by kernel_rfl) (fun _ _ _ h => h) (Or.inl ⟨by rfl, ?_⟩) (by assumption) ?_
  rotate_left
  · (intro w' hSw; (try dsimp only at hSw); go_simp <;> (with_reducible rfl))
  try simp only [Act.put, List.setIfInBounds_toArray, List.set_cons_zero, List.set_cons_succ]
  refine wpAnyH_ready (rs := [6]) (by kernel_rfl) (by simp) ?_
  refine AllReadyH.cons (o := ⟨some 146, _, _, _, _, _⟩) rfl (fun K' hK => ?_) AllReadyH.nil
  go_simp
  go_at_call 28
  refine (JumpedR_any A B n c p d π σ T S _ HPER.out (by omega) HOK.out hnc hmd hd9 HTT.out HSS.out).mono ?_
  rintro e_ w_982 ⟨uj, xj, yj, zj, rfl, htj, hsj, hb_982⟩
  replace HTT := hide (HTT.out.below hb_982)
  replace HSS := hide (HSS.out.below hb_982)
  replace HX := hide (HX.out.below hb_982)
  replace HV := hide (HV.out.below hb_982)
  replace HT13 := hide (HT13.out.below hb_982)
  replace HS13 := hide (HS13.out.below hb_982)
  replace HX13 := hide (HX13.out.below hb_982)
  replace HX15 := hide (HX15.out.below hb_982)
  replace HB := hide (HB.out.trans (hb_982.mono HB.out.size))
  clear hb_982
  have HTJ := hide htj
  have HSJ := hide hsj
  clear htj hsj
  go_wp2_with fail
  refine hK.out _ _ ⟨HX13.out.r3.1, HX13.out.r3.2.1, HX13.out.r3.2.2.1, HX.out.r3.1, HX.out.r3.2.1, HX.out.r3.2.2.1⟩ (fun hHeld => ?_)
  clear hK K'
  try simp only [Act.put, List.setIfInBounds_toArray, List.set_cons_zero, List.set_cons_succ]
  refine wpAnyH_ready (rs := [7]) (by kernel_rfl) (by simp) ?_
  refine AllReadyH.cons (o := ⟨some 147, _, _, _, _, _⟩) rfl (fun K' hK => ?_) AllReadyH.nil
  go_simp
  go_at_call 24
  refine (sameOk _ _ _ _ _ n x13 (p + 1) z13 xj zj T _ _ _ (by omega) (by omega) HT13.out HS13.out HTJ.out HSJ.out (fun _ _ => rfl)).mono ?_
  rintro e_ w_983 ⟨rfl, hb_983⟩
  replace HTT := hide (HTT.out.below hb_983)
  replace HSS := hide (HSS.out.below hb_983)
  replace HX := hide (HX.out.below hb_983)
  replace HV := hide (HV.out.below hb_983)
  replace HT13 := hide (HT13.out.below hb_983)
  replace HS13 := hide (HS13.out.below hb_983)
  replace HX13 := hide (HX13.out.below hb_983)
  replace HX15 := hide (HX15.out.below hb_983)
  replace HTJ := hide (HTJ.out.below hb_983)
  replace HSJ := hide (HSJ.out.below hb_983)
  replace HB := hide (HB.out.trans (hb_983.mono HB.out.size))
  clear hb_983
  go_wp2_with fail
  refine hK.out _ _ ⟨HX13.out.r3.1, HX13.out.r3.2.1, HX13.out.r3.2.2.1, HX.out.r3.1, HX.out.r3.2.1, HX.out.r3.2.2.1⟩ (fun hHeld => ?_)
  clear hK K'
  try simp only [Act.put, List.setIfInBounds_toArray, List.set_cons_zero, List.set_cons_succ]
  refine wpAnyH_take (i := 8) (oi := ⟨some 148, _, _, _, _, _⟩) (v := ?_) rfl (by kernel_rfl) (by kernel_rfl) (by kernel_rfl) (fun _ _ _ h => h) (Or.inl ⟨by rfl, ?_⟩) (by assumption) ?_
  rotate_left
  · (intro w' hSw; (try dsimp only at hSw); go_simp <;> (with_reducible rfl))
  try simp only [Act.put, List.setIfInBounds_toArray, List.set_cons_zero, List.set_cons_succ]
  refine wpAnyH_take (i := 9) (oi := ⟨some 6, _, _, _, _, _⟩) (v := ?_) rfl (by kernel_rfl) (by kernel_rfl) (by kernel_rfl) (fun _ _ _ h => h) (Or.inl ⟨by rfl, ?_⟩) (by assumption) ?_
  rotate_left
  · (intro w' hSw; (try dsimp only at hSw); go_simp <;> (with_reducible rfl))
  try simp only [Act.put, List.setIfInBounds_toArray, List.set_cons_zero, List.set_cons_succ]
  refine wpAnyH_done (by kernel_rfl) ?_ _
  clear hHeld
  go_wp2_with fail
  go_ret
  exact ⟨rfl, HB.out⟩
end Go.Proofs.Ytonmkmaeohfjpaa
