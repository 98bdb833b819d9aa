/- Lemmas: S50. -/
import Derived.Test.YtonmkmaeohfjpaaBk02
import Derived.Test.YtonmkmaeohfjpaaBk21
set_option linter.unusedVariables false
set_option linter.unusedSimpArgs false
/- The walk of SymbolPeriods. -/
namespace Go.Proofs.Ytonmkmaeohfjpaa
open Go Go.RowKit Go.Lib Ieee
set_option maxHeartbeats 32000000 in
set_option maxRecDepth 100000 in
theorem symbolPeriods_walk (L a b : Int) (A B : Option Addr) (n c m d : Nat) (T S : Nat → Int) (w : World) (hn : n ≤ 9223372036854775807) (hm : m ≤ 9223372036854775807) (hT : IntsAt w 0 A n T) (hS : IntsAt w 0 B m S) :
    Calls Try.prog 4 #[.agg #[.int .i64 L, .slice A n c, .slice B m d], .int .i64 a, .int .i64 b] w fun e w' => e = .returned (.bool true) ∧ Below w.heap.size w w' := by
  have HB := hide (Below.refl w.heap.size w)
  have HTT := hide hT
  have HSS := hide hS
  clear hT hS
  have HSH := hide (fun W => short_any L A B n c m d W)
  have HWA := hide (fun W => within_any a 0 500000000 W)
  have HWB := hide (fun W => within_any b 0 500000000 W)
  go_enter Try.func4, Try.ntmps4
  go_upto_region 1 with fail
  obtain ⟨v1, hv1⟩ : ∃ z : World, z = (w.alloc (.cells #[.int .i64 L, .slice A n c, .slice B m d] 24)) := ⟨_, rfl⟩
  try rw [← hv1]
  have HX := hide (show Box v1 (w.heap.size) 24 #[.int .i64 L, .slice A n c, .slice B m d] by rw [hv1]; exact Box.made rfl)
  have hb1 : Below w.heap.size w v1 := by rw [hv1]; (repeat (first | (with_reducible exact Below.refl _ _) | (with_reducible refine Go.below_drewN ?_ _) | (with_reducible refine Below.drew ?_) | (with_reducible refine Below.alloc ?_ (by first | exact Nat.le_refl _ | (simp; done) | (simp; omega) | omega) _) | (with_reducible refine Below.setCell ?_ (by first | exact Nat.le_refl _ | (simp; done) | (simp; omega) | omega) _)))
  clear hv1
  replace HTT := hide (HTT.out.below hb1)
  replace HSS := hide (HSS.out.below hb1)
  replace HB := hide (HB.out.trans (hb1.mono HB.out.size))
  clear hb1
  obtain ⟨b1, eb1⟩ : ∃ z, w.heap.size = z := ⟨_, rfl⟩
  simp only [eb1] at HX
  try simp only [eb1]
  clear eb1
  go_wp2_with fail
  refine (awakeS_any _).mono ?_
  rintro e_ v2 ⟨rfl, hb2⟩
  replace HTT := hide (HTT.out.below hb2)
  replace HSS := hide (HSS.out.below hb2)
  replace HX := hide (HX.out.below hb2)
  replace HB := hide (HB.out.trans (hb2.mono HB.out.size))
  clear hb2
  obtain ⟨l0_0, l0_1, l0_2, l0_z⟩ := rec_cells HX.out
  go_wp2_with fail
  clear l0_0 l0_1 l0_2 l0_z
  by_cases h12 : n ≤ 12 ∧ m ≤ 12
  case neg =>
    have hs : (decide ((n : Int) ≤ 12) && decide ((m : Int) ≤ 12)) = false := by simp; omega
    rw [hs] at HSH
    clear hs
    refine (HSH.out _).mono ?_
    rintro e_ v3 ⟨rfl, hb3⟩
    replace HTT := hide (HTT.out.below hb3)
    replace HSS := hide (HSS.out.below hb3)
    replace HX := hide (HX.out.below hb3)
    replace HB := hide (HB.out.trans (hb3.mono HB.out.size))
    clear hb3
    go_wp2_with fail
    go_ret
    exact ⟨rfl, HB.out⟩
  have hs : (decide ((n : Int) ≤ 12) && decide ((m : Int) ≤ 12)) = true := by simp; omega
  rw [hs] at HSH
  clear hs
  refine (HSH.out _).mono ?_
  rintro e_ v4 ⟨rfl, hb4⟩
  replace HTT := hide (HTT.out.below hb4)
  replace HSS := hide (HSS.out.below hb4)
  replace HX := hide (HX.out.below hb4)
  replace HB := hide (HB.out.trans (hb4.mono HB.out.size))
  clear hb4
  obtain ⟨l0_0, l0_1, l0_2, l0_z⟩ := rec_cells HX.out
  go_wp2_with fail
  clear l0_0 l0_1 l0_2 l0_z
  have HCR := hide (fun W (h1 : IntsAt W 0 A n T) (h2 : IntsAt W 0 B m S) => CheckRegisterR_any L A B n c m d T S W (by omega) (by omega) h1 h2)
  obtain ⟨r, hr⟩ : ∃ z, regE L n T m S = z := ⟨_, rfl⟩
  rw [hr] at HCR
  by_cases hr0 : r = 0
  case neg =>
    have tr : (r != 0) = true := by simpa using hr0
    refine (HCR.out _ HTT.out HSS.out).mono ?_
    rintro e_ v5 ⟨rfl, hb5⟩
    replace HTT := hide (HTT.out.below hb5)
    replace HSS := hide (HSS.out.below hb5)
    replace HX := hide (HX.out.below hb5)
    replace HB := hide (HB.out.trans (hb5.mono HB.out.size))
    clear hb5
    go_wp2_with fail
    go_ret
    exact ⟨rfl, HB.out⟩
  subst hr0
  refine (HCR.out _ HTT.out HSS.out).mono ?_
  rintro e_ v6 ⟨rfl, hb6⟩
  replace HTT := hide (HTT.out.below hb6)
  replace HSS := hide (HSS.out.below hb6)
  replace HX := hide (HX.out.below hb6)
  replace HB := hide (HB.out.trans (hb6.mono HB.out.size))
  clear hb6
  go_wp2_with fail
  by_cases hwa : 0 ≤ a ∧ a ≤ 500000000
  case neg =>
    have ea := HWA.out
    simp only [withinB_no hwa] at ea
    refine (ea _).mono ?_
    rintro e_ v_ ⟨rfl, rfl⟩
    go_wp2_with fail
    go_ret
    exact ⟨rfl, HB.out⟩
  have ea := HWA.out
  simp only [withinB_yes hwa] at ea
  refine (ea _).mono ?_
  rintro e_ v_ ⟨rfl, rfl⟩
  go_wp2_with fail
  clear ea HWA
  by_cases hwb : 0 ≤ b ∧ b ≤ 500000000
  case neg =>
    have eb := HWB.out
    simp only [withinB_no hwb] at eb
    refine (eb _).mono ?_
    rintro e_ v_ ⟨rfl, rfl⟩
    go_wp2_with fail
    go_ret
    exact ⟨rfl, HB.out⟩
  have eb := HWB.out
  simp only [withinB_yes hwb] at eb
  refine (eb _).mono ?_
  rintro e_ v_ ⟨rfl, rfl⟩
  obtain ⟨l0_0, l0_1, l0_2, l0_z⟩ := rec_cells HX.out
  go_wp2_with fail
  clear l0_0 l0_1 l0_2 l0_z
  clear eb HWB
  obtain ⟨q, rfl, rfl, hok⟩ := regE_ok hr
  have HZ := hide hr
  have HOK := hide hok
  have hq9 := hok.most
  have hn10 := hok.count
  have hn1 := hok.some_
  obtain ⟨α, rfl⟩ : ∃ z : Nat, a = (z : Int) := ⟨a.toNat, by omega⟩
  obtain ⟨β, rfl⟩ : ∃ z : Nat, b = (z : Int) := ⟨b.toNat, by omega⟩
  clear hr hok HCR HSH
  have HCO := hide (fun W (h1 : IntsAt W 0 A n T) (h2 : IntsAt W 0 B (q + 1) S) => copyOk ((q : Int) + 1) A B n c (q + 1) d T S W (by omega) (by omega) hn1 (by omega) h1 h2)
  refine (HCO.out _ HTT.out HSS.out).mono ?_
  rintro e_ v7 ⟨g1, f1, h1, k1, rfl, ht1, hs1, hb7⟩
  replace HTT := hide (HTT.out.below hb7)
  replace HSS := hide (HSS.out.below hb7)
  replace HX := hide (HX.out.below hb7)
  replace HB := hide (HB.out.trans (hb7.mono HB.out.size))
  clear hb7
  have HCT1 := hide ht1
  clear ht1
  have HCS1 := hide hs1
  clear hs1
  go_wp2_with fail
  refine (perOk _ _ n f1 q k1 T S _ (by omega) (by omega) HZ.out HCT1.out HCS1.out).mono ?_
  rintro e_ v8 ⟨p, rfl, hper, hb8⟩
  replace HTT := hide (HTT.out.below hb8)
  replace HSS := hide (HSS.out.below hb8)
  replace HX := hide (HX.out.below hb8)
  replace HCT1 := hide (HCT1.out.below hb8)
  replace HCS1 := hide (HCS1.out.below hb8)
  replace HB := hide (HB.out.trans (hb8.mono HB.out.size))
  clear hb8
  go_wp2_with fail
  clear HCT1 HCS1
  have HPER := hide hper
  have hp1 := hper.pos
  have hp9 := hper.most
  clear hper
  have hwp := fun W => within_any (p : Int) 1 1024 W
  simp only [withinB_yes (show 1 ≤ (p : Int) ∧ (p : Int) ≤ 1024 by omega)] at hwp
  refine (hwp _).mono ?_
  rintro e_ v_ ⟨rfl, rfl⟩
  obtain ⟨l0_0, l0_1, l0_2, l0_z⟩ := rec_cells HX.out
  go_wp2_with fail
  clear l0_0 l0_1 l0_2 l0_z
  clear hwp
  refine (HCO.out _ HTT.out HSS.out).mono ?_
  rintro e_ v9 ⟨g2, f2, h2, k2, rfl, ht2, hs2, hb9⟩
  replace HTT := hide (HTT.out.below hb9)
  replace HSS := hide (HSS.out.below hb9)
  replace HX := hide (HX.out.below hb9)
  replace HB := hide (HB.out.trans (hb9.mono HB.out.size))
  clear hb9
  have HCT2 := hide ht2
  clear ht2
  have HCS2 := hide hs2
  clear hs2
  go_wp2_with fail
  refine (jumpOk g2 n f2 h2 q k2 p p (p % p) T S _ HZ.out HOK.out HPER.out (by omega) (rfl) HCT2.out HCS2.out).mono ?_
  rintro e_ v10 ⟨u9, x9, y9, z9, rfl, ht9, hs9, hb10⟩
  replace HTT := hide (HTT.out.below hb10)
  replace HSS := hide (HSS.out.below hb10)
  replace HX := hide (HX.out.below hb10)
  replace HCT2 := hide (HCT2.out.below hb10)
  replace HCS2 := hide (HCS2.out.below hb10)
  replace HB := hide (HB.out.trans (hb10.mono HB.out.size))
  clear hb10
  have HT9 := hide ht9
  clear ht9
  have HS9 := hide hs9
  clear hs9
  clear HCT2 HCS2
  go_upto_region 9 with fail
  obtain ⟨v11, hv11⟩ : ∃ z : World, z = (v10.alloc (.cells #[.int .i64 ((q : Int) + 1), .slice (some ⟨u9, 0, none⟩) n x9, .slice (some ⟨y9, 0, none⟩) (q + 1) z9] 24)) := ⟨_, rfl⟩
  try rw [← hv11]
  have HX9 := hide (show Box v11 (v10.heap.size) 24 #[.int .i64 ((q : Int) + 1), .slice (some ⟨u9, 0, none⟩) n x9, .slice (some ⟨y9, 0, none⟩) (q + 1) z9] by rw [hv11]; exact Box.made rfl)
  have hb11 : Below v10.heap.size v10 v11 := by rw [hv11]; (repeat (first | (with_reducible exact Below.refl _ _) | (with_reducible refine Go.below_drewN ?_ _) | (with_reducible refine Below.drew ?_) | (with_reducible refine Below.alloc ?_ (by first | exact Nat.le_refl _ | (simp; done) | (simp; omega) | omega) _) | (with_reducible refine Below.setCell ?_ (by first | exact Nat.le_refl _ | (simp; done) | (simp; omega) | omega) _)))
  clear hv11
  replace HTT := hide (HTT.out.below hb11)
  replace HSS := hide (HSS.out.below hb11)
  replace HX := hide (HX.out.below hb11)
  replace HT9 := hide (HT9.out.below hb11)
  replace HS9 := hide (HS9.out.below hb11)
  replace HB := hide (HB.out.trans (hb11.mono HB.out.size))
  clear hb11
  obtain ⟨b11, eb11⟩ : ∃ z, v10.heap.size = z := ⟨_, rfl⟩
  simp only [eb11] at HX9
  try simp only [eb11]
  clear eb11
  obtain ⟨l0_0, l0_1, l0_2, l0_z⟩ := rec_cells HX.out
  go_wp2_with fail
  clear l0_0 l0_1 l0_2 l0_z
  refine (HCO.out _ HTT.out HSS.out).mono ?_
  rintro e_ v12 ⟨g3, f3, h3, k3, rfl, ht3, hs3, hb12⟩
  replace HTT := hide (HTT.out.below hb12)
  replace HSS := hide (HSS.out.below hb12)
  replace HX := hide (HX.out.below hb12)
  replace HT9 := hide (HT9.out.below hb12)
  replace HS9 := hide (HS9.out.below hb12)
  replace HX9 := hide (HX9.out.below hb12)
  replace HB := hide (HB.out.trans (hb12.mono HB.out.size))
  clear hb12
  have HCT3 := hide ht3
  clear ht3
  have HCS3 := hide hs3
  clear hs3
  go_wp2_with fail
  have hma := fun W => mod_any (α : Int) (p : Int) W (by omega) (by omega)
  obtain ⟨γ, hγ⟩ : ∃ γ : Nat, γ = α % p := ⟨_, rfl⟩
  have hγz : (α : Int) % (p : Int) = (γ : Int) := by rw [hγ]; omega
  simp only [hγz] at hma
  have hγp : γ < p := by rw [hγ]; exact Nat.mod_lt _ hp1
  have HGA := hide hγ
  clear hγ hγz
  have HMA := hide hma
  refine (hma _).mono ?_
  rintro e_ v_ ⟨rfl, rfl⟩
  go_wp2_with fail
  clear hma
  refine (jumpOk g3 n f3 h3 q k3 p γ γ T S _ HZ.out HOK.out HPER.out (by omega) ((Nat.mod_eq_of_lt hγp).symm) HCT3.out HCS3.out).mono ?_
  rintro e_ v13 ⟨u11, x11, y11, z11, rfl, ht11, hs11, hb13⟩
  replace HTT := hide (HTT.out.below hb13)
  replace HSS := hide (HSS.out.below hb13)
  replace HX := hide (HX.out.below hb13)
  replace HT9 := hide (HT9.out.below hb13)
  replace HS9 := hide (HS9.out.below hb13)
  replace HX9 := hide (HX9.out.below hb13)
  replace HCT3 := hide (HCT3.out.below hb13)
  replace HCS3 := hide (HCS3.out.below hb13)
  replace HB := hide (HB.out.trans (hb13.mono HB.out.size))
  clear hb13
  have HT11 := hide ht11
  clear ht11
  have HS11 := hide hs11
  clear hs11
  clear HCT3 HCS3
  go_upto_region 10 with fail
  obtain ⟨v14, hv14⟩ : ∃ z : World, z = (v13.alloc (.cells #[.int .i64 ((q : Int) + 1), .slice (some ⟨u11, 0, none⟩) n x11, .slice (some ⟨y11, 0, none⟩) (q + 1) z11] 24)) := ⟨_, rfl⟩
  try rw [← hv14]
  have HX11 := hide (show Box v14 (v13.heap.size) 24 #[.int .i64 ((q : Int) + 1), .slice (some ⟨u11, 0, none⟩) n x11, .slice (some ⟨y11, 0, none⟩) (q + 1) z11] by rw [hv14]; exact Box.made rfl)
  have hb14 : Below v13.heap.size v13 v14 := by rw [hv14]; (repeat (first | (with_reducible exact Below.refl _ _) | (with_reducible refine Go.below_drewN ?_ _) | (with_reducible refine Below.drew ?_) | (with_reducible refine Below.alloc ?_ (by first | exact Nat.le_refl _ | (simp; done) | (simp; omega) | omega) _) | (with_reducible refine Below.setCell ?_ (by first | exact Nat.le_refl _ | (simp; done) | (simp; omega) | omega) _)))
  clear hv14
  replace HTT := hide (HTT.out.below hb14)
  replace HSS := hide (HSS.out.below hb14)
  replace HX := hide (HX.out.below hb14)
  replace HT9 := hide (HT9.out.below hb14)
  replace HS9 := hide (HS9.out.below hb14)
  replace HX9 := hide (HX9.out.below hb14)
  replace HT11 := hide (HT11.out.below hb14)
  replace HS11 := hide (HS11.out.below hb14)
  replace HB := hide (HB.out.trans (hb14.mono HB.out.size))
  clear hb14
  obtain ⟨b14, eb14⟩ : ∃ z, v13.heap.size = z := ⟨_, rfl⟩
  simp only [eb14] at HX11
  try simp only [eb14]
  clear eb14
  obtain ⟨l0_0, l0_1, l0_2, l0_z⟩ := rec_cells HX.out
  go_wp2_with fail
  clear l0_0 l0_1 l0_2 l0_z
  refine (HCO.out _ HTT.out HSS.out).mono ?_
  rintro e_ v15 ⟨g4, f4, h4, k4, rfl, ht4, hs4, hb15⟩
  replace HTT := hide (HTT.out.below hb15)
  replace HSS := hide (HSS.out.below hb15)
  replace HX := hide (HX.out.below hb15)
  replace HT9 := hide (HT9.out.below hb15)
  replace HS9 := hide (HS9.out.below hb15)
  replace HX9 := hide (HX9.out.below hb15)
  replace HT11 := hide (HT11.out.below hb15)
  replace HS11 := hide (HS11.out.below hb15)
  replace HX11 := hide (HX11.out.below hb15)
  replace HB := hide (HB.out.trans (hb15.mono HB.out.size))
  clear hb15
  have HCT4 := hide ht4
  clear ht4
  have HCS4 := hide hs4
  clear hs4
  go_wp2_with fail
  refine (nextOk g4 n f4 h4 q k4 T S _ HZ.out HOK.out HCT4.out HCS4.out).mono ?_
  rintro e_ v16 ⟨u14, x14, y14, z14, rfl, ht14, hs14, hb16⟩
  replace HTT := hide (HTT.out.below hb16)
  replace HSS := hide (HSS.out.below hb16)
  replace HX := hide (HX.out.below hb16)
  replace HT9 := hide (HT9.out.below hb16)
  replace HS9 := hide (HS9.out.below hb16)
  replace HX9 := hide (HX9.out.below hb16)
  replace HT11 := hide (HT11.out.below hb16)
  replace HS11 := hide (HS11.out.below hb16)
  replace HX11 := hide (HX11.out.below hb16)
  replace HCT4 := hide (HCT4.out.below hb16)
  replace HCS4 := hide (HCS4.out.below hb16)
  replace HB := hide (HB.out.trans (hb16.mono HB.out.size))
  clear hb16
  have HT14 := hide ht14
  clear ht14
  have HS14 := hide hs14
  clear hs14
  clear HCT4 HCS4
  go_upto_region 11 with fail
  obtain ⟨v17, hv17⟩ : ∃ z : World, z = (v16.alloc (.cells #[.int .i64 ((q : Int) + 1), .slice (some ⟨u14, 0, none⟩) n x14, .slice (some ⟨y14, 0, none⟩) (q + 1) z14] 24)) := ⟨_, rfl⟩
  try rw [← hv17]
  have HX14 := hide (show Box v17 (v16.heap.size) 24 #[.int .i64 ((q : Int) + 1), .slice (some ⟨u14, 0, none⟩) n x14, .slice (some ⟨y14, 0, none⟩) (q + 1) z14] by rw [hv17]; exact Box.made rfl)
  have hb17 : Below v16.heap.size v16 v17 := by rw [hv17]; (repeat (first | (with_reducible exact Below.refl _ _) | (with_reducible refine Go.below_drewN ?_ _) | (with_reducible refine Below.drew ?_) | (with_reducible refine Below.alloc ?_ (by first | exact Nat.le_refl _ | (simp; done) | (simp; omega) | omega) _) | (with_reducible refine Below.setCell ?_ (by first | exact Nat.le_refl _ | (simp; done) | (simp; omega) | omega) _)))
  clear hv17
  replace HTT := hide (HTT.out.below hb17)
  replace HSS := hide (HSS.out.below hb17)
  replace HX := hide (HX.out.below hb17)
  replace HT9 := hide (HT9.out.below hb17)
  replace HS9 := hide (HS9.out.below hb17)
  replace HX9 := hide (HX9.out.below hb17)
  replace HT11 := hide (HT11.out.below hb17)
  replace HS11 := hide (HS11.out.below hb17)
  replace HX11 := hide (HX11.out.below hb17)
  replace HT14 := hide (HT14.out.below hb17)
  replace HS14 := hide (HS14.out.below hb17)
  replace HB := hide (HB.out.trans (hb17.mono HB.out.size))
  clear hb17
  obtain ⟨b17, eb17⟩ : ∃ z, v16.heap.size = z := ⟨_, rfl⟩
  simp only [eb17] at HX14
  try simp only [eb17]
  clear eb17
  obtain ⟨l0_0, l0_1, l0_2, l0_z⟩ := rec_cells HX.out
  go_wp2_with fail
  clear l0_0 l0_1 l0_2 l0_z
  refine (HCO.out _ HTT.out HSS.out).mono ?_
  rintro e_ v18 ⟨g5, f5, h5, k5, rfl, ht5, hs5, hb18⟩
  replace HTT := hide (HTT.out.below hb18)
  replace HSS := hide (HSS.out.below hb18)
  replace HX := hide (HX.out.below hb18)
  replace HT9 := hide (HT9.out.below hb18)
  replace HS9 := hide (HS9.out.below hb18)
  replace HX9 := hide (HX9.out.below hb18)
  replace HT11 := hide (HT11.out.below hb18)
  replace HS11 := hide (HS11.out.below hb18)
  replace HX11 := hide (HX11.out.below hb18)
  replace HT14 := hide (HT14.out.below hb18)
  replace HS14 := hide (HS14.out.below hb18)
  replace HX14 := hide (HX14.out.below hb18)
  replace HB := hide (HB.out.trans (hb18.mono HB.out.size))
  clear hb18
  have HCT5 := hide ht5
  clear ht5
  have HCS5 := hide hs5
  clear hs5
  go_wp2_with fail
  skip
  have HJ1 := hide (fun W h1 h2 => jumpOk g5 n f5 h5 q k5 p 1 (1 % p) T S W HZ.out HOK.out HPER.out (by decide) rfl h1 h2)
  rw [show ((1 : Nat) : Int) = 1 from rfl] at HJ1
  refine (HJ1.out _ HCT5.out HCS5.out).mono ?_
  rintro e_ v19 ⟨u16, x16, y16, z16, rfl, ht16, hs16, hb19⟩
  replace HTT := hide (HTT.out.below hb19)
  replace HSS := hide (HSS.out.below hb19)
  replace HX := hide (HX.out.below hb19)
  replace HT9 := hide (HT9.out.below hb19)
  replace HS9 := hide (HS9.out.below hb19)
  replace HX9 := hide (HX9.out.below hb19)
  replace HT11 := hide (HT11.out.below hb19)
  replace HS11 := hide (HS11.out.below hb19)
  replace HX11 := hide (HX11.out.below hb19)
  replace HT14 := hide (HT14.out.below hb19)
  replace HS14 := hide (HS14.out.below hb19)
  replace HX14 := hide (HX14.out.below hb19)
  replace HCT5 := hide (HCT5.out.below hb19)
  replace HCS5 := hide (HCS5.out.below hb19)
  replace HB := hide (HB.out.trans (hb19.mono HB.out.size))
  clear hb19
  have HT16 := hide ht16
  clear ht16
  have HS16 := hide hs16
  clear hs16
  clear HCT5 HCS5
  clear HJ1
  go_upto_region 12 with fail
  obtain ⟨v20, hv20⟩ : ∃ z : World, z = (v19.alloc (.cells #[.int .i64 ((q : Int) + 1), .slice (some ⟨u16, 0, none⟩) n x16, .slice (some ⟨y16, 0, none⟩) (q + 1) z16] 24)) := ⟨_, rfl⟩
  try rw [← hv20]
  have HX16 := hide (show Box v20 (v19.heap.size) 24 #[.int .i64 ((q : Int) + 1), .slice (some ⟨u16, 0, none⟩) n x16, .slice (some ⟨y16, 0, none⟩) (q + 1) z16] by rw [hv20]; exact Box.made rfl)
  have hb20 : Below v19.heap.size v19 v20 := by rw [hv20]; (repeat (first | (with_reducible exact Below.refl _ _) | (with_reducible refine Go.below_drewN ?_ _) | (with_reducible refine Below.drew ?_) | (with_reducible refine Below.alloc ?_ (by first | exact Nat.le_refl _ | (simp; done) | (simp; omega) | omega) _) | (with_reducible refine Below.setCell ?_ (by first | exact Nat.le_refl _ | (simp; done) | (simp; omega) | omega) _)))
  clear hv20
  replace HTT := hide (HTT.out.below hb20)
  replace HSS := hide (HSS.out.below hb20)
  replace HX := hide (HX.out.below hb20)
  replace HT9 := hide (HT9.out.below hb20)
  replace HS9 := hide (HS9.out.below hb20)
  replace HX9 := hide (HX9.out.below hb20)
  replace HT11 := hide (HT11.out.below hb20)
  replace HS11 := hide (HS11.out.below hb20)
  replace HX11 := hide (HX11.out.below hb20)
  replace HT14 := hide (HT14.out.below hb20)
  replace HS14 := hide (HS14.out.below hb20)
  replace HX14 := hide (HX14.out.below hb20)
  replace HT16 := hide (HT16.out.below hb20)
  replace HS16 := hide (HS16.out.below hb20)
  replace HB := hide (HB.out.trans (hb20.mono HB.out.size))
  clear hb20
  obtain ⟨b20, eb20⟩ : ∃ z, v19.heap.size = z := ⟨_, rfl⟩
  simp only [eb20] at HX16
  try simp only [eb20]
  clear eb20
  obtain ⟨l0_0, l0_1, l0_2, l0_z⟩ := rec_cells HX9.out
  obtain ⟨l1_0, l1_1, l1_2, l1_z⟩ := rec_cells HX.out
  go_wp2_with fail
  clear l0_0 l0_1 l0_2 l0_z l1_0 l1_1 l1_2 l1_z
  have hback : ∀ j, j < q + 1 → itS (q + 1) n T S (p % p) j = S j := fun j _ => by rw [Nat.mod_self]; rfl
  refine (sameOk _ _ _ A B n x9 (q + 1) z9 c d T _ S _ (by omega) (by omega) HT9.out HS9.out HTT.out HSS.out hback).mono ?_
  rintro e_ v21 ⟨rfl, hb21⟩
  replace HTT := hide (HTT.out.below hb21)
  replace HSS := hide (HSS.out.below hb21)
  replace HX := hide (HX.out.below hb21)
  replace HT9 := hide (HT9.out.below hb21)
  replace HS9 := hide (HS9.out.below hb21)
  replace HX9 := hide (HX9.out.below hb21)
  replace HT11 := hide (HT11.out.below hb21)
  replace HS11 := hide (HS11.out.below hb21)
  replace HX11 := hide (HX11.out.below hb21)
  replace HT14 := hide (HT14.out.below hb21)
  replace HS14 := hide (HS14.out.below hb21)
  replace HX14 := hide (HX14.out.below hb21)
  replace HT16 := hide (HT16.out.below hb21)
  replace HS16 := hide (HS16.out.below hb21)
  replace HX16 := hide (HX16.out.below hb21)
  replace HB := hide (HB.out.trans (hb21.mono HB.out.size))
  clear hb21
  obtain ⟨l0_0, l0_1, l0_2, l0_z⟩ := rec_cells HX14.out
  obtain ⟨l1_0, l1_1, l1_2, l1_z⟩ := rec_cells HX16.out
  go_wp2_with fail
  clear l0_0 l0_1 l0_2 l0_z l1_0 l1_1 l1_2 l1_z
  have hone : ∀ j, j < q + 1 → nextS (q + 1) n T S j = itS (q + 1) n T S (1 % p) j := fun j hj => by
    rw [← itS_mod HOK.out HPER.out 1 j hj]
    rfl
  refine (sameOk _ _ _ _ _ n x14 (q + 1) z14 x16 z16 T _ _ _ (by omega) (by omega) HT14.out HS14.out HT16.out HS16.out hone).mono ?_
  rintro e_ v22 ⟨rfl, hb22⟩
  replace HTT := hide (HTT.out.below hb22)
  replace HSS := hide (HSS.out.below hb22)
  replace HX := hide (HX.out.below hb22)
  replace HT9 := hide (HT9.out.below hb22)
  replace HS9 := hide (HS9.out.below hb22)
  replace HX9 := hide (HX9.out.below hb22)
  replace HT11 := hide (HT11.out.below hb22)
  replace HS11 := hide (HS11.out.below hb22)
  replace HX11 := hide (HX11.out.below hb22)
  replace HT14 := hide (HT14.out.below hb22)
  replace HS14 := hide (HS14.out.below hb22)
  replace HX14 := hide (HX14.out.below hb22)
  replace HT16 := hide (HT16.out.below hb22)
  replace HS16 := hide (HS16.out.below hb22)
  replace HX16 := hide (HX16.out.below hb22)
  replace HB := hide (HB.out.trans (hb22.mono HB.out.size))
  clear hb22
  go_wp2_with fail
  clear hback hone
  clear HX9 HT9 HS9 HX14 HT14 HS14 HX16 HT16 HS16
  by_cases hg0 : γ = 0
  case pos =>
    have hma := HMA.out
    have tg : ((γ : Int) != 0) = false := by simp; omega
    refine (hma _).mono ?_
    rintro e_ v_ ⟨rfl, rfl⟩
    obtain ⟨l0_0, l0_1, l0_2, l0_z⟩ := rec_cells HX.out
    go_wp2_with fail
    clear l0_0 l0_1 l0_2 l0_z
    clear hma tg
    refine (HCO.out _ HTT.out HSS.out).mono ?_
    rintro e_ v23 ⟨g6, f6, h6, k6, rfl, ht6, hs6, hb23⟩
    replace HTT := hide (HTT.out.below hb23)
    replace HSS := hide (HSS.out.below hb23)
    replace HX := hide (HX.out.below hb23)
    replace HT11 := hide (HT11.out.below hb23)
    replace HS11 := hide (HS11.out.below hb23)
    replace HX11 := hide (HX11.out.below hb23)
    replace HB := hide (HB.out.trans (hb23.mono HB.out.size))
    clear hb23
    have HCT6 := hide ht6
    clear ht6
    have HCS6 := hide hs6
    clear hs6
    go_wp2_with fail
    refine (jumpOk g6 n f6 h6 q k6 p α γ T S _ HZ.out HOK.out HPER.out (by omega) (HGA.out) HCT6.out HCS6.out).mono ?_
    rintro e_ v24 ⟨u18, x18, y18, z18, rfl, ht18, hs18, hb24⟩
    replace HTT := hide (HTT.out.below hb24)
    replace HSS := hide (HSS.out.below hb24)
    replace HX := hide (HX.out.below hb24)
    replace HT11 := hide (HT11.out.below hb24)
    replace HS11 := hide (HS11.out.below hb24)
    replace HX11 := hide (HX11.out.below hb24)
    replace HCT6 := hide (HCT6.out.below hb24)
    replace HCS6 := hide (HCS6.out.below hb24)
    replace HB := hide (HB.out.trans (hb24.mono HB.out.size))
    clear hb24
    have HT18 := hide ht18
    clear ht18
    have HS18 := hide hs18
    clear hs18
    clear HCT6 HCS6
    go_upto_region 17 with fail
    obtain ⟨v25, hv25⟩ : ∃ z : World, z = (v24.alloc (.cells #[.int .i64 ((q : Int) + 1), .slice (some ⟨u18, 0, none⟩) n x18, .slice (some ⟨y18, 0, none⟩) (q + 1) z18] 24)) := ⟨_, rfl⟩
    try rw [← hv25]
    have HX18 := hide (show Box v25 (v24.heap.size) 24 #[.int .i64 ((q : Int) + 1), .slice (some ⟨u18, 0, none⟩) n x18, .slice (some ⟨y18, 0, none⟩) (q + 1) z18] by rw [hv25]; exact Box.made rfl)
    have hb25 : Below v24.heap.size v24 v25 := by rw [hv25]; (repeat (first | (with_reducible exact Below.refl _ _) | (with_reducible refine Go.below_drewN ?_ _) | (with_reducible refine Below.drew ?_) | (with_reducible refine Below.alloc ?_ (by first | exact Nat.le_refl _ | (simp; done) | (simp; omega) | omega) _) | (with_reducible refine Below.setCell ?_ (by first | exact Nat.le_refl _ | (simp; done) | (simp; omega) | omega) _)))
    clear hv25
    replace HTT := hide (HTT.out.below hb25)
    replace HSS := hide (HSS.out.below hb25)
    replace HX := hide (HX.out.below hb25)
    replace HT11 := hide (HT11.out.below hb25)
    replace HS11 := hide (HS11.out.below hb25)
    replace HX11 := hide (HX11.out.below hb25)
    replace HT18 := hide (HT18.out.below hb25)
    replace HS18 := hide (HS18.out.below hb25)
    replace HB := hide (HB.out.trans (hb25.mono HB.out.size))
    clear hb25
    obtain ⟨b25, eb25⟩ : ∃ z, v24.heap.size = z := ⟨_, rfl⟩
    simp only [eb25] at HX18
    try simp only [eb25]
    clear eb25
    obtain ⟨l0_0, l0_1, l0_2, l0_z⟩ := rec_cells HX18.out
    go_wp2_with fail
    clear l0_0 l0_1 l0_2 l0_z
    have HZ2 := hide (regE_bits (S' := itS (q + 1) n T S γ) HZ.out (HOK.out.it γ).bits)
    have HCR2 := hide (fun W h1 h2 => CheckRegisterR_any ((q : Int) + 1) (some ⟨u18, 0, none⟩) (some ⟨y18, 0, none⟩) n x18 (q + 1) z18 T (itS (q + 1) n T S γ) W (by omega) (by omega) h1 h2)
    rw [HZ2.out] at HCR2
    refine (HCR2.out _ HT18.out HS18.out).mono ?_
    rintro e_ v26 ⟨rfl, hb26⟩
    replace HTT := hide (HTT.out.below hb26)
    replace HSS := hide (HSS.out.below hb26)
    replace HX := hide (HX.out.below hb26)
    replace HT11 := hide (HT11.out.below hb26)
    replace HS11 := hide (HS11.out.below hb26)
    replace HX11 := hide (HX11.out.below hb26)
    replace HT18 := hide (HT18.out.below hb26)
    replace HS18 := hide (HS18.out.below hb26)
    replace HX18 := hide (HX18.out.below hb26)
    replace HB := hide (HB.out.trans (hb26.mono HB.out.size))
    clear hb26
    obtain ⟨l0_0, l0_1, l0_2, l0_z⟩ := rec_cells HX18.out
    go_wp2_with fail
    clear l0_0 l0_1 l0_2 l0_z
    clear HCR2
    have HCO2 := hide (fun W (h1 : IntsAt W 0 (some ⟨u18, 0, none⟩) n T) (h2 : IntsAt W 0 (some ⟨y18, 0, none⟩) (q + 1) (itS (q + 1) n T S γ)) => copyOk ((q : Int) + 1) _ _ n x18 (q + 1) z18 T (itS (q + 1) n T S γ) W (by omega) (by omega) hn1 (by omega) h1 h2)
    refine (HCO2.out _ HT18.out HS18.out).mono ?_
    rintro e_ v27 ⟨g7, f7, h7, k7, rfl, ht7, hs7, hb27⟩
    replace HTT := hide (HTT.out.below hb27)
    replace HSS := hide (HSS.out.below hb27)
    replace HX := hide (HX.out.below hb27)
    replace HT11 := hide (HT11.out.below hb27)
    replace HS11 := hide (HS11.out.below hb27)
    replace HX11 := hide (HX11.out.below hb27)
    replace HT18 := hide (HT18.out.below hb27)
    replace HS18 := hide (HS18.out.below hb27)
    replace HX18 := hide (HX18.out.below hb27)
    replace HB := hide (HB.out.trans (hb27.mono HB.out.size))
    clear hb27
    have HCT7 := hide ht7
    clear ht7
    have HCS7 := hide hs7
    clear hs7
    go_wp2_with fail
    refine (jumpOk g7 n f7 h7 q k7 p β (β % p) T (itS (q + 1) n T S γ) _ HZ2.out (HOK.out.it γ) (HPER.out.it HOK.out γ) (by omega) (rfl) HCT7.out HCS7.out).mono ?_
    rintro e_ v28 ⟨u20, x20, y20, z20, rfl, ht20, hs20, hb28⟩
    replace HTT := hide (HTT.out.below hb28)
    replace HSS := hide (HSS.out.below hb28)
    replace HX := hide (HX.out.below hb28)
    replace HT11 := hide (HT11.out.below hb28)
    replace HS11 := hide (HS11.out.below hb28)
    replace HX11 := hide (HX11.out.below hb28)
    replace HT18 := hide (HT18.out.below hb28)
    replace HS18 := hide (HS18.out.below hb28)
    replace HX18 := hide (HX18.out.below hb28)
    replace HCT7 := hide (HCT7.out.below hb28)
    replace HCS7 := hide (HCS7.out.below hb28)
    replace HB := hide (HB.out.trans (hb28.mono HB.out.size))
    clear hb28
    have HT20 := hide ht20
    clear ht20
    have HS20 := hide hs20
    clear hs20
    clear HCT7 HCS7
    go_upto_region 20 with fail
    obtain ⟨v29, hv29⟩ : ∃ z : World, z = (v28.alloc (.cells #[.int .i64 ((q : Int) + 1), .slice (some ⟨u20, 0, none⟩) n x20, .slice (some ⟨y20, 0, none⟩) (q + 1) z20] 24)) := ⟨_, rfl⟩
    try rw [← hv29]
    have HX20 := hide (show Box v29 (v28.heap.size) 24 #[.int .i64 ((q : Int) + 1), .slice (some ⟨u20, 0, none⟩) n x20, .slice (some ⟨y20, 0, none⟩) (q + 1) z20] by rw [hv29]; exact Box.made rfl)
    have hb29 : Below v28.heap.size v28 v29 := by rw [hv29]; (repeat (first | (with_reducible exact Below.refl _ _) | (with_reducible refine Go.below_drewN ?_ _) | (with_reducible refine Below.drew ?_) | (with_reducible refine Below.alloc ?_ (by first | exact Nat.le_refl _ | (simp; done) | (simp; omega) | omega) _) | (with_reducible refine Below.setCell ?_ (by first | exact Nat.le_refl _ | (simp; done) | (simp; omega) | omega) _)))
    clear hv29
    replace HTT := hide (HTT.out.below hb29)
    replace HSS := hide (HSS.out.below hb29)
    replace HX := hide (HX.out.below hb29)
    replace HT11 := hide (HT11.out.below hb29)
    replace HS11 := hide (HS11.out.below hb29)
    replace HX11 := hide (HX11.out.below hb29)
    replace HT18 := hide (HT18.out.below hb29)
    replace HS18 := hide (HS18.out.below hb29)
    replace HX18 := hide (HX18.out.below hb29)
    replace HT20 := hide (HT20.out.below hb29)
    replace HS20 := hide (HS20.out.below hb29)
    replace HB := hide (HB.out.trans (hb29.mono HB.out.size))
    clear hb29
    obtain ⟨b29, eb29⟩ : ∃ z, v28.heap.size = z := ⟨_, rfl⟩
    simp only [eb29] at HX20
    try simp only [eb29]
    clear eb29
    obtain ⟨l0_0, l0_1, l0_2, l0_z⟩ := rec_cells HX.out
    go_wp2_with fail
    clear l0_0 l0_1 l0_2 l0_z
    refine (HCO.out _ HTT.out HSS.out).mono ?_
    rintro e_ v30 ⟨g8, f8, h8, k8, rfl, ht8, hs8, hb30⟩
    replace HTT := hide (HTT.out.below hb30)
    replace HSS := hide (HSS.out.below hb30)
    replace HX := hide (HX.out.below hb30)
    replace HT11 := hide (HT11.out.below hb30)
    replace HS11 := hide (HS11.out.below hb30)
    replace HX11 := hide (HX11.out.below hb30)
    replace HT18 := hide (HT18.out.below hb30)
    replace HS18 := hide (HS18.out.below hb30)
    replace HX18 := hide (HX18.out.below hb30)
    replace HT20 := hide (HT20.out.below hb30)
    replace HS20 := hide (HS20.out.below hb30)
    replace HX20 := hide (HX20.out.below hb30)
    replace HB := hide (HB.out.trans (hb30.mono HB.out.size))
    clear hb30
    have HCT8 := hide ht8
    clear ht8
    have HCS8 := hide hs8
    clear hs8
    go_wp2_with fail
    skip
    have HJ2 := hide (fun W h1 h2 => jumpOk g8 n f8 h8 q k8 p (α + β) ((α + β) % p) T S W HZ.out HOK.out HPER.out (by omega) rfl h1 h2)
    rw [show ((α + β : Nat) : Int) = (α : Int) + (β : Int) by push_cast; rfl] at HJ2
    refine (HJ2.out _ HCT8.out HCS8.out).mono ?_
    rintro e_ v31 ⟨u22, x22, y22, z22, rfl, ht22, hs22, hb31⟩
    replace HTT := hide (HTT.out.below hb31)
    replace HSS := hide (HSS.out.below hb31)
    replace HX := hide (HX.out.below hb31)
    replace HT11 := hide (HT11.out.below hb31)
    replace HS11 := hide (HS11.out.below hb31)
    replace HX11 := hide (HX11.out.below hb31)
    replace HT18 := hide (HT18.out.below hb31)
    replace HS18 := hide (HS18.out.below hb31)
    replace HX18 := hide (HX18.out.below hb31)
    replace HT20 := hide (HT20.out.below hb31)
    replace HS20 := hide (HS20.out.below hb31)
    replace HX20 := hide (HX20.out.below hb31)
    replace HCT8 := hide (HCT8.out.below hb31)
    replace HCS8 := hide (HCS8.out.below hb31)
    replace HB := hide (HB.out.trans (hb31.mono HB.out.size))
    clear hb31
    have HT22 := hide ht22
    clear ht22
    have HS22 := hide hs22
    clear hs22
    clear HCT8 HCS8
    clear HJ2
    go_upto_region 21 with fail
    obtain ⟨v32, hv32⟩ : ∃ z : World, z = (v31.alloc (.cells #[.int .i64 ((q : Int) + 1), .slice (some ⟨u22, 0, none⟩) n x22, .slice (some ⟨y22, 0, none⟩) (q + 1) z22] 24)) := ⟨_, rfl⟩
    try rw [← hv32]
    have HX22 := hide (show Box v32 (v31.heap.size) 24 #[.int .i64 ((q : Int) + 1), .slice (some ⟨u22, 0, none⟩) n x22, .slice (some ⟨y22, 0, none⟩) (q + 1) z22] by rw [hv32]; exact Box.made rfl)
    have hb32 : Below v31.heap.size v31 v32 := by rw [hv32]; (repeat (first | (with_reducible exact Below.refl _ _) | (with_reducible refine Go.below_drewN ?_ _) | (with_reducible refine Below.drew ?_) | (with_reducible refine Below.alloc ?_ (by first | exact Nat.le_refl _ | (simp; done) | (simp; omega) | omega) _) | (with_reducible refine Below.setCell ?_ (by first | exact Nat.le_refl _ | (simp; done) | (simp; omega) | omega) _)))
    clear hv32
    replace HTT := hide (HTT.out.below hb32)
    replace HSS := hide (HSS.out.below hb32)
    replace HX := hide (HX.out.below hb32)
    replace HT11 := hide (HT11.out.below hb32)
    replace HS11 := hide (HS11.out.below hb32)
    replace HX11 := hide (HX11.out.below hb32)
    replace HT18 := hide (HT18.out.below hb32)
    replace HS18 := hide (HS18.out.below hb32)
    replace HX18 := hide (HX18.out.below hb32)
    replace HT20 := hide (HT20.out.below hb32)
    replace HS20 := hide (HS20.out.below hb32)
    replace HX20 := hide (HX20.out.below hb32)
    replace HT22 := hide (HT22.out.below hb32)
    replace HS22 := hide (HS22.out.below hb32)
    replace HB := hide (HB.out.trans (hb32.mono HB.out.size))
    clear hb32
    obtain ⟨b32, eb32⟩ : ∃ z, v31.heap.size = z := ⟨_, rfl⟩
    simp only [eb32] at HX22
    try simp only [eb32]
    clear eb32
    obtain ⟨l0_0, l0_1, l0_2, l0_z⟩ := rec_cells HX20.out
    obtain ⟨l1_0, l1_1, l1_2, l1_z⟩ := rec_cells HX22.out
    go_wp2_with fail
    clear l0_0 l0_1 l0_2 l0_z l1_0 l1_1 l1_2 l1_z
    have hyz : ∀ j, j < q + 1 → itS (q + 1) n T (itS (q + 1) n T S γ) (β % p) j = itS (q + 1) n T S ((α + β) % p) j := fun j hj => by
      rw [← itS_add, itS_mod HOK.out HPER.out _ j hj, HGA.out, ← Nat.add_mod]
    refine (sameOk _ _ _ _ _ n x20 (q + 1) z20 x22 z22 T _ _ _ (by omega) (by omega) HT20.out HS20.out HT22.out HS22.out hyz).mono ?_
    rintro e_ v33 ⟨rfl, hb33⟩
    replace HTT := hide (HTT.out.below hb33)
    replace HSS := hide (HSS.out.below hb33)
    replace HX := hide (HX.out.below hb33)
    replace HT11 := hide (HT11.out.below hb33)
    replace HS11 := hide (HS11.out.below hb33)
    replace HX11 := hide (HX11.out.below hb33)
    replace HT18 := hide (HT18.out.below hb33)
    replace HS18 := hide (HS18.out.below hb33)
    replace HX18 := hide (HX18.out.below hb33)
    replace HT20 := hide (HT20.out.below hb33)
    replace HS20 := hide (HS20.out.below hb33)
    replace HX20 := hide (HX20.out.below hb33)
    replace HT22 := hide (HT22.out.below hb33)
    replace HS22 := hide (HS22.out.below hb33)
    replace HX22 := hide (HX22.out.below hb33)
    replace HB := hide (HB.out.trans (hb33.mono HB.out.size))
    clear hb33
    go_wp2_with fail
    go_ret
    exact ⟨rfl, HB.out⟩
  have hma := HMA.out
  have tg : ((γ : Int) != 0) = true := by simp; omega
  refine (hma _).mono ?_
  rintro e_ v_ ⟨rfl, rfl⟩
  obtain ⟨l0_0, l0_1, l0_2, l0_z⟩ := rec_cells HX11.out
  obtain ⟨l1_0, l1_1, l1_2, l1_z⟩ := rec_cells HX.out
  go_wp2_with fail
  clear l0_0 l0_1 l0_2 l0_z l1_0 l1_1 l1_2 l1_z
  clear hma
  have hne : intsB (q + 1) (itS (q + 1) n T S γ) (q + 1) S = false := by
    obtain ⟨j, hj, hne⟩ := HPER.out.first γ (by omega) hγp
    rw [← Bool.not_eq_true, intsB_iff]
    exact fun h => hne (h.2 j hj)
  have HIN := hide (fun W h1 h2 => ints_any (some ⟨y11, 0, none⟩) B (q + 1) (q + 1) z11 d (itS (q + 1) n T S γ) S W (by omega) (by omega) h1 h2)
  rw [hne] at HIN
  refine (HIN.out _ HS11.out HSS.out).mono ?_
  rintro e_ v34 ⟨rfl, qq, hqq⟩
  have hb34 : Below v22.heap.size v22 v34 := by rw [hqq]; exact Go.below_drewN (Below.refl _ _) _
  clear hqq HIN hne
  replace HTT := hide (HTT.out.below hb34)
  replace HSS := hide (HSS.out.below hb34)
  replace HX := hide (HX.out.below hb34)
  replace HT11 := hide (HT11.out.below hb34)
  replace HS11 := hide (HS11.out.below hb34)
  replace HX11 := hide (HX11.out.below hb34)
  replace HB := hide (HB.out.trans (hb34.mono HB.out.size))
  clear hb34
  obtain ⟨l0_0, l0_1, l0_2, l0_z⟩ := rec_cells HX.out
  go_wp2_with fail
  clear l0_0 l0_1 l0_2 l0_z
  refine (HCO.out _ HTT.out HSS.out).mono ?_
  rintro e_ v35 ⟨g6, f6, h6, k6, rfl, ht6, hs6, hb35⟩
  replace HTT := hide (HTT.out.below hb35)
  replace HSS := hide (HSS.out.below hb35)
  replace HX := hide (HX.out.below hb35)
  replace HT11 := hide (HT11.out.below hb35)
  replace HS11 := hide (HS11.out.below hb35)
  replace HX11 := hide (HX11.out.below hb35)
  replace HB := hide (HB.out.trans (hb35.mono HB.out.size))
  clear hb35
  have HCT6 := hide ht6
  clear ht6
  have HCS6 := hide hs6
  clear hs6
  go_wp2_with fail
  refine (jumpOk g6 n f6 h6 q k6 p α γ T S _ HZ.out HOK.out HPER.out (by omega) (HGA.out) HCT6.out HCS6.out).mono ?_
  rintro e_ v36 ⟨u18, x18, y18, z18, rfl, ht18, hs18, hb36⟩
  replace HTT := hide (HTT.out.below hb36)
  replace HSS := hide (HSS.out.below hb36)
  replace HX := hide (HX.out.below hb36)
  replace HT11 := hide (HT11.out.below hb36)
  replace HS11 := hide (HS11.out.below hb36)
  replace HX11 := hide (HX11.out.below hb36)
  replace HCT6 := hide (HCT6.out.below hb36)
  replace HCS6 := hide (HCS6.out.below hb36)
  replace HB := hide (HB.out.trans (hb36.mono HB.out.size))
  clear hb36
  have HT18 := hide ht18
  clear ht18
  have HS18 := hide hs18
  clear hs18
  clear HCT6 HCS6
  go_upto_region 17 with fail
  obtain ⟨v37, hv37⟩ : ∃ z : World, z = (v36.alloc (.cells #[.int .i64 ((q : Int) + 1), .slice (some ⟨u18, 0, none⟩) n x18, .slice (some ⟨y18, 0, none⟩) (q + 1) z18] 24)) := ⟨_, rfl⟩
  try rw [← hv37]
  have HX18 := hide (show Box v37 (v36.heap.size) 24 #[.int .i64 ((q : Int) + 1), .slice (some ⟨u18, 0, none⟩) n x18, .slice (some ⟨y18, 0, none⟩) (q + 1) z18] by rw [hv37]; exact Box.made rfl)
  have hb37 : Below v36.heap.size v36 v37 := by rw [hv37]; (repeat (first | (with_reducible exact Below.refl _ _) | (with_reducible refine Go.below_drewN ?_ _) | (with_reducible refine Below.drew ?_) | (with_reducible refine Below.alloc ?_ (by first | exact Nat.le_refl _ | (simp; done) | (simp; omega) | omega) _) | (with_reducible refine Below.setCell ?_ (by first | exact Nat.le_refl _ | (simp; done) | (simp; omega) | omega) _)))
  clear hv37
  replace HTT := hide (HTT.out.below hb37)
  replace HSS := hide (HSS.out.below hb37)
  replace HX := hide (HX.out.below hb37)
  replace HT11 := hide (HT11.out.below hb37)
  replace HS11 := hide (HS11.out.below hb37)
  replace HX11 := hide (HX11.out.below hb37)
  replace HT18 := hide (HT18.out.below hb37)
  replace HS18 := hide (HS18.out.below hb37)
  replace HB := hide (HB.out.trans (hb37.mono HB.out.size))
  clear hb37
  obtain ⟨b37, eb37⟩ : ∃ z, v36.heap.size = z := ⟨_, rfl⟩
  simp only [eb37] at HX18
  try simp only [eb37]
  clear eb37
  obtain ⟨l0_0, l0_1, l0_2, l0_z⟩ := rec_cells HX18.out
  go_wp2_with fail
  clear l0_0 l0_1 l0_2 l0_z
  have HZ2 := hide (regE_bits (S' := itS (q + 1) n T S γ) HZ.out (HOK.out.it γ).bits)
  have HCR2 := hide (fun W h1 h2 => CheckRegisterR_any ((q : Int) + 1) (some ⟨u18, 0, none⟩) (some ⟨y18, 0, none⟩) n x18 (q + 1) z18 T (itS (q + 1) n T S γ) W (by omega) (by omega) h1 h2)
  rw [HZ2.out] at HCR2
  refine (HCR2.out _ HT18.out HS18.out).mono ?_
  rintro e_ v38 ⟨rfl, hb38⟩
  replace HTT := hide (HTT.out.below hb38)
  replace HSS := hide (HSS.out.below hb38)
  replace HX := hide (HX.out.below hb38)
  replace HT11 := hide (HT11.out.below hb38)
  replace HS11 := hide (HS11.out.below hb38)
  replace HX11 := hide (HX11.out.below hb38)
  replace HT18 := hide (HT18.out.below hb38)
  replace HS18 := hide (HS18.out.below hb38)
  replace HX18 := hide (HX18.out.below hb38)
  replace HB := hide (HB.out.trans (hb38.mono HB.out.size))
  clear hb38
  obtain ⟨l0_0, l0_1, l0_2, l0_z⟩ := rec_cells HX18.out
  go_wp2_with fail
  clear l0_0 l0_1 l0_2 l0_z
  clear HCR2
  have HCO2 := hide (fun W (h1 : IntsAt W 0 (some ⟨u18, 0, none⟩) n T) (h2 : IntsAt W 0 (some ⟨y18, 0, none⟩) (q + 1) (itS (q + 1) n T S γ)) => copyOk ((q : Int) + 1) _ _ n x18 (q + 1) z18 T (itS (q + 1) n T S γ) W (by omega) (by omega) hn1 (by omega) h1 h2)
  refine (HCO2.out _ HT18.out HS18.out).mono ?_
  rintro e_ v39 ⟨g7, f7, h7, k7, rfl, ht7, hs7, hb39⟩
  replace HTT := hide (HTT.out.below hb39)
  replace HSS := hide (HSS.out.below hb39)
  replace HX := hide (HX.out.below hb39)
  replace HT11 := hide (HT11.out.below hb39)
  replace HS11 := hide (HS11.out.below hb39)
  replace HX11 := hide (HX11.out.below hb39)
  replace HT18 := hide (HT18.out.below hb39)
  replace HS18 := hide (HS18.out.below hb39)
  replace HX18 := hide (HX18.out.below hb39)
  replace HB := hide (HB.out.trans (hb39.mono HB.out.size))
  clear hb39
  have HCT7 := hide ht7
  clear ht7
  have HCS7 := hide hs7
  clear hs7
  go_wp2_with fail
  refine (jumpOk g7 n f7 h7 q k7 p β (β % p) T (itS (q + 1) n T S γ) _ HZ2.out (HOK.out.it γ) (HPER.out.it HOK.out γ) (by omega) (rfl) HCT7.out HCS7.out).mono ?_
  rintro e_ v40 ⟨u20, x20, y20, z20, rfl, ht20, hs20, hb40⟩
  replace HTT := hide (HTT.out.below hb40)
  replace HSS := hide (HSS.out.below hb40)
  replace HX := hide (HX.out.below hb40)
  replace HT11 := hide (HT11.out.below hb40)
  replace HS11 := hide (HS11.out.below hb40)
  replace HX11 := hide (HX11.out.below hb40)
  replace HT18 := hide (HT18.out.below hb40)
  replace HS18 := hide (HS18.out.below hb40)
  replace HX18 := hide (HX18.out.below hb40)
  replace HCT7 := hide (HCT7.out.below hb40)
  replace HCS7 := hide (HCS7.out.below hb40)
  replace HB := hide (HB.out.trans (hb40.mono HB.out.size))
  clear hb40
  have HT20 := hide ht20
  clear ht20
  have HS20 := hide hs20
  clear hs20
  clear HCT7 HCS7
  go_upto_region 20 with fail
  obtain ⟨v41, hv41⟩ : ∃ z : World, z = (v40.alloc (.cells #[.int .i64 ((q : Int) + 1), .slice (some ⟨u20, 0, none⟩) n x20, .slice (some ⟨y20, 0, none⟩) (q + 1) z20] 24)) := ⟨_, rfl⟩
  try rw [← hv41]
  have HX20 := hide (show Box v41 (v40.heap.size) 24 #[.int .i64 ((q : Int) + 1), .slice (some ⟨u20, 0, none⟩) n x20, .slice (some ⟨y20, 0, none⟩) (q + 1) z20] by rw [hv41]; exact Box.made rfl)
  have hb41 : Below v40.heap.size v40 v41 := by rw [hv41]; (repeat (first | (with_reducible exact Below.refl _ _) | (with_reducible refine Go.below_drewN ?_ _) | (with_reducible refine Below.drew ?_) | (with_reducible refine Below.alloc ?_ (by first | exact Nat.le_refl _ | (simp; done) | (simp; omega) | omega) _) | (with_reducible refine Below.setCell ?_ (by first | exact Nat.le_refl _ | (simp; done) | (simp; omega) | omega) _)))
  clear hv41
  replace HTT := hide (HTT.out.below hb41)
  replace HSS := hide (HSS.out.below hb41)
  replace HX := hide (HX.out.below hb41)
  replace HT11 := hide (HT11.out.below hb41)
  replace HS11 := hide (HS11.out.below hb41)
  replace HX11 := hide (HX11.out.below hb41)
  replace HT18 := hide (HT18.out.below hb41)
  replace HS18 := hide (HS18.out.below hb41)
  replace HX18 := hide (HX18.out.below hb41)
  replace HT20 := hide (HT20.out.below hb41)
  replace HS20 := hide (HS20.out.below hb41)
  replace HB := hide (HB.out.trans (hb41.mono HB.out.size))
  clear hb41
  obtain ⟨b41, eb41⟩ : ∃ z, v40.heap.size = z := ⟨_, rfl⟩
  simp only [eb41] at HX20
  try simp only [eb41]
  clear eb41
  obtain ⟨l0_0, l0_1, l0_2, l0_z⟩ := rec_cells HX.out
  go_wp2_with fail
  clear l0_0 l0_1 l0_2 l0_z
  refine (HCO.out _ HTT.out HSS.out).mono ?_
  rintro e_ v42 ⟨g8, f8, h8, k8, rfl, ht8, hs8, hb42⟩
  replace HTT := hide (HTT.out.below hb42)
  replace HSS := hide (HSS.out.below hb42)
  replace HX := hide (HX.out.below hb42)
  replace HT11 := hide (HT11.out.below hb42)
  replace HS11 := hide (HS11.out.below hb42)
  replace HX11 := hide (HX11.out.below hb42)
  replace HT18 := hide (HT18.out.below hb42)
  replace HS18 := hide (HS18.out.below hb42)
  replace HX18 := hide (HX18.out.below hb42)
  replace HT20 := hide (HT20.out.below hb42)
  replace HS20 := hide (HS20.out.below hb42)
  replace HX20 := hide (HX20.out.below hb42)
  replace HB := hide (HB.out.trans (hb42.mono HB.out.size))
  clear hb42
  have HCT8 := hide ht8
  clear ht8
  have HCS8 := hide hs8
  clear hs8
  go_wp2_with fail
  skip
  have HJ2 := hide (fun W h1 h2 => jumpOk g8 n f8 h8 q k8 p (α + β) ((α + β) % p) T S W HZ.out HOK.out HPER.out (by omega) rfl h1 h2)
  rw [show ((α + β : Nat) : Int) = (α : Int) + (β : Int) by push_cast; rfl] at HJ2
  refine (HJ2.out _ HCT8.out HCS8.out).mono ?_
  rintro e_ v43 ⟨u22, x22, y22, z22, rfl, ht22, hs22, hb43⟩
  replace HTT := hide (HTT.out.below hb43)
  replace HSS := hide (HSS.out.below hb43)
  replace HX := hide (HX.out.below hb43)
  replace HT11 := hide (HT11.out.below hb43)
  replace HS11 := hide (HS11.out.below hb43)
  replace HX11 := hide (HX11.out.below hb43)
  replace HT18 := hide (HT18.out.below hb43)
  replace HS18 := hide (HS18.out.below hb43)
  replace HX18 := hide (HX18.out.below hb43)
  replace HT20 := hide (HT20.out.below hb43)
  replace HS20 := hide (HS20.out.below hb43)
  replace HX20 := hide (HX20.out.below hb43)
  replace HCT8 := hide (HCT8.out.below hb43)
  replace HCS8 := hide (HCS8.out.below hb43)
  replace HB := hide (HB.out.trans (hb43.mono HB.out.size))
  clear hb43
  have HT22 := hide ht22
  clear ht22
  have HS22 := hide hs22
  clear hs22
  clear HCT8 HCS8
  clear HJ2
  go_upto_region 21 with fail
  obtain ⟨v44, hv44⟩ : ∃ z : World, z = (v43.alloc (.cells #[.int .i64 ((q : Int) + 1), .slice (some ⟨u22, 0, none⟩) n x22, .slice (some ⟨y22, 0, none⟩) (q + 1) z22] 24)) := ⟨_, rfl⟩
  try rw [← hv44]
  have HX22 := hide (show Box v44 (v43.heap.size) 24 #[.int .i64 ((q : Int) + 1), .slice (some ⟨u22, 0, none⟩) n x22, .slice (some ⟨y22, 0, none⟩) (q + 1) z22] by rw [hv44]; exact Box.made rfl)
  have hb44 : Below v43.heap.size v43 v44 := by rw [hv44]; (repeat (first | (with_reducible exact Below.refl _ _) | (with_reducible refine Go.below_drewN ?_ _) | (with_reducible refine Below.drew ?_) | (with_reducible refine Below.alloc ?_ (by first | exact Nat.le_refl _ | (simp; done) | (simp; omega) | omega) _) | (with_reducible refine Below.setCell ?_ (by first | exact Nat.le_refl _ | (simp; done) | (simp; omega) | omega) _)))
  clear hv44
  replace HTT := hide (HTT.out.below hb44)
  replace HSS := hide (HSS.out.below hb44)
  replace HX := hide (HX.out.below hb44)
  replace HT11 := hide (HT11.out.below hb44)
  replace HS11 := hide (HS11.out.below hb44)
  replace HX11 := hide (HX11.out.below hb44)
  replace HT18 := hide (HT18.out.below hb44)
  replace HS18 := hide (HS18.out.below hb44)
  replace HX18 := hide (HX18.out.below hb44)
  replace HT20 := hide (HT20.out.below hb44)
  replace HS20 := hide (HS20.out.below hb44)
  replace HX20 := hide (HX20.out.below hb44)
  replace HT22 := hide (HT22.out.below hb44)
  replace HS22 := hide (HS22.out.below hb44)
  replace HB := hide (HB.out.trans (hb44.mono HB.out.size))
  clear hb44
  obtain ⟨b44, eb44⟩ : ∃ z, v43.heap.size = z := ⟨_, rfl⟩
  simp only [eb44] at HX22
  try simp only [eb44]
  clear eb44
  obtain ⟨l0_0, l0_1, l0_2, l0_z⟩ := rec_cells HX20.out
  obtain ⟨l1_0, l1_1, l1_2, l1_z⟩ := rec_cells HX22.out
  go_wp2_with fail
  clear l0_0 l0_1 l0_2 l0_z l1_0 l1_1 l1_2 l1_z
  have hyz : ∀ j, j < q + 1 → itS (q + 1) n T (itS (q + 1) n T S γ) (β % p) j = itS (q + 1) n T S ((α + β) % p) j := fun j hj => by
    rw [← itS_add, itS_mod HOK.out HPER.out _ j hj, HGA.out, ← Nat.add_mod]
  refine (sameOk _ _ _ _ _ n x20 (q + 1) z20 x22 z22 T _ _ _ (by omega) (by omega) HT20.out HS20.out HT22.out HS22.out hyz).mono ?_
  rintro e_ v45 ⟨rfl, hb45⟩
  replace HTT := hide (HTT.out.below hb45)
  replace HSS := hide (HSS.out.below hb45)
  replace HX := hide (HX.out.below hb45)
  replace HT11 := hide (HT11.out.below hb45)
  replace HS11 := hide (HS11.out.below hb45)
  replace HX11 := hide (HX11.out.below hb45)
  replace HT18 := hide (HT18.out.below hb45)
  replace HS18 := hide (HS18.out.below hb45)
  replace HX18 := hide (HX18.out.below hb45)
  replace HT20 := hide (HT20.out.below hb45)
  replace HS20 := hide (HS20.out.below hb45)
  replace HX20 := hide (HX20.out.below hb45)
  replace HT22 := hide (HT22.out.below hb45)
  replace HS22 := hide (HS22.out.below hb45)
  replace HX22 := hide (HX22.out.below hb45)
  replace HB := hide (HB.out.trans (hb45.mono HB.out.size))
  clear hb45
  go_wp2_with fail
  go_ret
  exact ⟨rfl, HB.out⟩
end Go.Proofs.Ytonmkmaeohfjpaa
