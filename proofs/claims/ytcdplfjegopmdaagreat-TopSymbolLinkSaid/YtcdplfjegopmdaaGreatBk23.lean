/- Lemmas: S42, S43, S44. -/
import Derived.Test.YtcdplfjegopmdaaGreatBk12
import Derived.Test.YtcdplfjegopmdaaGreatBk22
set_option linter.unusedVariables false
set_option linter.unusedSimpArgs false
/- equalizer of the code. -/
namespace Go.Proofs.YtcdplfjegopmdaaGreat
open Go Go.RowKit Go.Lib Ieee
theorem adjugate_any (a ao ca n m : Nat) (L : Nat → Nat) (F : Nat → Nat → Gau) (w : World) (hA : MatsAt w 0 (some ⟨a, ao, none⟩) n L F) (hok : MatOk n m L F) (hnm : n = m) (hn : n ≤ 2) :
    Calls Tryz.prog 105 #[.slice (some ⟨a, ao, none⟩) n ca] w fun e w' => ∃ g gs, e = .returned (.slice (some ⟨g, 0, none⟩) n n) ∧ MineAt w' w.heap.size g n gs (adjF n F) ∧ Below w.heap.size w w' := by
  have h1 := hok.n1
  have hA2 : MatsAt w 0 (some ⟨a, ao, none⟩) n (fun _ => m) F := fun i hi => by
    obtain ⟨b, o, Ai, ci, e1, e2, e3, e4, e5, e6, e7⟩ := hA i hi
    rw [hok.len i hi] at e4 e5 e7
    exact ⟨b, o, Ai, ci, e1, e2, e3, e4, e5, e6, e7⟩
  by_cases h0 : n = 1
  · exact adjugate_one a ao ca n F w h0
  · have e : n = 2 := by omega
    have h := adjugate_two a ao ca n m F w e (by omega) hA2 (fun i j hi hj => hok.inside i j (by omega) (by omega))
    subst e
    exact h
/-- What takes a matrix off, but for its gain. -/
def eqF (n : Nat) (F : Nat → Nat → Gau) (d : Gau) (i k : Nat) : Gau := d.conj.mul (adjF n F i k)
theorem Gau.conj_within {x : Gau} {M : Int} (h : x.Within M) : x.conj.Within M := ⟨h.re, by have := h.im; show -M ≤ -x.im ∧ -x.im ≤ M; omega⟩
theorem MineAt.put {W : World} {B g n : Nat} {gs : Nat → Nat} {F : Nat → Nat → Gau} (h : MineAt W B g n gs F) (i k : Nat) (hi : i < n) (x : Gau) (G : Nat → Nat → Gau) (hG : ∀ p q, p < n → q < n → G p q = if p = i ∧ q = k then x else F p q) : MineAt ((W.setCell ⟨gs i, k * 2, none⟩ (.int .i64 x.re)).setCell ⟨gs i, k * 2 + 1, none⟩ (.int .i64 x.im)) B g n gs G := by
  have hf := h.far i hi
  refine ⟨h.low, by have := h.lt; simpa [World.setCell] using this, fun p hp => ?_, fun p hp => ?_, h.far, h.apart⟩
  · rw [World.cell?_setCell_far _ _ _ _ (show gs i ≠ g from hf), World.cell?_setCell_far _ _ _ _ (show gs i ≠ g from hf)]
    exact h.cell p hp
  · by_cases e : p = i
    · subst e
      exact ((h.row p hp).put k x).congr fun q hq => by
        unfold setGau
        rw [hG p q hp hq]
        by_cases e2 : q = k
        · rw [if_pos e2, if_pos ⟨rfl, e2⟩]
        · rw [if_neg e2, if_neg (fun z => e2 z.2)]
    · have hne : (Value.slice (some ⟨gs p, 0, none⟩) n n).ownBlock ≠ some (gs i) := fun z => by
        have : gs p = gs i := by simpa [Value.ownBlock] using z
        exact h.apart p i hp hi e this
      exact (((h.row p hp).other (k := gs i) (k * 2) (.int .i64 x.re) hne).other (k := gs i) (k * 2 + 1) (.int .i64 x.im) hne).congr fun q hq => by
        rw [hG p q hp hq, if_neg (fun z => e z.1)]
theorem MineAt.congr {W : World} {B g n : Nat} {gs : Nat → Nat} {F G : Nat → Nat → Gau} (h : MineAt W B g n gs F) (e : ∀ i k, i < n → k < n → F i k = G i k) : MineAt W B g n gs G := ⟨h.low, h.lt, h.cell, fun i hi => (h.row i hi).congr fun k hk => e i k hi hk, h.far, h.apart⟩
/-- Entries ahead of the place i, k are G, the others F. -/
def halfF (F G : Nat → Nat → Gau) (i k p q : Nat) : Gau := if p < i ∨ p = i ∧ q < k then G p q else F p q
theorem halfF_put (F G : Nat → Nat → Gau) (i k p q : Nat) : halfF F G i (k + 1) p q = if p = i ∧ q = k then G i k else halfF F G i k p q := by
  unfold halfF
  by_cases e : p = i ∧ q = k
  · obtain ⟨rfl, rfl⟩ := e
    rw [if_pos (by omega), if_pos ⟨rfl, rfl⟩]
  · rw [if_neg e]
    by_cases h : p < i ∨ p = i ∧ q < k
    · rw [if_pos h, if_pos (by omega)]
    · rw [if_neg h, if_neg (by omega)]

set_option maxHeartbeats 16000000 in
set_option maxRecDepth 100000 in
theorem equalizer_any (a ao ca n m : Nat) (L : Nat → Nat) (F : Nat → Nat → Gau) (d : Gau) (w : World) (hA : MatsAt w 0 (some ⟨a, ao, none⟩) n L F) (hok : MatOk n m L F) (hnm : n = m) (hn : n ≤ 2) (hd : d.Within 4000000) :
    Calls Tryz.prog 69 #[.slice (some ⟨a, ao, none⟩) n ca, .agg #[.int .i64 d.re, .int .i64 d.im]] w fun e w' => ∃ g gs, e = .returned (.slice (some ⟨g, 0, none⟩) n n) ∧ MineAt w' w.heap.size g n gs (eqF n F d) ∧ Below w.heap.size w w' := by
  have HAD := hide (fun W (h : MatsAt W 0 (some ⟨a, ao, none⟩) n L F) => adjugate_any a ao ca n m L F W h hok hnm hn)
  have HA := hide hA
  have HAW := hide (adjF_within hok hnm hn)
  have hn1 := hok.n1
  have HEF := hide (show ∀ i k, eqF n F d i k = d.conj.mul (adjF n F i k) from fun _ _ => rfl)
  have hcw := Gau.conj_within hd
  have hcc := cpx_of hcw (by decide)
  have hcim : d.conj.im = -d.im := rfl
  have hcre : d.conj.re = d.re := rfl
  rw [hcim, hcre] at hcc
  have q1 : IntKind.i64.wrap (-d.im) = -d.im := IntWalk.i64_in _ (by have := hd.im; omega)
  obtain ⟨J, hJ⟩ : ∃ z, adjF n F = z := ⟨_, rfl⟩
  obtain ⟨G, hG⟩ : ∃ z, eqF n F d = z := ⟨_, rfl⟩
  obtain ⟨dc, hdc⟩ : ∃ z, d.conj = z := ⟨_, rfl⟩
  simp only [hJ] at HAD HAW HEF
  simp only [hG] at HEF ⊢
  simp only [hdc] at HEF hcw hcc
  clear hJ hG hcim hcre hA hok hnm hd hdc
  obtain ⟨dr, hdr⟩ : ∃ z, d.re = z := ⟨_, rfl⟩
  obtain ⟨di, hdi⟩ : ∃ z, d.im = z := ⟨_, rfl⟩
  simp only [hdr, hdi] at hcc q1 ⊢
  clear hdr hdi
  have HCW := hide hcw
  have HCC := hide hcc
  clear hcw hcc
  go_enter Tryz.func69, Tryz.ntmps69
  go_upto_region 1 with fail
  obtain ⟨w1, hw1⟩ : ∃ z : World, z = w.alloc (.cells #[.int .i64 dr, .int .i64 di] 62) := ⟨_, rfl⟩
  try rw [← hw1]
  have HX := hide (show Box w1 w.heap.size 62 #[.int .i64 dr, .int .i64 di] by rw [hw1]; exact Box.made rfl)
  have HB := hide (show Below w.heap.size w w1 by rw [hw1]; (repeat (first | (with_reducible exact Below.refl _ _) | (with_reducible refine Go.below_drewN ?_ _) | (with_reducible refine Below.drew ?_) | (with_reducible refine Below.alloc ?_ (by first | exact Nat.le_refl _ | (simp; done) | (simp; omega) | omega) _) | (with_reducible refine Below.setCell ?_ (by first | exact Nat.le_refl _ | (simp; done) | (simp; omega) | omega) _))))
  clear hw1
  obtain ⟨x0, x1, f0, f1, hlx⟩ := HX.out.t2
  go_wp2_with (go_at_call 104; refine (asComplexS_any _ _ _).mono ?_; rintro e_ w2 ⟨rfl, hb2⟩; replace HB := hide (HB.out.trans (hb2.mono HB.out.size)); clear x0 x1 f0 f1 hlx)
  refine (HAD.out _ (HA.out.below HB.out)).mono ?_
  rintro e w3 ⟨gm, gs, rfl, hm3, hb3⟩
  have HM := hide (show MineAt w3 w.heap.size gm n gs (halfF J G 0 0) from ⟨by have := hm3.low; have := HB.out.size; omega, hm3.lt, hm3.cell, fun i hi => ((hm3.row i hi).weak HB.out.size).congr fun q _ => (show J i q = halfF J G 0 0 i q by unfold halfF; rw [if_neg (by omega)]), hm3.far, hm3.apart⟩)
  have hs2 := HB.out.size
  replace HB := hide (HB.out.trans (hb3.mono HB.out.size))
  clear hm3 hb3 hb2 HAD HX HA hs2
  obtain ⟨fr, hfr⟩ : ∃ z, floatOfInt .f64 dr = z := ⟨_, rfl⟩
  obtain ⟨fi, hfi⟩ : ∃ z, floatOfInt .f64 (-di) = z := ⟨_, rfl⟩
  simp only [hfr, hfi] at HCC
  try simp only [hfr, hfi]
  clear hfr hfi
  go_wp2_with fail
  go_loopw [8, 9, 10, 22] (fun _ _ _ z wr => ∃ i : Nat, i ≤ n ∧ z = .int .i64 (i : Int) ∧ Hid (MineAt wr w.heap.size gm n gs (halfF J G i 0)) ∧ Hid (Below w.heap.size w wr)) (fun _ _ _ z _ => n - (Go.RowKit.intOf z).toNat)
  case atStart => exact ⟨0, Nat.zero_le _, rfl, HM, HB⟩
  case round =>
    clear HM HB
    obtain ⟨i, hi, rfl, HM, HB⟩ := hrel
    obtain ⟨wA, rfl⟩ : ∃ x : World, x = wr := ⟨_, rfl⟩
    by_cases hlt : i < n
    case neg =>
      obtain rfl : n = i := by omega
      have hltz : ¬ (n : Int) < (n : Int) := by omega
      clear HAW HEF HCW HCC
      go_wp2_with fail
      go_ret
      have hm := HM.out.congr (G := G) fun p q hp hq => if_pos (.inl hp)
      first | exact ⟨gm, gs, rfl, hm, HB.out⟩ | exact ⟨gm, rfl, ⟨gs, hm⟩, HB.out⟩ | exact ⟨⟨gs, hm⟩, HB.out⟩ | exact ⟨gs, hm, HB.out⟩
    have hltz : (i : Int) < (n : Int) := by omega
    have y0 := HM.out.cell i hlt
    have hlm := HM.out.lt
    go_wp2_with fail
    clear y0
    go_loopw [9, 10, 28] (fun _ _ z wr => ∃ k : Nat, k ≤ n ∧ z = .int .i64 (k : Int) ∧ Hid (MineAt wr w.heap.size gm n gs (halfF J G i k)) ∧ Hid (Below w.heap.size w wr)) (fun _ _ z _ => n - (Go.RowKit.intOf z).toNat)
    case atStart => exact ⟨0, Nat.zero_le _, rfl, HM, HB⟩
    case round =>
      clear HM HB hlm
      obtain ⟨k, hk, rfl, HM, HB⟩ := hrel
      obtain ⟨wB, rfl⟩ : ∃ x : World, x = wr := ⟨_, rfl⟩
      by_cases hltk : k < n
      case neg =>
        obtain rfl : n = k := by omega
        have hltkz : ¬ (n : Int) < (n : Int) := by omega
        clear HAW HEF HCW HCC
        have HM2 := hide (HM.out.congr (G := halfF J G (i + 1) 0) fun p q hp hq => by
          unfold halfF
          by_cases e : p < i ∨ p = i ∧ q < n
          · rw [if_pos e, if_pos (by omega)]
          · rw [if_neg e, if_neg (by omega)])
        go_wp2_with fail
        go_roundw
        case rel => exact ⟨i + 1, by omega, by go_num, HM2, HB⟩
        case measure => simp [Go.RowKit.intOf]; omega
      have hltkz : (k : Int) < (n : Int) := by omega
      obtain ⟨y0, y1⟩ := gaus_at (HM.out.row i hlt).gaus hltk
      have hlr := ((HM.out.row i hlt).lt).2
      have hJ : halfF J G i k i k = J i k := by unfold halfF; rw [if_neg (by omega)]
      rw [hJ] at y0 y1
      have hyw := HAW.out i k
      have hef := HEF.out i k
      simp only [Nat.zero_add] at y0 y1
      obtain ⟨y, hy⟩ : ∃ z, J i k = z := ⟨_, rfl⟩
      rw [hy] at y0 y1 hyw hef
      have hyc := cpx_of hyw (by decide)
      obtain ⟨mu, mt, hm, hmc⟩ := cpx_mul (show Cpx fr fi dc from HCC.out) hyc HCW.out hyw (by decide)
      have hmw := (Gau.mul_within HCW.out hyw).more (N := 9007199254740991) (by decide)
      rw [← hef] at hmc hmw
      have HMUL := hide (fun W => run_complex_mul (P := Tryz.prog) W 123 _ _ _ _ _ _ hm)
      have HAG := hide (fun W => asGauss_any mu mt (G i k) W hmc hmw)
      have HPU := hide (fun W (h : MineAt W w.heap.size gm n gs (halfF J G i k)) => h.put i k hlt (G i k) (halfF J G i (k + 1)) fun p q _ _ => halfF_put J G i k p q)
      obtain ⟨x, hx⟩ : ∃ z, G i k = z := ⟨_, rfl⟩
      simp only [hx] at HAG HPU
      obtain ⟨yr, hyr⟩ : ∃ z, y.re = z := ⟨_, rfl⟩
      obtain ⟨yi, hyi⟩ : ∃ z, y.im = z := ⟨_, rfl⟩
      simp only [hyr, hyi] at HMUL y0 y1
      clear hyr hyi hx hmc hmw hm hyc hyw hef hy hJ
      obtain ⟨xr, hxr⟩ : ∃ z, x.re = z := ⟨_, rfl⟩
      obtain ⟨xi, hxi⟩ : ∃ z, x.im = z := ⟨_, rfl⟩
      simp only [hxr, hxi] at HAG HPU
      clear hxr hxi
      obtain ⟨gu, hgu⟩ : ∃ z, floatOfInt .f64 yr = z := ⟨_, rfl⟩
      obtain ⟨gv, hgv⟩ : ∃ z, floatOfInt .f64 yi = z := ⟨_, rfl⟩
      simp only [hgu, hgv] at HMUL
      have HGU := hide hgu
      have HGV := hide hgv
      clear hgu hgv
      go_upto_region 9 with fail
      clear y0 y1 hlr
      obtain ⟨b10, hb10⟩ : ∃ z, wB.heap.size = z := ⟨_, rfl⟩
      obtain ⟨w4, hw4⟩ : ∃ z : World, z = wB.alloc (.cells #[.int .i64 yr, .int .i64 yi] 62) := ⟨_, rfl⟩
      try rw [← hw4]
      try simp only [hb10]
      have HG := hide (show Box w4 b10 62 #[.int .i64 yr, .int .i64 yi] by rw [hw4]; exact Box.made hb10.symm)
      have hc4 : Below wB.heap.size wB w4 := by rw [hw4]; (repeat (first | (with_reducible exact Below.refl _ _) | (with_reducible refine Go.below_drewN ?_ _) | (with_reducible refine Below.drew ?_) | (with_reducible refine Below.alloc ?_ (by first | exact Nat.le_refl _ | (simp; done) | (simp; omega) | omega) _) | (with_reducible refine Below.setCell ?_ (by first | exact Nat.le_refl _ | (simp; done) | (simp; omega) | omega) _)))
      replace HM := hide (HM.out.below hc4)
      replace HB := hide (HB.out.trans (hc4.mono HB.out.size))
      clear hw4 hc4 hb10
      obtain ⟨x0, x1, -, -, hlx⟩ := HG.out.t2
      have hmul := HMUL.out
      go_wp2_with (first
        | (go_at_call 104; refine (asComplexS_any _ _ _).mono ?_; rintro e_ w5 ⟨rfl, hb5⟩; replace HM := hide (HM.out.below hb5); replace HB := hide (HB.out.trans (hb5.mono HB.out.size)); rw [HGU.out, HGV.out])
        | (go_at_call 106; refine (HAG.out _).mono ?_; rintro e_ w6 ⟨rfl, hb6⟩; replace HM := hide (HM.out.below hb6); replace HB := hide (HB.out.trans (hb6.mono HB.out.size)); have hro := HM.out.row i hlt; obtain ⟨y0, y1⟩ := gaus_at hro.gaus hltk; obtain ⟨f0, f1⟩ := hro.frozen2 k; have hlr := (hro.lt).2; have hlo := (hro.lt).1; simp only [Nat.zero_add] at y0 y1; clear hro))
      have HM2 := hide (HPU.out _ HM.out)
      have HB2 := hide ((HB.out.setCell (p := ⟨gs i, k * 2, none⟩) hlo (.int .i64 xr)).setCell (p := ⟨gs i, k * 2 + 1, none⟩) hlo (.int .i64 xi))
      go_roundw
      case rel => exact ⟨k + 1, by omega, by go_num, HM2, HB2⟩
      case measure => simp [Go.RowKit.intOf]; omega
end Go.Proofs.YtcdplfjegopmdaaGreat
/- limitedProduct of the code. -/
namespace Go.Proofs.YtcdplfjegopmdaaGreat
open Go Go.RowKit Go.Lib Ieee
/-- Is each row within most? -/
def rowsB (M : Int) (n q : Nat) (F : Nat → Nat → Gau) : Bool := (List.range n).all fun r => insideB M q (F r)
theorem rowsB_iff {M : Int} {n q : Nat} {F : Nat → Nat → Gau} : rowsB M n q F = true ↔ ∀ r, r < n → insideB M q (F r) = true := by simp [rowsB]
/-- The error of a limited product of n rows of m entries and k rows of q. -/
def lpE (M : Int) (n m k q : Nat) (X Y : Nat → Nat → Gau) : Int := if m = k then unI (rowsB M n q fun r c => gsum X Y r c m) 8 else 13
/-- What a function handed back: a matrix of n rows of q, or nothing. -/
def GaveMat (w w' : World) (E : Int) (n q : Nat) (F : Nat → Nat → Gau) (v : Value) : Prop := (E = 0 → ∃ g, v = .slice (some ⟨g, 0, none⟩) n n ∧ MatsAt w' w.heap.size (some ⟨g, 0, none⟩) n (fun _ => q) F) ∧ (E ≠ 0 → v = .slice none 0 0)
set_option maxHeartbeats 8000000 in
set_option maxRecDepth 100000 in
theorem limitedProduct_any (a ao b bo n m k q ca cb : Nat) (X Y : Nat → Nat → Gau) (M N most : Int) (w : World) (hn1 : 1 ≤ n) (hn4 : n ≤ 4) (hm1 : 1 ≤ m) (hm4 : m ≤ 4) (hk : k ≤ 1000) (hq1 : 1 ≤ q) (hq9 : q ≤ 1000) (hM : 0 ≤ M) (hN : 0 ≤ N) (hMb : M ≤ 9007199254740990) (hNb : N ≤ 9007199254740990) (hMN : 8 * (M * N) ≤ 9007199254740991) (ht : 0 ≤ most ∧ most ≤ 9000000000000000000)
    (hA : MatsAt w 0 (some ⟨a, ao, none⟩) n (fun _ => m) X) (hC : MatsAt w 0 (some ⟨b, bo, none⟩) k (fun _ => q) Y) (hX : ∀ r j, r < n → j < m → (X r j).Within M) (hY : ∀ j c, j < k → c < q → (Y j c).Within N) :
    Calls Tryz.prog 67 #[.slice (some ⟨a, ao, none⟩) n ca, .slice (some ⟨b, bo, none⟩) k cb, .int .i64 most] w fun e w' => ∃ v, e = .returned (.tuple #[v, .int .i64 (lpE most n m k q X Y)]) ∧ GaveMat w w' (lpE most n m k q X Y) n q (fun r c => gsum X Y r c m) v ∧ Below w.heap.size w w' := by
  obtain ⟨Ar, cr, y0, hc1, hc2, -, -, -⟩ := mat_row hA (i := 0) (by omega)
  simp only [Nat.add_zero] at y0
  obtain ⟨E, hE⟩ : ∃ z, lpE most n m k q X Y = z := ⟨_, rfl⟩
  rw [hE]
  unfold lpE at hE
  by_cases hmk : m = k
  case neg =>
    rw [if_neg hmk] at hE
    subst hE
    have tm : ((m : Int) != (k : Int)) = true := by simp; omega
    clear hA hC hX hY hmk
    go_enter Tryz.func67, Tryz.ntmps67
    go_wp2_with fail
    go_ret2
    exact ⟨_, rfl, ⟨fun h => absurd h (by decide), fun _ => rfl⟩, Below.refl _ _⟩
  rw [if_pos hmk] at hE
  have tm : ((m : Int) != (k : Int)) = false := by simp; omega
  have HC : MatsAt w 0 (some ⟨b, bo, none⟩) m (fun _ => q) Y := by rw [hmk]; exact hC
  have HPR := hide (product_any a ao b bo n m q ca cb X Y M N w hn1 hn4 hm1 hm4 hq1 hq9 hM hN hMb hNb hMN hA HC hX (by rw [hmk]; exact hY))
  have HE := hide hE
  have HMK := hide hmk
  obtain ⟨P, hP⟩ : ∃ z : Nat → Nat → Gau, (fun r c => gsum X Y r c m) = z := ⟨_, rfl⟩
  simp only [hP] at HPR HE ⊢
  have hsl : (Value.slice (some ⟨b, bo, none⟩) m cb) = .slice (some ⟨b, bo, none⟩) k cb := by rw [hmk]
  rw [hsl] at HPR
  clear hE hP hA hC hX hY hmk HC hsl hM hN hMN hMb hNb
  go_enter Tryz.func67, Tryz.ntmps67
  go_wp2_with fail
  refine HPR.out.mono ?_
  rintro e w1 ⟨gl, rfl, hm, hb1⟩
  have HM := hide hm
  have HB := hide hb1
  clear hm hb1 HPR y0
  go_wp2_with fail
  go_loopw [10, 23] (fun _ z wr => ∃ r : Nat, r ≤ n ∧ z = .int .i64 (r : Int) ∧ Hid (∀ i, i < r → insideB most q (P i) = true) ∧ Hid (MatsAt wr w.heap.size (some ⟨gl, 0, none⟩) n (fun _ => q) P) ∧ Hid (Below w.heap.size w wr)) (fun _ z _ => n - (Go.RowKit.intOf z).toNat)
  case atStart => exact ⟨0, Nat.zero_le _, rfl, hide fun i h => absurd h (Nat.not_lt_zero i), HM, HB⟩
  case round =>
    clear HM HB
    obtain ⟨r, hr, rfl, HZ, HM, HB⟩ := hrel
    obtain ⟨wA, rfl⟩ : ∃ x : World, x = wr := ⟨_, rfl⟩
    by_cases hlt : r < n
    case neg =>
      obtain rfl : n = r := by omega
      have hltz : ¬ (n : Int) < (n : Int) := by omega
      have h0 : E = 0 := HE.out.symm.trans (if_pos (rowsB_iff.2 HZ.out))
      subst h0
      clear HE HZ HMK
      go_wp2_with fail
      go_ret2
      exact ⟨_, rfl, ⟨fun _ => ⟨gl, rfl, HM.out⟩, fun h => absurd rfl h⟩, HB.out⟩
    have hltz : (r : Int) < (n : Int) := by omega
    obtain ⟨Ai, ci, y1, -, -, hRow, -, hlb⟩ := mat_row HM.out hlt
    simp only [Nat.zero_add] at y1
    have HAW := hide (areWithin_any Ai q ci (P r) most wA ht (by omega) (fun i hi => by obtain ⟨b', o', h1, h2, h3⟩ := hRow i hi; exact ⟨b', o', h1, Nat.zero_le _, h3⟩))
    clear hRow
    cases hb : insideB most q (P r) with
    | true =>
      rw [hb] at HAW
      have HB2 := hide hb
      clear hb
      go_wp2_with (go_at_call 64; refine HAW.out.mono ?_; rintro e w2 ⟨rfl, hb2⟩)
      go_roundw
      case rel => exact ⟨r + 1, by omega, by go_num, hide fun i hi => (by
        by_cases e : i = r
        · rw [e]; exact HB2.out
        · exact HZ.out i (by omega)), hide (HM.out.below hb2), hide (HB.out.trans (hb2.mono HB.out.size))⟩
      case measure => simp [Go.RowKit.intOf]; omega
    | false =>
      rw [hb] at HAW
      have h0 : E = 8 := HE.out.symm.trans (if_neg fun h => by rw [rowsB_iff.1 h r hlt] at hb; cases hb)
      subst h0
      clear hb HE HZ HMK
      go_wp2_with (go_at_call 64; refine HAW.out.mono ?_; rintro e w2 ⟨rfl, hb2⟩)
      go_ret2
      exact ⟨_, rfl, ⟨fun h => absurd h (by decide), fun _ => rfl⟩, HB.out.trans (hb2.mono HB.out.size)⟩
end Go.Proofs.YtcdplfjegopmdaaGreat
/- Equalized of the code. -/
namespace Go.Proofs.YtcdplfjegopmdaaGreat
open Go Go.RowKit Go.Lib Ieee
def gainG (d : Gau) : Int := d.re * d.re + d.im * d.im
/-- The error of what is to be equalized. -/
def eqE (n : Nat) (L : Nat → Nat) (F : Nat → Nat → Gau) (k : Nat) (K : Nat → Nat) (Y : Nat → Nat → Gau) : Int :=
  if orS (detE n L F) (laysE k K Y) = 0 then if k = n then if gainG (detV n L F) = 0 then 27 else if 10000000 < gainG (detV n L F) then 8 else unI (rowsB 100000000 n (K 0) fun r c => gsum (eqF n F (detV n L F)) Y r c n) 8 else 13 else orS (detE n L F) (laysE k K Y)
/-- The gain, or nothing. -/
def eqG (n : Nat) (L : Nat → Nat) (F : Nat → Nat → Gau) (k : Nat) (K : Nat → Nat) (Y : Nat → Nat → Gau) : Int := if eqE n L F k K Y = 0 then gainG (detV n L F) else 0
theorem detE_zero {n : Nat} {L : Nat → Nat} {F : Nat → Nat → Gau} (h : detE n L F = 0) : MatOk n (L 0) L F ∧ n = L 0 ∧ n ≤ 2 := by
  unfold detE at h
  by_cases h0 : matE n L F = 0
  · rw [if_pos h0] at h
    by_cases h1 : n = L 0
    · rw [if_pos h1] at h
      by_cases h2 : 2 < n
      · rw [if_pos h2] at h; exact absurd h (by decide)
      · exact ⟨matE_zero h0, h1, by omega⟩
    · rw [if_neg h1] at h; exact absurd h (by decide)
  · rw [if_neg h0] at h; exact absurd h h0
theorem detV_within {n : Nat} {L : Nat → Nat} {F : Nat → Nat → Gau} : (detV n L F).Within 4000000 := by
  unfold detV
  by_cases h : detE n L F = 0
  · rw [if_pos h]
    obtain ⟨h1, h2, h3⟩ := detE_zero h
    exact detG_within h1 h2 h3
  · rw [if_neg h]; exact ⟨by decide, by decide⟩
theorem sq_small {x G : Int} (h : x * x ≤ G) (hG : G ≤ 10000000) : -3163 ≤ x ∧ x ≤ 3163 := by
  constructor
  · by_cases e : -3163 ≤ x
    · exact e
    · have := Int.mul_le_mul (a := 3164) (b := 3164) (c := -x) (d := -x) (by omega) (by omega) (by decide) (by omega)
      rw [Int.neg_mul_neg] at this
      omega
  · by_cases e : x ≤ 3163
    · exact e
    · have := Int.mul_le_mul (a := 3164) (b := 3164) (c := x) (d := x) (by omega) (by omega) (by decide) (by omega)
      omega
theorem sq_nn (x : Int) : 0 ≤ x * x := by
  rcases Int.le_total 0 x with h | h
  · exact Int.mul_nonneg h h
  · have := Int.mul_nonneg (show 0 ≤ -x by omega) (show 0 ≤ -x by omega)
    rwa [Int.neg_mul_neg] at this
theorem gain_small {d : Gau} (h : gainG d ≤ 10000000) : d.Within 3163 := by
  unfold gainG at h
  have h1 := sq_nn d.re
  have h2 := sq_nn d.im
  exact ⟨sq_small (show d.re * d.re ≤ 10000000 by omega) (by decide), sq_small (show d.im * d.im ≤ 10000000 by omega) (by decide)⟩
theorem gain_le {d : Gau} (h : d.Within 4000000) : 0 ≤ d.re * d.re ∧ d.re * d.re ≤ 16000000000000 ∧ 0 ≤ d.im * d.im ∧ d.im * d.im ≤ 16000000000000 := by
  have h1 := mul_size h.re h.re
  have h2 := mul_size h.im h.im
  have h3 := sq_nn d.re
  have h4 := sq_nn d.im
  omega
set_option maxHeartbeats 8000000 in
set_option maxRecDepth 100000 in
theorem Equalized_any (A C : Option Addr) (n k ca cb : Nat) (L K : Nat → Nat) (F Y : Nat → Nat → Gau) (w : World) (hn : n ≤ 100000) (hk : k ≤ 100000) (hL : ∀ i, i < n → L i ≤ 100000) (hK : ∀ i, i < k → K i ≤ 100000) (hI : MatsAt w 0 A n L F) (hJ : MatsAt w 0 C k K Y) :
    Calls Tryz.prog 26 #[.slice A n ca, .slice C k cb] w fun e w' => ∃ v, e = .returned (.tuple #[v, .int .i64 (eqG n L F k K Y), .int .i64 (eqE n L F k K Y)]) ∧ GaveMat w w' (eqE n L F k K Y) n (K 0) (fun r c => gsum (eqF n F (detV n L F)) Y r c n) v ∧ Below w.heap.size w w' := by
  have HDT := hide (fun W (h : MatsAt W 0 A n L F) => Determinant_any A n ca L F W hn hL h)
  have HLE := hide (fun W (h : MatsAt W 0 C k K Y) => layersError_any C k cb K Y W hk hK h)
  have HI := hide hI
  have HJ := hide hJ
  have HDW := hide (detV_within (n := n) (L := L) (F := F))
  have HDZ := hide (fun h : detE n L F = 0 => detE_zero h)
  have HLZ := hide (fun h : laysE k K Y = 0 => laysE_zero h)
  have HE := hide (show eqE n L F k K Y = if orS (detE n L F) (laysE k K Y) = 0 then if k = n then if gainG (detV n L F) = 0 then 27 else if 10000000 < gainG (detV n L F) then 8 else unI (rowsB 100000000 n (K 0) fun r c => gsum (eqF n F (detV n L F)) Y r c n) 8 else 13 else orS (detE n L F) (laysE k K Y) from rfl)
  have HG := hide (show eqG n L F k K Y = if eqE n L F k K Y = 0 then gainG (detV n L F) else 0 from rfl)
  have HEQ := hide (fun a ao W (h : MatsAt W 0 (some ⟨a, ao, none⟩) n L F) (h0 : detE n L F = 0) => equalizer_any a ao ca n (L 0) L F (detV n L F) W h (detE_zero h0).1 (detE_zero h0).2.1 (detE_zero h0).2.2 detV_within)
  have HEW := hide (fun (h0 : detE n L F = 0) (hg : gainG (detV n L F) ≤ 10000000) r j => (show (eqF n F (detV n L F) r j).Within 6326000 from Gau.mul_within (Gau.conj_within (gain_small hg)) (adjF_within (detE_zero h0).1 (detE_zero h0).2.1 (detE_zero h0).2.2 r j)))
  obtain ⟨D, hD⟩ : ∃ z, detV n L F = z := ⟨_, rfl⟩
  obtain ⟨E, hE⟩ : ∃ z, eqE n L F k K Y = z := ⟨_, rfl⟩
  obtain ⟨G, hG⟩ : ∃ z, eqG n L F k K Y = z := ⟨_, rfl⟩
  obtain ⟨e1, he1⟩ : ∃ z, detE n L F = z := ⟨_, rfl⟩
  obtain ⟨e2, he2⟩ : ∃ z, laysE k K Y = z := ⟨_, rfl⟩
  simp only [hD, he1, he2] at HDT HLE HDW HDZ HLZ HE HEQ HEW
  simp only [hE, hG, hD] at HE HG ⊢
  have HGD := hide (show gainG D = D.re * D.re + D.im * D.im from rfl)
  obtain ⟨X, hX⟩ : ∃ z, eqF n F D = z := ⟨_, rfl⟩
  simp only [hX] at HE HEQ HEW ⊢
  obtain ⟨gn, hgn⟩ : ∃ z, gainG D = z := ⟨_, rfl⟩
  rw [hgn] at HE HG HGD HEW
  have hgl := gain_le HDW.out
  obtain ⟨dr, hdr⟩ : ∃ z, D.re = z := ⟨_, rfl⟩
  obtain ⟨di, hdi⟩ : ∃ z, D.im = z := ⟨_, rfl⟩
  simp only [hdr, hdi] at HDT HGD HEQ hgl
  obtain ⟨rr, hrr⟩ : ∃ z, dr * dr = z := ⟨_, rfl⟩
  obtain ⟨ii, hii⟩ : ∃ z, di * di = z := ⟨_, rfl⟩
  rw [hrr, hii] at HGD hgl
  have q1 : IntKind.i64.wrap (dr * dr) = rr := by rw [hrr]; exact IntWalk.i64_in _ (by omega)
  have q2 : IntKind.i64.wrap (di * di) = ii := by rw [hii]; exact IntWalk.i64_in _ (by omega)
  have q3 : IntKind.i64.wrap (rr + ii) = gn := by rw [HGD.out]; exact IntWalk.i64_in _ (by omega)
  clear hI hJ hD hE hG he1 he2 hX hgn hdr hdi hrr hii HGD hgl HDW
  go_enter Tryz.func26, Tryz.ntmps26
  go_wp2_with fail
  refine (HDT.out _ HI.out).mono ?_
  rintro e w1 ⟨rfl, hb1⟩
  have HB := hide hb1
  clear hb1 HDT
  go_upto_region 2 with fail
  obtain ⟨b7, hb7⟩ : ∃ z, w1.heap.size = z := ⟨_, rfl⟩
  obtain ⟨w2, hw2⟩ : ∃ z : World, z = w1.alloc (.cells #[.int .i64 dr, .int .i64 di] 62) := ⟨_, rfl⟩
  try rw [← hw2]
  have HX := hide (show Box w2 b7 62 #[.int .i64 dr, .int .i64 di] by rw [hw2]; exact Box.made hb7.symm)
  replace HB := hide (show Below w.heap.size w w2 by rw [hw2]; exact HB.out.alloc HB.out.size _)
  try simp only [hb7]
  clear hw2 hb7
  go_wp2_with (go_at_call 66; refine (HLE.out _ (HJ.out.below HB.out)).mono ?_; rintro e_ w3 ⟨rfl, hb3⟩; replace HX := hide (HX.out.below hb3); replace HB := hide (HB.out.trans (hb3.mono HB.out.size)); clear HLE hb3)
  refine (orS_two e1 e2 _ _ _ (by first | exact (Box.made rfl : Box _ _ _ #[_, _]).at_ 0) (by first | exact (Box.made rfl : Box _ _ _ #[_, _]).at_ 1)).mono ?_
  rintro e_ w4 ⟨rfl, hw4⟩
  replace HX := hide (show Box w4 b7 62 #[.int .i64 dr, .int .i64 di] by rw [← hw4]; exact HX.out.alloc _)
  replace HB := hide (show Below w.heap.size w w4 by rw [← hw4]; exact HB.out.alloc HB.out.size _)
  clear hw4
  by_cases hor : orS e1 e2 = 0
  case neg =>
    have hEE : E = orS e1 e2 := HE.out.trans (if_neg hor)
    have hG0 : G = 0 := HG.out.trans (if_neg (by rw [hEE]; exact hor))
    obtain ⟨s, hs⟩ : ∃ z, orS e1 e2 = z := ⟨_, rfl⟩
    rw [hs] at hor hEE ⊢
    subst hEE
    subst hG0
    have HNE := hide hor
    have ts : (E != 0) = true := by simpa using hor
    clear HE HG HEQ HEW HDZ HLZ hs hor
    go_wp2_with fail
    go_ret3
    exact ⟨_, rfl, ⟨fun h => absurd h HNE.out, fun _ => rfl⟩, HB.out⟩
  have hz1 : e1 = 0 := by unfold orS at hor; by_cases h : e1 = 0; exact h; rw [if_neg h] at hor; exact absurd hor h
  have hz2 : e2 = 0 := by unfold orS at hor; rw [if_pos hz1] at hor; exact hor
  rw [if_pos hor] at HE
  rw [hor]
  obtain ⟨hok, hnl, hn2⟩ := HDZ.out hz1
  have hlk := HLZ.out hz2
  have HZ1 := hide hz1
  have HNL := hide hnl
  clear hor hz2 HDZ HLZ hnl hz1
  have t0 : ((0 : Int) != 0) = false := by decide
  obtain ⟨x0, x1, -, -, hlx⟩ := HX.out.t2
  by_cases hkn : k = n
  case neg =>
    rw [if_neg hkn] at HE
    have hEE : E = 13 := HE.out
    have hG0 : G = 0 := HG.out.trans (if_neg (by rw [hEE]; decide))
    subst hEE
    subst hG0
    have tk : ((k : Int) != (n : Int)) = true := by simp; omega
    clear HE HG HEQ HEW hok hlk
    go_wp2_with fail
    go_ret3
    exact ⟨_, rfl, ⟨fun h => absurd h (by decide), fun _ => rfl⟩, HB.out⟩
  rw [if_pos hkn] at HE
  have tk : ((k : Int) != (n : Int)) = false := by simp; omega
  have HKN := hide hkn
  clear hkn
  by_cases hg0 : gn = 0
  case pos =>
    rw [if_pos hg0] at HE
    have hEE : E = 27 := HE.out
    have hG0 : G = 0 := HG.out.trans (if_neg (by rw [hEE]; decide))
    subst hEE
    subst hG0
    have tg : (gn == 0) = true := by simpa using hg0
    clear HE HG HEQ HEW hok hlk hg0
    go_wp2_with fail
    go_ret3
    exact ⟨_, rfl, ⟨fun h => absurd h (by decide), fun _ => rfl⟩, HB.out⟩
  rw [if_neg hg0] at HE
  have tg : (gn == 0) = false := by simpa using hg0
  by_cases hg1 : 10000000 < gn
  case pos =>
    rw [if_pos hg1] at HE
    have hEE : E = 8 := HE.out
    have hG0 : G = 0 := HG.out.trans (if_neg (by rw [hEE]; decide))
    subst hEE
    subst hG0
    clear HE HG HEQ HEW hok hlk hg0
    go_wp2_with fail
    go_ret3
    exact ⟨_, rfl, ⟨fun h => absurd h (by decide), fun _ => rfl⟩, HB.out⟩
  rw [if_neg hg1] at HE
  have hew := HEW.out HZ1.out (by omega)
  have HLQ := hide (fun i (hi : i < k) => hlk.len i hi)
  obtain ⟨q, hq⟩ : ∃ z, K 0 = z := ⟨_, rfl⟩
  rw [hq] at HE hlk HLQ
  have HQK := hide hq
  have HJQ := hide (fun W (h : MatsAt W 0 C k K Y) => (show MatsAt W 0 C k (fun _ => q) Y from fun i hi => by
    obtain ⟨b, o, Ai, ci, e1, e2, e3, e4, e5, e6, e7⟩ := h i hi
    rw [HLQ.out i hi] at e4 e5 e7
    exact ⟨b, o, Ai, ci, e1, e2, e3, e4, e5, e6, e7⟩))
  have hn1 := hok.n1
  obtain ⟨bA, oA, rfl⟩ : ∃ b o, A = some ⟨b, o, none⟩ := by obtain ⟨b, o, -, -, e, -⟩ := HI.out 0 (by omega); exact ⟨b, o, e⟩
  obtain ⟨bC, oC, rfl⟩ : ∃ b o, C = some ⟨b, o, none⟩ := by obtain ⟨b, o, -, -, e, -⟩ := HJ.out 0 (by have := HKN.out; omega); exact ⟨b, o, e⟩
  have HLP := hide (fun g W (hA : MatsAt W 0 (some ⟨g, 0, none⟩) n (fun _ => n) X) (hC : MatsAt W 0 (some ⟨bC, oC, none⟩) k (fun _ => q) Y) => limitedProduct_any g 0 bC oC n n k q n cb X Y 6326000 100000000 100000000 W hn1 (by omega) hn1 (by omega) (by have := HKN.out; omega) hlk.q1 (by have := hlk.q9; omega) (by decide) (by decide) (by decide) (by decide) (by decide) (by decide) hA hC (fun r j _ _ => hew r j) (fun j c hj hc => hlk.inside j c hj hc))
  have HLP2 := hide (show lpE 100000000 n n k q X Y = E by unfold lpE; rw [if_pos HKN.out.symm]; exact HE.out.symm)
  rw [HLP2.out] at HLP
  clear HE HEW hew hok hlk hq HLQ HLP2 hg0
  go_wp2_with fail
  clear x0 x1 hlx
  refine (HEQ.out bA oA _ (HI.out.below HB.out) HZ1.out).mono ?_
  rintro e w5 ⟨gm, gs, rfl, hm5, hb5⟩
  replace HB := hide (HB.out.trans (hb5.mono HB.out.size))
  have HM := hide (hm5.mats.weak (Nat.zero_le _))
  clear hm5 hb5 HEQ HX
  go_wp2_with fail
  refine (HLP.out gm _ HM.out (HJQ.out _ (HJ.out.below HB.out))).mono ?_
  rintro e w6 ⟨v, rfl, hgv, hb6⟩
  have hs5 := HB.out.size
  replace HB := hide (HB.out.trans (hb6.mono HB.out.size))
  clear hb6 HM HLP
  by_cases hE0 : E = 0
  case neg =>
    have hG0 : G = 0 := HG.out.trans (if_neg hE0)
    subst hG0
    obtain rfl := hgv.2 hE0
    have tE : (E != 0) = true := by simpa using hE0
    have HNE := hide hE0
    clear HG hgv hE0
    go_wp2_with fail
    go_ret3
    exact ⟨_, rfl, ⟨fun h => absurd h HNE.out, fun _ => rfl⟩, HB.out⟩
  subst hE0
  have hG0 : G = gn := HG.out.trans (if_pos rfl)
  subst hG0
  obtain ⟨gl, rfl, hml⟩ := hgv.1 rfl
  have HML := hide (hml.weak hs5)
  clear HG hgv hml
  go_wp2_with fail
  go_ret3
  exact ⟨_, rfl, ⟨fun _ => ⟨gl, rfl, by rw [HQK.out]; exact HML.out⟩, fun h => absurd rfl h⟩, HB.out⟩
end Go.Proofs.YtcdplfjegopmdaaGreat
