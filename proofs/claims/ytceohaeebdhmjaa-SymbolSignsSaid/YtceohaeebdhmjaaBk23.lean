/- Lemmas: S71, S72, S73. -/
import Derived.Test.YtceohaeebdhmjaaBk06
import Derived.Test.YtceohaeebdhmjaaBk13
import Derived.Test.YtceohaeebdhmjaaBk22
set_option linter.unusedVariables false
set_option linter.unusedSimpArgs false
/- applied of the reference. -/
namespace Go.Proofs.Ytceohaeebdhmjaa
open Go Go.RowKit Go.Lib
theorem MatsAt.len {w : World} {lo n m : Nat} {A : Option Addr} {L : Nat → Nat} {F : Nat → Nat → Gau} (h : MatsAt w lo A n L F) (e : ∀ i, i < n → L i = m) : MatsAt w lo A n (fun _ => m) F := fun i hi => by
  obtain ⟨b, o, Ai, ci, e1, h1, h2, h3, h4, h5, h6⟩ := h i hi
  rw [e i hi] at h3 h4 h6
  exact ⟨b, o, Ai, ci, e1, h1, h2, h3, h4, h5, h6⟩
set_option maxHeartbeats 16000000 in
set_option maxRecDepth 100000 in
theorem appliedR_any (a ao b bo n m q ca cb : Nat) (X Y : Nat → Nat → Gau) (M N : Int) (w : World) (hn4 : n ≤ 1000) (hm1 : 1 ≤ m) (hm4 : m ≤ 4) (hq1 : 1 ≤ q) (hq9 : q ≤ 1000) (hM : 0 ≤ M) (hN : 0 ≤ N) (hMN : M * N ≤ 1000000000000000000)
    (hA : MatsAt w 0 (some ⟨a, ao, none⟩) n (fun _ => m) X) (hC : MatsAt w 0 (some ⟨b, bo, none⟩) m (fun _ => q) Y) (hX : ∀ r k, r < n → k < m → (X r k).Within M) (hY : ∀ k c, k < m → c < q → (Y k c).Within N) :
    Calls Try.prog 66 #[.slice (some ⟨a, ao, none⟩) n ca, .slice (some ⟨b, bo, none⟩) m cb] w fun e w' => ∃ v V, e = .returned v ∧ OwnPlane w' w.heap.size v n V (fun _ => q) (fun r c => gsum X Y r c m) ∧ Below w.heap.size w w' := by
  have HA := hide hA
  have HC := hide hC
  have HXW := hide hX
  have HYW := hide hY
  have h0 : 0 ≤ M * N := Int.mul_nonneg hM hN
  have HGS := hide (fun (r c k : Nat) (hr : r < n) (hc : c < q) (hk : k ≤ m) => (gsum_within (X := X) (Y := Y) (r := r) (c := c) (M := M) (N := N) (k := k) fun i hi => ⟨hX r i hr (by omega), hY i c (by omega) hc⟩).more (N := 8000000000000000000) (by have : (k : Int) * (2 * (M * N)) ≤ 4 * (2 * (M * N)) := Int.mul_le_mul_of_nonneg_right (by omega) (by omega); omega))
  have HMU := hide (fun r k c W (hr : r < n) (hk : k < m) (hc : c < q) => gmulS_any (X r k) (Y k c) M N W (hX r k hr hk) (hY k c hk hc) (by omega))
  have HST := hide (show ∀ r c k, gsum X Y r c (k + 1) = (gsum X Y r c k).plus ((X r k).mul (Y k c)) from fun _ _ _ => rfl)
  have HZ := hide (show ∀ r c, gsum X Y r c 0 = Gau.zero from fun _ _ => rfl)
  obtain ⟨S, hS⟩ : ∃ z, gsum X Y = z := ⟨_, rfl⟩
  simp only [hS] at HGS HST HZ ⊢
  clear hS hA hC hX hY hMN h0 hM hN
  go_enter Try.func66, Try.ntmps66
  go_wp2_with fail
  go_loopw [5, 6, 7, 8, 9, 10] (fun v i _ _ _ _ wr => ∃ (r : Nat) (V : Nat → Value), r ≤ n ∧ i = .int .i64 (r : Int) ∧ Hid (OwnPlane wr w.heap.size v r V (fun _ => q) (fun r c => S r c m)) ∧ Hid (Below w.heap.size w wr)) (fun _ i _ _ _ _ _ => n - (Go.RowKit.intOf i).toNat)
  case atStart => exact ⟨0, fun _ => .slice none 0 0, Nat.zero_le _, rfl, hide (OwnPlane.nil_ _ _ _ _ _), hide (Below.refl _ _)⟩
  case round =>
    obtain ⟨r, V, hr, rfl, HV, HB⟩ := hrel
    obtain ⟨wR, rfl⟩ : ∃ x : World, x = wr := ⟨_, rfl⟩
    by_cases hlt : r < n
    case neg =>
      obtain rfl : n = r := by omega
      have hltz : ¬ (n : Int) < (n : Int) := by omega
      clear HA HC HXW HYW HGS HST HZ HMU
      go_wp2_with fail
      go_ret
      first | exact ⟨_, rfl, ⟨V, HV.out⟩, HB.out⟩ | exact ⟨_, V, rfl, HV.out, HB.out⟩ | exact ⟨⟨V, HV.out⟩, HB.out⟩
    have hltz : (r : Int) < (n : Int) := by omega
    obtain ⟨Av, cv, rfl, hcv, hcv9, -⟩ := HV.out.form
    obtain ⟨Ar, cr, y0, hc1, hc2, hRow, -, -⟩ := mat_row HA.out hlt
    obtain ⟨ba, oa, rfl, -, -⟩ := gaus_some hRow (by omega)
    have HY0 := hide (fun W (h : Below w.heap.size w W) => bcellW h y0)
    have HRW := hide hRow
    obtain ⟨Ab, cb0, y1, hd1, hd2, -, -, -⟩ := mat_row HC.out hm1
    simp only [Nat.add_zero] at y1
    have HY1 := hide (fun W (h : Below w.heap.size w W) => bcellW h y1)
    clear y0 y1 hRow
    obtain ⟨B2, hB2⟩ : ∃ z, wR.heap.size = z := ⟨_, rfl⟩
    have hB2w : w.heap.size ≤ B2 := by rw [← hB2]; exact HB.out.size
    have HP := hide (OwnGaus.nil_ wR B2 (fun c => S r c m))
    have HW := hide (show Below B2 wR wR by rw [← hB2]; exact Below.refl _ _)
    go_wp2_with fail
    go_loopw [7, 8, 9, 10] (fun p i _ _ wr => ∃ c : Nat, c ≤ q ∧ i = .int .i64 (c : Int) ∧ Hid (OwnGaus wr B2 p c (fun c => S r c m)) ∧ Hid (Below B2 wR wr)) (fun _ i _ _ _ => q - (Go.RowKit.intOf i).toNat)
    case atStart => exact ⟨0, Nat.zero_le _, rfl, HP, HW⟩
    case round =>
      clear HP HW
      obtain ⟨c, hc, rfl, HP, HW⟩ := hrel
      obtain ⟨wC, rfl⟩ : ∃ x : World, x = wr := ⟨_, rfl⟩
      have HBC := hide (HB.out.trans (HW.out.mono hB2w))
      obtain ⟨Ap, cp, rfl, hcp, -⟩ := ownGaus_form HP.out
      have y1 := HY1.out _ HBC.out
      have hsC : B2 ≤ wC.heap.size := by rw [← hB2]; exact HW.out.size
      by_cases hltc : c < q
      case neg =>
        obtain rfl : q = c := by omega
        have hltcz : ¬ (q : Int) < (q : Int) := by omega
        clear HA HC HXW HYW HGS HST HZ HMU HY0 HY1 HRW
        have HVC := hide (HV.out.below (by rw [hB2]; exact HW.out))
        have hvl := fun g h => HV.out.lt (k := g) h
        have hVl := fun i g (hi : i < r) h => (HV.out.2.1 i hi).1.blockLt (k := g) h
        rw [hB2] at hvl hVl
        have hpl := fun g h => HP.out.blockLt (k := g) h
        have HA1 := hide (show (Value.slice Ap q cp).ownBlock = none ∨ (Value.slice Ap q cp).ownBlock ≠ (Value.slice Av r cv).ownBlock by
          rcases hq9 : (Value.slice Ap q cp).ownBlock with _ | k
          · exact .inl rfl
          · exact .inr (fun z => (by have h1 := hpl k hq9; have h2 := hvl k z.symm; omega)))
        have HA2 := hide (show ∀ i, i < r → ((V i).ownBlock = none ∨ (V i).ownBlock ≠ (Value.slice Ap q cp).ownBlock) ∧ ((Value.slice Ap q cp).ownBlock = none ∨ (Value.slice Ap q cp).ownBlock ≠ (V i).ownBlock) from fun i hi => by
          rcases hq9 : (Value.slice Ap q cp).ownBlock with _ | k
          · exact ⟨by rcases hz : (V i).ownBlock with _ | j; exact .inl rfl; exact .inr (by simp), .inl rfl⟩
          · exact ⟨.inr (fun z => (by have h1 := hpl k hq9; have h2 := hVl i k hi z; omega)), .inr (fun z => (by have h1 := hpl k hq9; have h2 := hVl i k hi z.symm; omega))⟩)
        have HP3 := hide (HP.out.weak hB2w)
        clear hvl hVl hpl
        go_wp2_with (at_builtin; refine wpList_append_plane _ rfl (.tmp 52) (.tmp 54) rfl w.heap.size (.slice Av r cv) r V (fun _ => q) _ rfl (HVC.out.alloc _) wC.heap.size (.slice Ap q cp) q (fun c => S r c m) rfl ((Box.made rfl : Box _ wC.heap.size 22 #[.slice Ap q cp]).at_ 0) (HP3.out.alloc _) rfl HA1.out HA2.out (by omega) (by have := HBC.out.size; simp; omega) ?_; intro v' w' h1 hb3)
        obtain ⟨An, cn, rfl, -, -, -⟩ := h1.form
        have HV2 := hide (h1.congr (V' := snocV r V (.slice Ap q cp)) (L' := fun _ => q) (F' := fun r c => S r c m) (fun i hi => by
          unfold snocL snocG
          by_cases e : i < r
          · rw [if_pos e, if_pos e]; exact ⟨rfl, rfl, fun _ _ => rfl⟩
          · obtain rfl : i = r := by omega
            rw [if_neg e, if_neg e]; exact ⟨rfl, rfl, fun _ _ => rfl⟩))
        have HB2 := hide ((HBC.out.alloc HBC.out.size (.cells #[.slice Ap q cp] 22)).trans hb3)
        clear h1 hb3
        go_roundw
        case rel => exact ⟨r + 1, _, by omega, by go_num, HV2, HB2⟩
        case measure => simp [Go.RowKit.intOf]; omega
      have hltcz : (c : Int) < (q : Int) := by omega
      go_upto_region 10 with fail
      clear y1
      obtain ⟨b9, hb9⟩ : ∃ z, wC.heap.size = z := ⟨_, rfl⟩
      obtain ⟨w1, hw1⟩ : ∃ z : World, z = wC.alloc (.cells #[.int .i64 0, .int .i64 0] 43) := ⟨_, rfl⟩
      try rw [← hw1]
      try simp only [hb9]
      have HX0 := hide (show Box w1 b9 43 #[.int .i64 (S r c 0).re, .int .i64 (S r c 0).im] by rw [HZ.out, hw1]; exact Box.made hb9.symm)
      have HCC := hide (show Below b9 wC w1 by rw [hw1, ← hb9]; (repeat (first | (with_reducible exact Below.refl _ _) | (with_reducible refine Go.below_drewN ?_ _) | (with_reducible refine Below.drew ?_) | (with_reducible refine Below.alloc ?_ (by first | exact Nat.le_refl _ | (simp; done) | (simp; omega) | omega) _) | (with_reducible refine Below.setCell ?_ (by first | exact Nat.le_refl _ | (simp; done) | (simp; omega) | omega) _))))
      rw [hb9] at hsC
      have hb9w : w.heap.size ≤ b9 := Nat.le_trans hB2w hsC
      clear hw1
      go_wp2_with fail
      go_loopw [10] (fun i wr => ∃ k : Nat, k ≤ m ∧ i = .int .i64 (k : Int) ∧ Hid (Box wr b9 43 #[.int .i64 (S r c k).re, .int .i64 (S r c k).im]) ∧ Hid (Below b9 wC wr)) (fun i _ => m - (Go.RowKit.intOf i).toNat)
      case atStart => exact ⟨0, Nat.zero_le _, rfl, HX0, HCC⟩
      case round =>
        clear HX0 HCC
        obtain ⟨k, hk, rfl, HS, HCC⟩ := hrel
        obtain ⟨wK, rfl⟩ : ∃ x : World, x = wr := ⟨_, rfl⟩
        have HBK := hide (HBC.out.trans (HCC.out.mono hb9w))
        by_cases hltk : k < m
        case neg =>
          obtain rfl : m = k := by omega
          have hltkz : ¬ (m : Int) < (m : Int) := by omega
          clear HA HC HXW HYW HGS HST HZ HMU HY0 HY1 HRW
          have HPK := hide (HP.out.below (by rw [hb9]; exact HCC.out))
          have HWK := hide (HW.out.trans (HCC.out.mono hsC))
          obtain ⟨y2, y3⟩ := pairS_cells HS.out
          have hlb := HS.out.lt
          obtain ⟨x, hx⟩ : ∃ z, S r c m = z := ⟨_, rfl⟩
          rw [hx] at y2 y3
          have HX := hide hx
          clear hx HS
          go_wp2_with (at_builtin; refine wpList_append_gaus _ rfl (.tmp 48) (.tmp 50) rfl B2 0 (.slice Ap c cp) c _ rfl (HPK.out.alloc _) (some ⟨wK.heap.size, 0, none⟩) 1 1 (fun _ => x) rfl (GausAt.one (Box.made rfl)) (by omega) (by have := HWK.out.size; simp; omega) ?_; intro v' w' g1 g2; obtain ⟨D, d, rfl, -, -⟩ := ownGaus_form g1)
          have HP2 := hide (g1.congr (G := fun c => S r c m) (fun i hi => by
            unfold catG
            by_cases e : i < c
            · rw [if_pos e]
            · rw [if_neg e, show i = c by omega]; exact HX.out.symm))
          have HW2 := hide ((HWK.out.alloc (by have := HWK.out.size; omega) (.cells #[.int .i64 x.re, .int .i64 x.im] 43)).trans g2)
          clear g1 g2 HP HW
          go_roundw
          case rel => exact ⟨c + 1, by omega, by go_num, HP2, HW2⟩
          case measure => simp [Go.RowKit.intOf]; omega
        have hltkz : (k : Int) < (m : Int) := by omega
        obtain ⟨x2, x3⟩ := gaus_at HRW.out hltk
        obtain ⟨Ak, ck, z1, hd3, hd4, hYr, -, -⟩ := mat_row HC.out hltk
        obtain ⟨bb, ob, rfl, -, -⟩ := gaus_some hYr (by omega)
        obtain ⟨z2, z3⟩ := gaus_at hYr hltc
        have hst := HST.out r c k
        have hgw := HGS.out r c (k + 1) hlt hltc (by omega)
        rw [hst] at hgw
        have HMK := hide (fun W => HMU.out r k c W hlt hltk hltc)
        have HAK := hide (fun W => gaddS_any (S r c k) ((X r k).mul (Y k c)) 8000000000000000000 W hgw (by decide))
        rw [← hst] at HAK
        obtain ⟨s, hs⟩ : ∃ z, S r c k = z := ⟨_, rfl⟩
        obtain ⟨t, ht⟩ : ∃ z, S r c (k + 1) = z := ⟨_, rfl⟩
        obtain ⟨p, hp⟩ : ∃ z, (X r k).mul (Y k c) = z := ⟨_, rfl⟩
        rw [hs] at HS HAK
        rw [ht, hp] at HAK
        rw [hp] at HMK
        obtain ⟨xr, hxr⟩ : ∃ z, (X r k).re = z := ⟨_, rfl⟩
        obtain ⟨xi, hxi⟩ : ∃ z, (X r k).im = z := ⟨_, rfl⟩
        obtain ⟨yr, hyr⟩ : ∃ z, (Y k c).re = z := ⟨_, rfl⟩
        obtain ⟨yi, hyi⟩ : ∃ z, (Y k c).im = z := ⟨_, rfl⟩
        simp only [hxr, hxi, hyr, hyi] at x2 x3 z2 z3 HMK
        have HT := hide ht
        clear hxr hxi hyr hyi hs ht hp hst hgw hYr
        have HYC := hide (fun W1 (h : Below w.heap.size w W1) => (⟨HY0.out _ h, bcellW h x2, bcellW h x3, bcellW h z1, bcellW h z2, bcellW h z3⟩ : W1.cell? ⟨a, ao + r, none⟩ = some (.slice (some ⟨ba, oa, none⟩) m cr) ∧ W1.cell? ⟨ba, oa + k * 2, none⟩ = some (.int .i64 xr) ∧ W1.cell? ⟨ba, oa + k * 2 + 1, none⟩ = some (.int .i64 xi) ∧ W1.cell? ⟨b, bo + k, none⟩ = some (.slice (some ⟨bb, ob, none⟩) q ck) ∧ W1.cell? ⟨bb, ob + c * 2, none⟩ = some (.int .i64 yr) ∧ W1.cell? ⟨bb, ob + c * 2 + 1, none⟩ = some (.int .i64 yi)))
        clear x2 x3 z1 z2 z3
        go_upto_region 13 with fail
        refine wp_region_held_drew (S := fun w' => w'.cell? ⟨a, ao + r, none⟩ = some (.slice (some ⟨ba, oa, none⟩) m cr) ∧ w'.cell? ⟨ba, oa + k * 2, none⟩ = some (.int .i64 xr) ∧ w'.cell? ⟨ba, oa + k * 2 + 1, none⟩ = some (.int .i64 xi) ∧ w'.cell? ⟨b, bo + k, none⟩ = some (.slice (some ⟨bb, ob, none⟩) q ck) ∧ w'.cell? ⟨bb, ob + c * 2, none⟩ = some (.int .i64 yr) ∧ w'.cell? ⟨bb, ob + c * 2 + 1, none⟩ = some (.int .i64 yi)) (by kernel_rfl) (HYC.out _ HBK.out.drew) (fun hHeld => ?_)
        obtain ⟨w_1, hw_1⟩ : ∃ q : World, q = wK.drew := ⟨_, rfl⟩
        rw [← hw_1] at hHeld ⊢
        have hc_1 : Below wK.heap.size wK w_1 := by rw [hw_1]; exact (Below.refl _ _).drew
        clear hw_1
        replace HS := hide (HS.out.below hc_1)
        replace HCC := hide (HCC.out.trans (hc_1.mono (by have := HCC.out.size; omega)))
        replace HBK := hide (HBK.out.trans (hc_1.mono (by have := HBK.out.size; omega)))
        clear hc_1
        refine wpAnyH_take (i := 1) (oi := ⟨some 32, _, _, _, _, _⟩) (v := ?_) rfl (by kernel_rfl) (by kernel_rfl) (by kernel_rfl) (fun _ _ _ h => h) (Or.inl ⟨by rfl, ?_⟩) (by assumption) ?_
        rotate_left
        · (intro w' hSw; (try dsimp only at hSw); go_simp <;> (with_reducible rfl))
        try simp only [Act.put, List.setIfInBounds_toArray, List.set_cons_zero, List.set_cons_succ]
        refine wpAnyH_take (i := 2) (oi := ⟨some 33, _, _, _, _, _⟩) (v := ?_) rfl (by kernel_rfl) (by kernel_rfl) (by kernel_rfl) (fun _ _ _ h => h) (Or.inl ⟨by rfl, ?_⟩) (by assumption) ?_
        rotate_left
        · (intro w' hSw; (try dsimp only at hSw); go_simp <;> (with_reducible rfl))
        try simp only [Act.put, List.setIfInBounds_toArray, List.set_cons_zero, List.set_cons_succ]
        refine wpAnyH_take (i := 3) (oi := ⟨some 34, _, _, _, _, _⟩) (v := ?_) rfl (by kernel_rfl) (by kernel_rfl) (by kernel_rfl) (fun _ _ _ h => h) (Or.inl ⟨by rfl, ?_⟩) (by assumption) ?_
        rotate_left
        · (intro w' hSw; (try dsimp only at hSw); go_simp <;> (with_reducible rfl))
        try simp only [Act.put, List.setIfInBounds_toArray, List.set_cons_zero, List.set_cons_succ]
        refine wpAnyH_take (i := 4) (oi := ⟨some 35, _, _, _, _, _⟩) (v := ?_) rfl (by kernel_rfl) (by kernel_rfl) (by kernel_rfl) (fun _ _ _ h => h) (Or.inl ⟨by rfl, ?_⟩) (by assumption) ?_
        rotate_left
        · (intro w' hSw; (try dsimp only at hSw); go_simp <;> (with_reducible rfl))
        try simp only [Act.put, List.setIfInBounds_toArray, List.set_cons_zero, List.set_cons_succ]
        refine wpAnyH_take (i := 5) (oi := ⟨some 36, _, _, _, _, _⟩) (v := ?_) rfl (by kernel_rfl) (by kernel_rfl) (by kernel_rfl) (fun _ _ _ h => h) (Or.inl ⟨by rfl, ?_⟩) (by assumption) ?_
        rotate_left
        · (intro w' hSw; (try dsimp only at hSw); go_simp <;> (with_reducible rfl))
        try simp only [Act.put, List.setIfInBounds_toArray, List.set_cons_zero, List.set_cons_succ]
        refine wpAnyH_take (i := 6) (oi := ⟨some 37, _, _, _, _, _⟩) (v := ?_) rfl (by kernel_rfl) (by kernel_rfl) (by kernel_rfl) (fun _ _ _ h => h) (Or.inl ⟨by rfl, ?_⟩) (by assumption) ?_
        rotate_left
        · (intro w' hSw; (try dsimp only at hSw); go_simp <;> (with_reducible rfl))
        try simp only [Act.put, List.setIfInBounds_toArray, List.set_cons_zero, List.set_cons_succ]
        refine wpAnyH_take (i := 7) (oi := ⟨some 38, _, _, _, _, _⟩) (v := ?_) rfl (by kernel_rfl) (by kernel_rfl) (by kernel_rfl) (fun _ _ _ h => h) (Or.inl ⟨by rfl, ?_⟩) (by assumption) ?_
        rotate_left
        · (intro w' hSw; (try dsimp only at hSw); go_simp <;> (with_reducible rfl))
        try simp only [Act.put, List.setIfInBounds_toArray, List.set_cons_zero, List.set_cons_succ]
        refine wpAnyH_take (i := 8) (oi := ⟨some 39, _, _, _, _, _⟩) (v := ?_) rfl (by kernel_rfl) (by kernel_rfl) (by kernel_rfl) (fun _ _ _ h => h) (Or.inl ⟨by rfl, ?_⟩) (by assumption) ?_
        rotate_left
        · (intro w' hSw; (try dsimp only at hSw); go_simp <;> (with_reducible rfl))
        try simp only [Act.put, List.setIfInBounds_toArray, List.set_cons_zero, List.set_cons_succ]
        refine wpAnyH_take (i := 9) (oi := ⟨some 40, _, _, _, _, _⟩) (v := ?_) rfl (by kernel_rfl) (by kernel_rfl) (by kernel_rfl) (fun _ _ _ h => h) (Or.inl ⟨by rfl, ?_⟩) (by assumption) ?_
        rotate_left
        · (intro w' hSw; (try dsimp only at hSw); go_simp <;> (with_reducible rfl))
        try simp only [Act.put, List.setIfInBounds_toArray, List.set_cons_zero, List.set_cons_succ]
        refine wpAnyH_take (i := 10) (oi := ⟨some 41, _, _, _, _, _⟩) (v := ?_) rfl (by kernel_rfl) (by kernel_rfl) (by kernel_rfl) (fun _ _ _ h => h) (Or.inl ⟨by rfl, ?_⟩) (by assumption) ?_
        rotate_left
        · (intro w' hSw; (try dsimp only at hSw); go_simp <;> (with_reducible rfl))
        try simp only [Act.put, List.setIfInBounds_toArray, List.set_cons_zero, List.set_cons_succ]
        refine wpAnyH_take (i := 11) (oi := ⟨some 42, _, _, _, _, _⟩) (v := ?_) rfl (by kernel_rfl) (by kernel_rfl) (by kernel_rfl) (fun _ _ _ h => h) (Or.inl ⟨by rfl, ?_⟩) (by assumption) ?_
        rotate_left
        · (intro w' hSw; (try dsimp only at hSw); go_simp <;> (with_reducible rfl))
        try simp only [Act.put, List.setIfInBounds_toArray, List.set_cons_zero, List.set_cons_succ]
        refine wpAnyH_take (i := 12) (oi := ⟨some 43, _, _, _, _, _⟩) (v := ?_) rfl (by kernel_rfl) (by kernel_rfl) (by kernel_rfl) (fun _ _ _ h => h) (Or.inl ⟨by rfl, ?_⟩) (by assumption) ?_
        rotate_left
        · (intro w' hSw; (try dsimp only at hSw); go_simp <;> (with_reducible rfl))
        try simp only [Act.put, List.setIfInBounds_toArray, List.set_cons_zero, List.set_cons_succ]
        refine wpAnyH_take (i := 13) (oi := ⟨some 44, _, _, _, _, _⟩) (v := ?_) rfl (by kernel_rfl) (by kernel_rfl) (by kernel_rfl) (fun _ _ _ h => h) (Or.inl ⟨by rfl, ?_⟩) (by assumption) ?_
        rotate_left
        · (intro w' hSw; (try dsimp only at hSw); go_simp <;> (with_reducible rfl))
        try simp only [Act.put, List.setIfInBounds_toArray, List.set_cons_zero, List.set_cons_succ]
        refine wpAnyH_take (i := 14) (oi := ⟨some 45, _, _, _, _, _⟩) (v := ?_) rfl (by kernel_rfl) (by kernel_rfl) (by kernel_rfl) (fun _ _ _ h => h) (Or.inl ⟨by rfl, ?_⟩) (by assumption) ?_
        rotate_left
        · (intro w' hSw; (try dsimp only at hSw); go_simp <;> (with_reducible rfl))
        try simp only [Act.put, List.setIfInBounds_toArray, List.set_cons_zero, List.set_cons_succ]
        refine wpAnyH_ready (rs := [0, 15]) (by kernel_rfl) (by simp) ?_
        refine AllReadyH.cons (o := ⟨some 31, _, _, _, _, _⟩) rfl (fun K' hK => ?_) (AllReadyH.cons (o := ⟨some 46, _, _, _, _, _⟩) rfl (fun K' hK => ?_) AllReadyH.nil)
        · skip
          obtain ⟨y2, y3⟩ := pairS_cells HS.out
          go_simp
          clear y2 y3
          refine hK.out _ _ (HYC.out _ HBK.out) (fun hHeld => ?_)
          clear hK K'
          try simp only [Act.put, List.setIfInBounds_toArray, List.set_cons_zero, List.set_cons_succ]
          refine wpAnyH_ready (rs := [15]) (by kernel_rfl) (by simp) ?_
          refine AllReadyH.cons (o := ⟨some 46, _, _, _, _, _⟩) rfl (fun K' hK => ?_) AllReadyH.nil
          go_simp
          go_at_call 33
          refine (HMK.out _).mono ?_
          rintro e_ w_2 ⟨rfl, hb_2⟩
          replace HS := hide (HS.out.below hb_2)
          replace HCC := hide (HCC.out.trans (hb_2.mono (by have := HCC.out.size; omega)))
          replace HBK := hide (HBK.out.trans (hb_2.mono (by have := HBK.out.size; omega)))
          clear hb_2
          go_wp2_with fail
          refine hK.out _ _ (HYC.out _ HBK.out) (fun hHeld => ?_)
          clear hK K'
          try simp only [Act.put, List.setIfInBounds_toArray, List.set_cons_zero, List.set_cons_succ]
          refine wpAnyH_ready (rs := [16]) (by kernel_rfl) (by simp) ?_
          refine AllReadyH.cons (o := ⟨some 47, _, _, _, _, _⟩) rfl (fun K' hK => ?_) AllReadyH.nil
          go_simp
          go_at_call 97
          refine (HAK.out _).mono ?_
          rintro e_ w_3 ⟨rfl, hb_3⟩
          replace HS := hide (HS.out.below hb_3)
          replace HCC := hide (HCC.out.trans (hb_3.mono (by have := HCC.out.size; omega)))
          replace HBK := hide (HBK.out.trans (hb_3.mono (by have := HBK.out.size; omega)))
          clear hb_3
          go_wp2_with fail
          refine hK.out _ _ (HYC.out _ HBK.out) (fun hHeld => ?_)
          clear hK K'
          try simp only [Act.put, List.setIfInBounds_toArray, List.set_cons_zero, List.set_cons_succ]
          refine wpAnyH_ready (rs := [17]) (by kernel_rfl) (by simp) ?_
          refine AllReadyH.cons (o := ⟨none, _, _, _, _, _⟩) rfl (fun K' hK => ?_) AllReadyH.nil
          obtain ⟨y2, y3, f0, f1, hly⟩ := HS.out.t2
          go_simp
          clear y2 y3 f0 f1 hly
          have HS2 := hide (HS.out.t2put (.int .i64 t.re) (.int .i64 t.im))
          replace HCC := hide ((HCC.out.setCell (p := ⟨b9, 0, none⟩) (Nat.le_refl _) (.int .i64 t.re)).setCell (p := ⟨b9, 1, none⟩) (Nat.le_refl _) (.int .i64 t.im))
          replace HBK := hide ((HBK.out.setCell (p := ⟨b9, 0, none⟩) hb9w (.int .i64 t.re)).setCell (p := ⟨b9, 1, none⟩) hb9w (.int .i64 t.im))
          obtain ⟨w_4, hw_4⟩ : ∃ z : World, (w_3.setCell ⟨b9, 0, none⟩ (.int .i64 t.re)).setCell ⟨b9, 1, none⟩ (.int .i64 t.im) = z := ⟨_, rfl⟩
          rw [hw_4] at HS2 HCC HBK ⊢
          clear hw_4 HS
          have HS := HS2
          clear HS2
          refine hK.out _ _ (HYC.out _ HBK.out) (fun hHeld => ?_)
          clear hK K'
          try simp only [Act.put, List.setIfInBounds_toArray, List.set_cons_zero, List.set_cons_succ]
          refine wpAnyH_done (by kernel_rfl) ?_ _
          clear hHeld HYC
          rw [← HT.out] at HS
          go_wp2_with fail
          go_roundw
          case rel => exact ⟨k + 1, by omega, by go_num, HS, HCC⟩
          case measure => simp [Go.RowKit.intOf]; omega
        · skip
          go_simp
          go_at_call 33
          refine (HMK.out _).mono ?_
          rintro e_ w_5 ⟨rfl, hb_5⟩
          replace HS := hide (HS.out.below hb_5)
          replace HCC := hide (HCC.out.trans (hb_5.mono (by have := HCC.out.size; omega)))
          replace HBK := hide (HBK.out.trans (hb_5.mono (by have := HBK.out.size; omega)))
          clear hb_5
          go_wp2_with fail
          refine hK.out _ _ (HYC.out _ HBK.out) (fun hHeld => ?_)
          clear hK K'
          try simp only [Act.put, List.setIfInBounds_toArray, List.set_cons_zero, List.set_cons_succ]
          refine wpAnyH_ready (rs := [0]) (by kernel_rfl) (by simp) ?_
          refine AllReadyH.cons (o := ⟨some 31, _, _, _, _, _⟩) rfl (fun K' hK => ?_) AllReadyH.nil
          obtain ⟨y2, y3⟩ := pairS_cells HS.out
          go_simp
          clear y2 y3
          refine hK.out _ _ (HYC.out _ HBK.out) (fun hHeld => ?_)
          clear hK K'
          try simp only [Act.put, List.setIfInBounds_toArray, List.set_cons_zero, List.set_cons_succ]
          refine wpAnyH_ready (rs := [16]) (by kernel_rfl) (by simp) ?_
          refine AllReadyH.cons (o := ⟨some 47, _, _, _, _, _⟩) rfl (fun K' hK => ?_) AllReadyH.nil
          go_simp
          go_at_call 97
          refine (HAK.out _).mono ?_
          rintro e_ w_6 ⟨rfl, hb_6⟩
          replace HS := hide (HS.out.below hb_6)
          replace HCC := hide (HCC.out.trans (hb_6.mono (by have := HCC.out.size; omega)))
          replace HBK := hide (HBK.out.trans (hb_6.mono (by have := HBK.out.size; omega)))
          clear hb_6
          go_wp2_with fail
          refine hK.out _ _ (HYC.out _ HBK.out) (fun hHeld => ?_)
          clear hK K'
          try simp only [Act.put, List.setIfInBounds_toArray, List.set_cons_zero, List.set_cons_succ]
          refine wpAnyH_ready (rs := [17]) (by kernel_rfl) (by simp) ?_
          refine AllReadyH.cons (o := ⟨none, _, _, _, _, _⟩) rfl (fun K' hK => ?_) AllReadyH.nil
          obtain ⟨y2, y3, f0, f1, hly⟩ := HS.out.t2
          go_simp
          clear y2 y3 f0 f1 hly
          have HS2 := hide (HS.out.t2put (.int .i64 t.re) (.int .i64 t.im))
          replace HCC := hide ((HCC.out.setCell (p := ⟨b9, 0, none⟩) (Nat.le_refl _) (.int .i64 t.re)).setCell (p := ⟨b9, 1, none⟩) (Nat.le_refl _) (.int .i64 t.im))
          replace HBK := hide ((HBK.out.setCell (p := ⟨b9, 0, none⟩) hb9w (.int .i64 t.re)).setCell (p := ⟨b9, 1, none⟩) hb9w (.int .i64 t.im))
          obtain ⟨w_7, hw_7⟩ : ∃ z : World, (w_6.setCell ⟨b9, 0, none⟩ (.int .i64 t.re)).setCell ⟨b9, 1, none⟩ (.int .i64 t.im) = z := ⟨_, rfl⟩
          rw [hw_7] at HS2 HCC HBK ⊢
          clear hw_7 HS
          have HS := HS2
          clear HS2
          refine hK.out _ _ (HYC.out _ HBK.out) (fun hHeld => ?_)
          clear hK K'
          try simp only [Act.put, List.setIfInBounds_toArray, List.set_cons_zero, List.set_cons_succ]
          refine wpAnyH_done (by kernel_rfl) ?_ _
          clear hHeld HYC
          rw [← HT.out] at HS
          go_wp2_with fail
          go_roundw
          case rel => exact ⟨k + 1, by omega, by go_num, HS, HCC⟩
          case measure => simp [Go.RowKit.intOf]; omega
end Go.Proofs.Ytceohaeebdhmjaa
/- The reference: Applied, Product. -/
namespace Go.Proofs.Ytceohaeebdhmjaa
open Go Go.RowKit Go.Lib
theorem MatsAt.congr {w : World} {lo n : Nat} {A : Option Addr} {L L' : Nat → Nat} {F F' : Nat → Nat → Gau} (h : MatsAt w lo A n L F) (e : ∀ i, i < n → L i = L' i ∧ ∀ k, k < L i → F i k = F' i k) : MatsAt w lo A n L' F' := fun i hi => by
  obtain ⟨b, o, Ai, ci, e1, h1, h2, h3, h4, h5, h6⟩ := h i hi
  obtain ⟨e2, e3⟩ := e i hi
  exact ⟨b, o, Ai, ci, e1, h1, h2, by rw [← e2]; exact h3, by omega, h5, by rw [← e2]; exact h6.congr e3⟩
/-- A matrix of n rows of q where E is 0, else nothing. -/
def GotMat (w : World) (E : Int) (n q : Nat) (F : Nat → Nat → Gau) (v : Value) : Prop := ∃ A N c, v = .slice A N c ∧ N = (if E = 0 then n else 0) ∧ MatsAt w 0 A N (fun _ => q) F
theorem GotMat.nothing {w : World} {E : Int} {n q : Nat} {F : Nat → Nat → Gau} (h : E ≠ 0) : GotMat w E n q F (.slice none 0 0) := ⟨none, 0, 0, rfl, (if_neg h).symm, MatsAt.nil_⟩
theorem GaveMat.got {w w' : World} {E : Int} {n q : Nat} {F : Nat → Nat → Gau} {v : Value} (h : GaveMat w w' E n q F v) : GotMat w' E n q F v := by
  by_cases e : E = 0
  · obtain ⟨g, h1, h2⟩ := h.1 e
    exact ⟨_, n, n, h1, (if_pos e).symm, h2.weak (Nat.zero_le _)⟩
  · rw [h.2 e]; exact GotMat.nothing e
theorem rowsB_large {M : Int} {n q : Nat} {F : Nat → Nat → Gau} : largeB M n (fun _ => q) F = !rowsB M n q F := rfl
theorem MatOk.eq {n m : Nat} {L : Nat → Nat} {F : Nat → Nat → Gau} (h : MatOk n m L F) : ∀ i, i < n → L i = m := h.len
set_option maxHeartbeats 8000000 in
set_option maxRecDepth 100000 in
theorem AppliedR_any (A C : Option Addr) (n k ca cb : Nat) (L K : Nat → Nat) (X Y : Nat → Nat → Gau) (w : World) (hX : matE n L X = 0) (hY : laysE k K Y = 0) (hI : MatsAt w 0 A n L X) (hJ : MatsAt w 0 C k K Y) :
    Calls Try.prog 27 #[.slice A n ca, .slice C k cb] w fun e w' => ∃ v, e = .returned (.tuple #[v, .int .i64 (lpE 100000000 n (L 0) k (K 0) X Y)]) ∧ GotMat w' (lpE 100000000 n (L 0) k (K 0) X Y) n (K 0) (fun r c => gsum X Y r c (L 0)) v ∧ Below w.heap.size w w' := by
  have ok1 := matE_zero hX
  have ok2 := laysE_zero hY
  have hn1 := ok1.n1
  have hk1 := ok2.n1
  obtain ⟨a, ao, A0, c0, rfl, -, -, y0, -, -, -⟩ := hI 0 (by omega)
  obtain ⟨b, bo, B0, d0, rfl, -, -, -, -, -, -⟩ := hJ 0 (by omega)
  simp only [Nat.add_zero] at y0
  obtain ⟨m, hm⟩ : ∃ z, L 0 = z := ⟨_, rfl⟩
  obtain ⟨q, hq⟩ : ∃ z, K 0 = z := ⟨_, rfl⟩
  rw [hm] at ok1 y0 ⊢
  rw [hq] at ok2 ⊢
  have HAP := hide (fun W (hkm : k = m) (h : MatsAt W 0 (some ⟨a, ao, none⟩) n L X) (h2 : MatsAt W 0 (some ⟨b, bo, none⟩) k K Y) => appliedR_any a ao b bo n m q ca cb X Y 1000 100000000 W (by have := ok1.n4; omega) ok1.m1 ok1.m4 ok2.q1 (by have := ok2.q9; omega) (by decide) (by decide) (by decide) (h.len ok1.len) (by rw [← hkm]; exact h2.len ok2.len) (fun r j hr hj => ok1.inside r j hr hj) (fun j c hj hc => ok2.inside j c (by omega) hc))
  have HLG := hide (fun (A : Option Addr) (c : Nat) W h => largeR_any A n c (fun _ => q) (fun r c => gsum X Y r c m) 100000000 W (by decide) (by have := ok1.n4; omega) (fun _ _ => by have := ok2.q9; omega) h)
  simp only [rowsB_large] at HLG
  have HLP := hide (show lpE 100000000 n m k q X Y = if m = k then unI (rowsB 100000000 n q fun r c => gsum X Y r c m) 8 else 13 from rfl)
  obtain ⟨E, hE⟩ : ∃ z, lpE 100000000 n m k q X Y = z := ⟨_, rfl⟩
  rw [hE] at HLP ⊢
  obtain ⟨S, hS⟩ : ∃ z, (fun r c => gsum X Y r c m) = z := ⟨_, rfl⟩
  rw [hS] at HLP ⊢
  simp only [hS] at HAP HLG
  have HI := hide hI
  have HJ := hide hJ
  have hn4 := ok1.n4
  clear hE hS hm hq hX hY ok1 ok2 hI hJ
  by_cases hkm : k = m
  case neg =>
    obtain rfl : E = 13 := HLP.out.trans (if_neg (fun h => hkm h.symm))
    have tq : ((k : Int) != (m : Int)) = true := by simp; omega
    clear HLP HAP HLG hkm
    go_enter Try.func27, Try.ntmps27
    go_wp2_with fail
    go_ret2
    exact ⟨_, rfl, GotMat.nothing (by decide), Below.refl _ _⟩
  subst hkm
  have tq : ((k : Int) != (k : Int)) = false := by simp
  replace HAP := hide (HAP.out w rfl HI.out HJ.out)
  have HE2 := hide (HLP.out.trans (if_pos rfl))
  clear HLP
  obtain ⟨bb, hbb⟩ : ∃ z, rowsB 100000000 n q S = z := ⟨_, rfl⟩
  rw [hbb] at HE2
  simp only [hbb] at HLG
  clear hbb
  go_enter Try.func27, Try.ntmps27
  go_wp2_with fail
  refine HAP.out.mono ?_
  rintro e_ w1 ⟨v, V, rfl, hv, hb1⟩
  obtain ⟨Av, cv, rfl, hcv, hcv9, hmv⟩ := hv.form
  have HM := hide (hmv.weak (Nat.zero_le _))
  have HB := hide hb1
  clear hv hmv hb1 HAP y0
  replace HLG := hide (fun W h => HLG.out Av cv W h)
  rcases bb with _ | _
  · obtain rfl : E = 8 := HE2.out
    simp only [Bool.not_false] at HLG
    go_wp2_with fail
    refine (HLG.out _ HM.out).mono ?_
    rintro e_ w2 ⟨rfl, hb2⟩
    have HB2 := hide (HB.out.trans (hb2.mono HB.out.size))
    go_wp2_with fail
    go_ret2
    exact ⟨_, rfl, GotMat.nothing (by decide), HB2.out⟩
  · obtain rfl : E = 0 := HE2.out
    simp only [Bool.not_true] at HLG
    go_wp2_with fail
    refine (HLG.out _ HM.out).mono ?_
    rintro e_ w2 ⟨rfl, hb2⟩
    have HB2 := hide (HB.out.trans (hb2.mono HB.out.size))
    replace HM := hide (HM.out.below hb2)
    go_wp2_with fail
    go_ret2
    exact ⟨_, rfl, ⟨_, n, cv, rfl, (if_pos rfl).symm, HM.out⟩, HB2.out⟩
set_option maxHeartbeats 8000000 in
set_option maxRecDepth 100000 in
theorem ProductR_any (A C : Option Addr) (n k ca cb : Nat) (L K : Nat → Nat) (X Y : Nat → Nat → Gau) (w : World) (hX : matE n L X = 0) (hY : matE k K Y = 0) (hI : MatsAt w 0 A n L X) (hJ : MatsAt w 0 C k K Y) :
    Calls Try.prog 28 #[.slice A n ca, .slice C k cb] w fun e w' => ∃ v, e = .returned (.tuple #[v, .int .i64 (lpE 1000 n (L 0) k (K 0) X Y)]) ∧ GotMat w' (lpE 1000 n (L 0) k (K 0) X Y) n (K 0) (fun r c => gsum X Y r c (L 0)) v ∧ Below w.heap.size w w' := by
  have ok1 := matE_zero hX
  have ok2 := matE_zero hY
  have hn1 := ok1.n1
  have hk1 := ok2.n1
  obtain ⟨a, ao, A0, c0, rfl, -, -, y0, -, -, -⟩ := hI 0 (by omega)
  obtain ⟨b, bo, B0, d0, rfl, -, -, -, -, -, -⟩ := hJ 0 (by omega)
  simp only [Nat.add_zero] at y0
  obtain ⟨m, hm⟩ : ∃ z, L 0 = z := ⟨_, rfl⟩
  obtain ⟨q, hq⟩ : ∃ z, K 0 = z := ⟨_, rfl⟩
  rw [hm] at ok1 y0 ⊢
  rw [hq] at ok2 ⊢
  have HAP := hide (fun W (hkm : k = m) (h : MatsAt W 0 (some ⟨a, ao, none⟩) n L X) (h2 : MatsAt W 0 (some ⟨b, bo, none⟩) k K Y) => appliedR_any a ao b bo n m q ca cb X Y 1000 1000 W (by have := ok1.n4; omega) ok1.m1 ok1.m4 ok2.m1 (by have := ok2.m4; omega) (by decide) (by decide) (by decide) (h.len ok1.len) (by rw [← hkm]; exact h2.len ok2.len) (fun r j hr hj => ok1.inside r j hr hj) (fun j c hj hc => ok2.inside j c (by omega) hc))
  have HLG := hide (fun (A : Option Addr) (c : Nat) W h => largeR_any A n c (fun _ => q) (fun r c => gsum X Y r c m) 1000 W (by decide) (by have := ok1.n4; omega) (fun _ _ => by have := ok2.m4; omega) h)
  simp only [rowsB_large] at HLG
  have HLP := hide (show lpE 1000 n m k q X Y = if m = k then unI (rowsB 1000 n q fun r c => gsum X Y r c m) 8 else 13 from rfl)
  obtain ⟨E, hE⟩ : ∃ z, lpE 1000 n m k q X Y = z := ⟨_, rfl⟩
  rw [hE] at HLP ⊢
  obtain ⟨S, hS⟩ : ∃ z, (fun r c => gsum X Y r c m) = z := ⟨_, rfl⟩
  rw [hS] at HLP ⊢
  simp only [hS] at HAP HLG
  have HI := hide hI
  have HJ := hide hJ
  have hn4 := ok1.n4
  clear hE hS hm hq hX hY ok1 ok2 hI hJ
  by_cases hkm : k = m
  case neg =>
    obtain rfl : E = 13 := HLP.out.trans (if_neg (fun h => hkm h.symm))
    have tq : ((m : Int) != (k : Int)) = true := by simp; omega
    clear HLP HAP HLG hkm
    go_enter Try.func28, Try.ntmps28
    go_wp2_with fail
    go_ret2
    exact ⟨_, rfl, GotMat.nothing (by decide), Below.refl _ _⟩
  subst hkm
  have tq : ((k : Int) != (k : Int)) = false := by simp
  replace HAP := hide (HAP.out w rfl HI.out HJ.out)
  have HE2 := hide (HLP.out.trans (if_pos rfl))
  clear HLP
  obtain ⟨bb, hbb⟩ : ∃ z, rowsB 1000 n q S = z := ⟨_, rfl⟩
  rw [hbb] at HE2
  simp only [hbb] at HLG
  clear hbb
  go_enter Try.func28, Try.ntmps28
  go_wp2_with fail
  refine HAP.out.mono ?_
  rintro e_ w1 ⟨v, V, rfl, hv, hb1⟩
  obtain ⟨Av, cv, rfl, hcv, hcv9, hmv⟩ := hv.form
  have HM := hide (hmv.weak (Nat.zero_le _))
  have HB := hide hb1
  clear hv hmv hb1 HAP y0
  replace HLG := hide (fun W h => HLG.out Av cv W h)
  rcases bb with _ | _
  · obtain rfl : E = 8 := HE2.out
    simp only [Bool.not_false] at HLG
    go_wp2_with fail
    refine (HLG.out _ HM.out).mono ?_
    rintro e_ w2 ⟨rfl, hb2⟩
    have HB2 := hide (HB.out.trans (hb2.mono HB.out.size))
    go_wp2_with fail
    go_ret2
    exact ⟨_, rfl, GotMat.nothing (by decide), HB2.out⟩
  · obtain rfl : E = 0 := HE2.out
    simp only [Bool.not_true] at HLG
    go_wp2_with fail
    refine (HLG.out _ HM.out).mono ?_
    rintro e_ w2 ⟨rfl, hb2⟩
    have HB2 := hide (HB.out.trans (hb2.mono HB.out.size))
    replace HM := hide (HM.out.below hb2)
    go_wp2_with fail
    go_ret2
    exact ⟨_, rfl, ⟨_, n, cv, rfl, (if_pos rfl).symm, HM.out⟩, HB2.out⟩
end Go.Proofs.Ytceohaeebdhmjaa
/- Applied and Product of the code. -/
namespace Go.Proofs.Ytceohaeebdhmjaa
open Go Go.RowKit Go.Lib
theorem orS_zero {a b : Int} (h : orS a b = 0) : a = 0 ∧ b = 0 := by
  unfold orS at h
  by_cases e : a = 0
  · rw [if_pos e] at h; exact ⟨e, h⟩
  · rw [if_neg e] at h; exact absurd h e
/-- The error of Applied. -/
def appE (n : Nat) (L : Nat → Nat) (X : Nat → Nat → Gau) (k : Nat) (K : Nat → Nat) (Y : Nat → Nat → Gau) : Int := if orS (matE n L X) (laysE k K Y) = 0 then lpE 100000000 n (L 0) k (K 0) X Y else orS (matE n L X) (laysE k K Y)
set_option maxHeartbeats 8000000 in
set_option maxRecDepth 100000 in
theorem AppliedC_any (A C : Option Addr) (n k ca cb : Nat) (L K : Nat → Nat) (X Y : Nat → Nat → Gau) (w : World) (hn : n ≤ 100000) (hk : k ≤ 100000) (hL : ∀ i, i < n → L i ≤ 100000) (hK : ∀ i, i < k → K i ≤ 100000) (hI : MatsAt w 0 A n L X) (hJ : MatsAt w 0 C k K Y) :
    Calls Try.prog 22 #[.slice A n ca, .slice C k cb] w fun e w' => ∃ v, e = .returned (.tuple #[v, .int .i64 (appE n L X k K Y)]) ∧ GotMat w' (appE n L X k K Y) n (K 0) (fun r c => gsum X Y r c (L 0)) v ∧ Below w.heap.size w w' := by
  have HCM := hide (fun W h => CheckMatrix_any A n ca L X W hn hL h)
  have HLE := hide (fun W h => layersError_any C k cb K Y W hk hK h)
  have HLP := hide (fun (a ao b bo : Nat) W (h1 : matE n L X = 0) (h2 : laysE k K Y = 0) (hi : MatsAt W 0 (some ⟨a, ao, none⟩) n L X) (hj : MatsAt W 0 (some ⟨b, bo, none⟩) k K Y) => limitedProduct_any a ao b bo n (L 0) k (K 0) ca cb X Y 1000 100000000 100000000 W (matE_zero h1).n1 (matE_zero h1).n4 (matE_zero h1).m1 (matE_zero h1).m4 (by have := (laysE_zero h2).n4; omega) (laysE_zero h2).q1 (by have := (laysE_zero h2).q9; omega) (by decide) (by decide) (by decide) (by decide) (by decide) (by decide) (hi.len (matE_zero h1).len) (hj.len (laysE_zero h2).len) (fun r j hr hj => (matE_zero h1).inside r j hr hj) (fun j c hj hc => (laysE_zero h2).inside j c hj hc))
  have HE := hide (show appE n L X k K Y = if orS (matE n L X) (laysE k K Y) = 0 then lpE 100000000 n (L 0) k (K 0) X Y else orS (matE n L X) (laysE k K Y) from rfl)
  have HN1 := hide (fun h : matE n L X = 0 => (matE_zero h).n1)
  have HK1 := hide (fun h : laysE k K Y = 0 => (laysE_zero h).n1)
  obtain ⟨E, hE⟩ : ∃ z, appE n L X k K Y = z := ⟨_, rfl⟩
  obtain ⟨e1, he1⟩ : ∃ z, matE n L X = z := ⟨_, rfl⟩
  obtain ⟨e2, he2⟩ : ∃ z, laysE k K Y = z := ⟨_, rfl⟩
  obtain ⟨e3, he3⟩ : ∃ z, lpE 100000000 n (L 0) k (K 0) X Y = z := ⟨_, rfl⟩
  rw [hE, he1, he2, he3] at HE
  rw [hE]
  simp only [he1, he2, he3] at HCM HLE HLP HN1 HK1
  have HI := hide hI
  have HJ := hide hJ
  clear hE he1 he2 he3 hI hJ hL hK
  go_enter Try.func22, Try.ntmps22
  go_wp2_with fail
  refine (HCM.out _ HI.out).mono ?_
  rintro e_ w1 ⟨rfl, hb1⟩
  have HB := hide hb1
  clear hb1 HCM
  go_wp2_with fail
  refine (HLE.out _ (HJ.out.below HB.out)).mono ?_
  rintro e_ w2 ⟨rfl, hb2⟩
  replace HB := hide (HB.out.trans (hb2.mono HB.out.size))
  clear hb2 HLE
  go_wp2_with fail
  refine (orS_two e1 e2 _ _ _ (by first | exact (Box.made rfl : Box _ _ _ #[_, _]).at_ 0) (by first | exact (Box.made rfl : Box _ _ _ #[_, _]).at_ 1)).mono ?_
  rintro e_ w4 ⟨rfl, hw4⟩
  replace HB := hide (show Below w.heap.size w w4 by rw [← hw4]; exact HB.out.alloc HB.out.size _)
  clear hw4
  by_cases hor : orS e1 e2 = 0
  case neg =>
    have hEE : E = orS e1 e2 := HE.out.trans (if_neg hor)
    obtain ⟨s, hs⟩ : ∃ z, orS e1 e2 = z := ⟨_, rfl⟩
    rw [hs] at hor hEE ⊢
    subst hEE
    have HNE := hide hor
    have ts : (E != 0) = true := by simpa using hor
    clear HE HLP HN1 HK1 hs hor
    go_wp2_with fail
    go_ret2
    exact ⟨_, rfl, GotMat.nothing HNE.out, HB.out⟩
  obtain ⟨hz1, hz2⟩ := orS_zero hor
  have hEE : E = e3 := HE.out.trans (if_pos hor)
  rw [hor]
  have hn1 := HN1.out hz1
  have hk1 := HK1.out hz2
  have HIW := hide (HI.out.below HB.out)
  have HJW := hide (HJ.out.below HB.out)
  obtain ⟨a, ao, A0, c0, rfl, -, -, -, -, -, -⟩ := HIW.out 0 (by omega)
  obtain ⟨b, bo, B0, d0, rfl, -, -, -, -, -, -⟩ := HJW.out 0 (by omega)
  replace HLP := hide (HLP.out a ao b bo w4 hz1 hz2 HIW.out HJW.out)
  subst hEE
  have t0 : ((0 : Int) != 0) = false := by decide
  clear HE hz1 hz2 hor HN1 HK1 HI HJ HIW HJW
  go_wp2_with fail
  refine HLP.out.mono ?_
  rintro e_ w5 ⟨v, rfl, hv, hb5⟩
  have HV := hide hv.got
  have HB2 := hide (HB.out.trans (hb5.mono HB.out.size))
  clear hv hb5 HLP
  go_wp2_with fail
  go_ret2
  exact ⟨_, rfl, HV.out, HB2.out⟩
/-- The error of Product. -/
def prdE (n : Nat) (L : Nat → Nat) (X : Nat → Nat → Gau) (k : Nat) (K : Nat → Nat) (Y : Nat → Nat → Gau) : Int := if orS (matE n L X) (matE k K Y) = 0 then lpE 1000 n (L 0) k (K 0) X Y else orS (matE n L X) (matE k K Y)
set_option maxHeartbeats 8000000 in
set_option maxRecDepth 100000 in
theorem ProductC_any (A C : Option Addr) (n k ca cb : Nat) (L K : Nat → Nat) (X Y : Nat → Nat → Gau) (w : World) (hn : n ≤ 100000) (hk : k ≤ 100000) (hL : ∀ i, i < n → L i ≤ 100000) (hK : ∀ i, i < k → K i ≤ 100000) (hI : MatsAt w 0 A n L X) (hJ : MatsAt w 0 C k K Y) :
    Calls Try.prog 23 #[.slice A n ca, .slice C k cb] w fun e w' => ∃ v, e = .returned (.tuple #[v, .int .i64 (prdE n L X k K Y)]) ∧ GotMat w' (prdE n L X k K Y) n (K 0) (fun r c => gsum X Y r c (L 0)) v ∧ Below w.heap.size w w' := by
  have HCM := hide (fun W h => CheckMatrix_any A n ca L X W hn hL h)
  have HLE := hide (fun W h => CheckMatrix_any C k cb K Y W hk hK h)
  have HLP := hide (fun (a ao b bo : Nat) W (h1 : matE n L X = 0) (h2 : matE k K Y = 0) (hi : MatsAt W 0 (some ⟨a, ao, none⟩) n L X) (hj : MatsAt W 0 (some ⟨b, bo, none⟩) k K Y) => limitedProduct_any a ao b bo n (L 0) k (K 0) ca cb X Y 1000 1000 1000 W (matE_zero h1).n1 (matE_zero h1).n4 (matE_zero h1).m1 (matE_zero h1).m4 (by have := (matE_zero h2).n4; omega) (matE_zero h2).m1 (by have := (matE_zero h2).m4; omega) (by decide) (by decide) (by decide) (by decide) (by decide) (by decide) (hi.len (matE_zero h1).len) (hj.len (matE_zero h2).len) (fun r j hr hj => (matE_zero h1).inside r j hr hj) (fun j c hj hc => (matE_zero h2).inside j c hj hc))
  have HE := hide (show prdE n L X k K Y = if orS (matE n L X) (matE k K Y) = 0 then lpE 1000 n (L 0) k (K 0) X Y else orS (matE n L X) (matE k K Y) from rfl)
  have HN1 := hide (fun h : matE n L X = 0 => (matE_zero h).n1)
  have HK1 := hide (fun h : matE k K Y = 0 => (matE_zero h).n1)
  obtain ⟨E, hE⟩ : ∃ z, prdE n L X k K Y = z := ⟨_, rfl⟩
  obtain ⟨e1, he1⟩ : ∃ z, matE n L X = z := ⟨_, rfl⟩
  obtain ⟨e2, he2⟩ : ∃ z, matE k K Y = z := ⟨_, rfl⟩
  obtain ⟨e3, he3⟩ : ∃ z, lpE 1000 n (L 0) k (K 0) X Y = z := ⟨_, rfl⟩
  rw [hE, he1, he2, he3] at HE
  rw [hE]
  simp only [he1, he2, he3] at HCM HLE HLP HN1 HK1
  have HI := hide hI
  have HJ := hide hJ
  clear hE he1 he2 he3 hI hJ hL hK
  go_enter Try.func23, Try.ntmps23
  go_wp2_with fail
  refine (HCM.out _ HI.out).mono ?_
  rintro e_ w1 ⟨rfl, hb1⟩
  have HB := hide hb1
  clear hb1 HCM
  go_wp2_with fail
  refine (HLE.out _ (HJ.out.below HB.out)).mono ?_
  rintro e_ w2 ⟨rfl, hb2⟩
  replace HB := hide (HB.out.trans (hb2.mono HB.out.size))
  clear hb2 HLE
  go_wp2_with fail
  refine (orS_two e1 e2 _ _ _ (by first | exact (Box.made rfl : Box _ _ _ #[_, _]).at_ 0) (by first | exact (Box.made rfl : Box _ _ _ #[_, _]).at_ 1)).mono ?_
  rintro e_ w4 ⟨rfl, hw4⟩
  replace HB := hide (show Below w.heap.size w w4 by rw [← hw4]; exact HB.out.alloc HB.out.size _)
  clear hw4
  by_cases hor : orS e1 e2 = 0
  case neg =>
    have hEE : E = orS e1 e2 := HE.out.trans (if_neg hor)
    obtain ⟨s, hs⟩ : ∃ z, orS e1 e2 = z := ⟨_, rfl⟩
    rw [hs] at hor hEE ⊢
    subst hEE
    have HNE := hide hor
    have ts : (E != 0) = true := by simpa using hor
    clear HE HLP HN1 HK1 hs hor
    go_wp2_with fail
    go_ret2
    exact ⟨_, rfl, GotMat.nothing HNE.out, HB.out⟩
  obtain ⟨hz1, hz2⟩ := orS_zero hor
  have hEE : E = e3 := HE.out.trans (if_pos hor)
  rw [hor]
  have hn1 := HN1.out hz1
  have hk1 := HK1.out hz2
  have HIW := hide (HI.out.below HB.out)
  have HJW := hide (HJ.out.below HB.out)
  obtain ⟨a, ao, A0, c0, rfl, -, -, -, -, -, -⟩ := HIW.out 0 (by omega)
  obtain ⟨b, bo, B0, d0, rfl, -, -, -, -, -, -⟩ := HJW.out 0 (by omega)
  replace HLP := hide (HLP.out a ao b bo w4 hz1 hz2 HIW.out HJW.out)
  subst hEE
  have t0 : ((0 : Int) != 0) = false := by decide
  clear HE hz1 hz2 hor HN1 HK1 HI HJ HIW HJW
  go_wp2_with fail
  refine HLP.out.mono ?_
  rintro e_ w5 ⟨v, rfl, hv, hb5⟩
  have HV := hide hv.got
  have HB2 := hide (HB.out.trans (hb5.mono HB.out.size))
  clear hv hb5 HLP
  go_wp2_with fail
  go_ret2
  exact ⟨_, rfl, HV.out, HB2.out⟩
end Go.Proofs.Ytceohaeebdhmjaa
