/- Lemmas: S16. -/
import Derived.Test.YtceohaeebdhmjaaBk15
set_option linter.unusedVariables false
set_option linter.unusedSimpArgs false
/- Jumped of the code. -/
namespace Go.Proofs.Ytceohaeebdhmjaa
open Go.RowKit Go.Lib
def jmpE (L : Int) (n : Nat) (T : Nat → Int) (m : Nat) (S : Nat → Int) (s : Int) : Int := if regE L n T m S = 0 then (if withinB s 0 1000000000 = true then 0 else 2) else regE L n T m S
set_option maxHeartbeats 4000000 in
set_option maxRecDepth 100000 in
theorem Jumped_wrong (L s : Int) (A B : Option Addr) (n c m d : Nat) (T S : Nat → Int) (w : World) (hn : n ≤ 100000) (hm : m ≤ 100000) (hr : jmpE L n T m S s ≠ 0) (hT : IntsAt w 0 A n T) (hS : IntsAt w 0 B m S) :
    Calls Try.prog 55 #[.agg #[.int .i64 L, .slice A n c, .slice B m d], .int .i64 s] w fun e w' => e = .returned (.tuple #[.agg #[.int .i64 0, .slice none 0 0, .slice none 0 0], .int .i64 (jmpE L n T m S s)]) ∧ Below w.heap.size w w' := by
  have HI := hide hT
  have HJ := hide hS
  have HCR := hide (fun W (h : IntsAt W 0 A n T) (k : IntsAt W 0 B m S) => CheckRegister_any L A B n c m d T S W hn hm h k)
  have HWI := hide (fun W => isWithin_any s 0 1000000000 W)
  have HE := hide (show jmpE L n T m S s = if regE L n T m S = 0 then (if withinB s 0 1000000000 = true then 0 else 2) else regE L n T m S from rfl)
  obtain ⟨r, hrr⟩ : ∃ z, regE L n T m S = z := ⟨_, rfl⟩
  obtain ⟨v, hv⟩ : ∃ z, jmpE L n T m S s = z := ⟨_, rfl⟩
  rw [hv] at hr ⊢
  rw [hrr] at HCR
  rw [hrr, hv] at HE
  clear hT hS hrr hv
  go_enter Try.func55, Try.ntmps55
  go_upto_region 1 with fail
  obtain ⟨w_1, hw_1⟩ : ∃ q : World, q = ((w.alloc (.cells #[.int .i64 L, .slice A n c, .slice B m d] 81)).alloc (.cells #[.int .i64 0, .slice none 0 0, .slice none 0 0] 81)) := ⟨_, rfl⟩
  try rw [← hw_1]
  have HX0 := hide (show Box w_1 (w.heap.size) 81 #[.int .i64 L, .slice A n c, .slice B m d] by rw [hw_1]; exact (Box.made rfl).alloc _)
  have HX1 := hide (show Box w_1 (w.heap.size + 1) 81 #[.int .i64 0, .slice none 0 0, .slice none 0 0] by rw [hw_1]; exact Box.made (by simp))
  have HB := hide (show Below w.heap.size w w_1 by rw [hw_1]; (repeat (first | (with_reducible exact Below.refl _ _) | (with_reducible refine Go.below_drewN ?_ _) | (with_reducible refine Below.drew ?_) | (with_reducible refine Below.alloc ?_ (by first | exact Nat.le_refl _ | (simp; done) | (simp; omega) | omega) _) | (with_reducible refine Below.setCell ?_ (by first | exact Nat.le_refl _ | (simp; done) | (simp; omega) | omega) _))))
  clear hw_1
  obtain ⟨x0, x1, x2, f0, f1, f2, hlx⟩ := HX0.out.r3
  go_wp2_with fail
  clear x0 x1 x2 f0 f1 f2 hlx
  refine (HCR.out _ (HI.out.below HB.out) (HJ.out.below HB.out)).mono ?_
  rintro e_ w_2 ⟨rfl, hb_2⟩
  replace HX0 := hide (HX0.out.below hb_2)
  replace HX1 := hide (HX1.out.below hb_2)
  replace HB := hide (HB.out.trans (hb_2.mono HB.out.size))
  clear hb_2
  obtain ⟨y0, y1, y2, k0, k1, k2, hly⟩ := HX1.out.r3
  have HY := hide (HX1.out.r3putAll (.int .i64 0) (.slice none 0 0) (.slice none 0 0))
  have HBB := hide (((HB.out.setCell (p := ⟨w.heap.size + 1, 0, none⟩) (Nat.le_succ _) (.int .i64 0)).setCell (p := ⟨w.heap.size + 1, 1, none⟩) (Nat.le_succ _) (.slice none 0 0)).setCell (p := ⟨w.heap.size + 1, 2, none⟩) (Nat.le_succ _) (.slice none 0 0))
  clear HX0 HX1 HB HCR HI HJ
  by_cases hr0 : r = 0
  case neg =>
    obtain rfl : v = r := HE.out.trans (if_neg hr0)
    have tv : (v != 0) = true := by simpa using hr0
    clear HE HWI
    go_wp2_with fail
    clear y0 y1 y2
    obtain ⟨y0, y1, y2, -⟩ := HY.out.r3
    refine bodyPost_ret (v := .tuple #[.agg #[.int .i64 0, .slice none 0 0, .slice none 0 0], .int .i64 v]) ?_ rfl ⟨rfl, HBB.out⟩
    simp [results, Try.results55, go_sem, y0, y1, y2]
  subst hr0
  have h1 := HE.out.trans (if_pos rfl)
  by_cases hw : withinB s 0 1000000000 = true
  case pos =>
    exact absurd (h1.trans (if_pos hw)) hr
  have e0 : withinB s 0 1000000000 = false := by simpa using hw
  obtain rfl : v = 2 := h1.trans (if_neg hw)
  rw [e0] at HWI
  clear HE h1 hw e0
  go_wp2_with (go_at_call 58; refine (HWI.out _).mono ?_; rintro e_ v_ ⟨rfl, rfl⟩)
  clear y0 y1 y2
  obtain ⟨y0, y1, y2, -⟩ := HY.out.r3
  refine bodyPost_ret (v := .tuple #[.agg #[.int .i64 0, .slice none 0 0, .slice none 0 0], .int .i64 2]) ?_ rfl ⟨rfl, HBB.out⟩
  simp [results, Try.results55, go_sem, y0, y1, y2]
set_option maxHeartbeats 8000000 in
set_option maxRecDepth 100000 in
theorem Jumped_right (b o n c b2 o2 m d p s t : Nat) (T S : Nat → Int) (w : World) (hz : regE ((m : Int) + 1) n T (m + 1) S = 0) (hok : RegOk (m + 1) n T S) (hp : IsPer (m + 1) n T S p) (hs9 : s ≤ 1000000000) (ht : t = s % p) (hT : IntsAt w 0 (some ⟨b, o, none⟩) n T) (hS : IntsAt w 0 (some ⟨b2, o2, none⟩) (m + 1) S) :
    Calls Try.prog 55 #[.agg #[.int .i64 ((m : Int) + 1), .slice (some ⟨b, o, none⟩) n c, .slice (some ⟨b2, o2, none⟩) (m + 1) d], .int .i64 (s : Int)] w fun e w' => ∃ gT cT gS cS, e = .returned (.tuple #[.agg #[.int .i64 ((m : Int) + 1), .slice (some ⟨gT, 0, none⟩) n cT, .slice (some ⟨gS, 0, none⟩) (m + 1) cS], .int .i64 0]) ∧
      OwnInts w' w.heap.size (.slice (some ⟨gT, 0, none⟩) n cT) n T ∧ OwnInts w' w.heap.size (.slice (some ⟨gS, 0, none⟩) (m + 1) cS) (m + 1) (itS (m + 1) n T S t) ∧ Below w.heap.size w w' := by
  have hn10 := hok.count
  have hm9 := hok.most
  have hp1 := hp.pos
  have hp9 := hp.most
  have ht9 : t < p := by rw [ht]; exact Nat.mod_lt _ (by omega)
  have qt : (s : Int).tmod (p : Int) = (t : Int) := by rw [ht, Int.tmod_eq_emod_of_nonneg (by omega)]; omega
  have hpz : ¬ (p : Int) = 0 := by omega
  have tpz : ((p : Int) == 0) = false := by simp; omega
  have HI := hide hT
  have HJ := hide hS
  have HWI := hide (fun W => isWithin_any (s : Int) 0 1000000000 W)
  rw [withinB_yes ⟨by omega, by omega⟩] at HWI
  have HCR := hide (fun W (h : IntsAt W 0 (some ⟨b, o, none⟩) n T) (k : IntsAt W 0 (some ⟨b2, o2, none⟩) (m + 1) S) => CheckRegister_any ((m : Int) + 1) (some ⟨b, o, none⟩) (some ⟨b2, o2, none⟩) n c (m + 1) d T S W (by omega) (by omega) h k)
  rw [hz] at HCR
  have HCO := hide (fun W (h : IntsAt W 0 (some ⟨b, o, none⟩) n T) (k : IntsAt W 0 (some ⟨b2, o2, none⟩) (m + 1) S) => copyOf_any ((m : Int) + 1) b o n c b2 o2 (m + 1) d T S W hok.some_ (by omega) (by omega) (by omega) h k)
  have HPE := hide (fun W (h : IntsAt W 0 (some ⟨b, o, none⟩) n T) (k : IntsAt W 0 (some ⟨b2, o2, none⟩) (m + 1) S) => period_any b o n c b2 o2 m d p T S W hok hp h k)
  have HNX := hide (fun (B' gb gT gS cT cS k : Nat) W (h : Behind W B' gb gT gS cT cS n m T (itS (m + 1) n T S k)) => Behind.next hok h)
  obtain ⟨I, hI⟩ : ∃ z, itS (m + 1) n T S = z := ⟨_, rfl⟩
  have HI0 := hide (show I 0 = S by rw [← hI]; rfl)
  simp only [hI]
  simp only [hI] at HNX
  clear hT hS hz hok hI hp ht
  go_enter Try.func55, Try.ntmps55
  go_upto_region 1 with fail
  obtain ⟨w_3, hw_3⟩ : ∃ q : World, q = ((w.alloc (.cells #[.int .i64 ((m : Int) + 1), .slice (some ⟨b, o, none⟩) n c, .slice (some ⟨b2, o2, none⟩) (m + 1) d] 81)).alloc (.cells #[.int .i64 0, .slice none 0 0, .slice none 0 0] 81)) := ⟨_, rfl⟩
  try rw [← hw_3]
  have HX0 := hide (show Box w_3 (w.heap.size) 81 #[.int .i64 ((m : Int) + 1), .slice (some ⟨b, o, none⟩) n c, .slice (some ⟨b2, o2, none⟩) (m + 1) d] by rw [hw_3]; exact (Box.made rfl).alloc _)
  have HX1 := hide (show Box w_3 (w.heap.size + 1) 81 #[.int .i64 0, .slice none 0 0, .slice none 0 0] by rw [hw_3]; exact Box.made (by simp))
  have HB := hide (show Below w.heap.size w w_3 by rw [hw_3]; (repeat (first | (with_reducible exact Below.refl _ _) | (with_reducible refine Go.below_drewN ?_ _) | (with_reducible refine Below.drew ?_) | (with_reducible refine Below.alloc ?_ (by first | exact Nat.le_refl _ | (simp; done) | (simp; omega) | omega) _) | (with_reducible refine Below.setCell ?_ (by first | exact Nat.le_refl _ | (simp; done) | (simp; omega) | omega) _))))
  clear hw_3
  obtain ⟨x0, x1, x2, f0, f1, f2, hlx⟩ := HX0.out.r3
  go_wp2_with fail
  clear x0 x1 x2 f0 f1 f2 hlx
  refine (HCR.out _ (HI.out.below HB.out) (HJ.out.below HB.out)).mono ?_
  rintro e_ w_4 ⟨rfl, hb_4⟩
  replace HX0 := hide (HX0.out.below hb_4)
  replace HX1 := hide (HX1.out.below hb_4)
  replace HB := hide (HB.out.trans (hb_4.mono HB.out.size))
  clear hb_4
  obtain ⟨x0, x1, x2, f0, f1, f2, hlx⟩ := HX0.out.r3
  go_wp2_with (go_at_call 58; refine (HWI.out _).mono ?_; rintro e_ v_ ⟨rfl, rfl⟩)
  clear x0 x1 x2 f0 f1 f2 hlx
  have hs2 := HX1.out.lt
  refine (HCO.out _ (HI.out.below HB.out) (HJ.out.below HB.out)).mono ?_
  rintro e_ w_5 ⟨gT, cT, gS, cS, rfl, h1, h2, ho1, ho2, hb_5⟩
  have hB0 := HB.out.size
  have hgS : gS < w_5.heap.size := (ho2.row (by omega)).elim fun g' h => h.elim fun c' h => by
    obtain ⟨e, -, h⟩ := h
    injection e with e1
    injection e1 with e1
    injection e1 with e1
    rw [e1]; exact h
  replace HX0 := hide (HX0.out.below hb_5)
  replace HX1 := hide (HX1.out.below hb_5)
  replace HB := hide (HB.out.trans (hb_5.mono HB.out.size))
  clear hb_5
  clear HCO
  go_upto_region 7 with fail
  obtain ⟨g5, hg5⟩ : ∃ z, w_5.heap.size = z := ⟨_, rfl⟩
  obtain ⟨w_6, hw_6⟩ : ∃ q : World, q = w_5.alloc (.cells #[.int .i64 ((m : Int) + 1), .slice (some ⟨gT, 0, none⟩) n cT, .slice (some ⟨gS, 0, none⟩) (m + 1) cS] 81) := ⟨_, rfl⟩
  try rw [← hw_6]
  have HR := hide (show Behind w_6 w.heap.size g5 gT gS cT cS n m T (I 0) by rw [hw_6, HI0.out]; exact ⟨Box.made hg5.symm, ownS_weak (ho1.alloc _) hB0, ownS_weak (ho2.alloc _) hB0, by omega, h2, by omega⟩)
  have hc_6 : Below w_5.heap.size w_5 w_6 := by rw [hw_6]; exact (Below.refl _ _).alloc (Nat.le_refl _) _
  replace HX0 := hide (HX0.out.below hc_6)
  replace HX1 := hide (HX1.out.below hc_6)
  replace HB := hide (HB.out.trans (hc_6.mono HB.out.size))
  clear hc_6
  have hfar : w.heap.size + 1 < gT := by omega
  clear hw_6 ho1 ho2 h1 h2 hgS hB0 hs2 HI0
  try simp only [hg5]
  clear hg5
  obtain ⟨x0, x1, x2, f0, f1, f2, hlx⟩ := HX0.out.r3
  go_wp2_with fail
  clear x0 x1 x2 f0 f1 f2 hlx
  refine (HPE.out _ (HI.out.below HB.out) (HJ.out.below HB.out)).mono ?_
  rintro e_ w_7 ⟨rfl, hb_7⟩
  replace HX0 := hide (HX0.out.below hb_7)
  replace HX1 := hide (HX1.out.below hb_7)
  replace HR := hide (HR.out.below hb_7)
  replace HB := hide (HB.out.trans (hb_7.mono HB.out.size))
  clear hb_7
  clear HPE HI HJ HCR HWI HX0
  go_wp2_with fail
  go_loopw [24] (fun i wr => ∃ k : Nat, k ≤ t ∧ i = .int .i64 (k : Int) ∧ Hid (Behind wr w.heap.size g5 gT gS cT cS n m T (I k)) ∧ Hid (Box wr (w.heap.size + 1) 81 #[.int .i64 0, .slice none 0 0, .slice none 0 0]) ∧ Hid (Below w.heap.size w wr)) (fun i _ => t - (Go.RowKit.intOf i).toNat)
  case atStart => exact ⟨0, Nat.zero_le _, rfl, HR, HX1, HB⟩
  case round =>
    clear HR HX1 HB
    obtain ⟨k, hk, rfl, HR, HX1, HB⟩ := hrel
    obtain ⟨wA, rfl⟩ : ∃ x : World, x = wr := ⟨_, rfl⟩
    obtain ⟨x0, x1, x2, f0, f1, f2, hlx⟩ := HR.out.box.r3
    by_cases hlt : k < t
    case pos =>
      have hltz : (k : Int) < (t : Int) := by omega
      go_wp2_with fail
      clear x0 x1 x2 f0 f1 f2 hlx
      refine (HNX.out _ _ _ _ _ _ k _ HR.out).mono ?_
      rintro e_ w5 ⟨rfl, hr, hg⟩
      have hlow := HR.out.low
      have hts := HR.out.ts
      replace HX1 := hide (box_grown HX1.out hg (by omega))
      replace HB := hide (grown_to_below HB.out hg (by omega) HB.out.size)
      replace HR := hide hr
      clear hr hg HNX hlow hts
      go_wp2_with fail
      go_roundw
      case rel => exact ⟨k + 1, by omega, by go_num, HR, HX1, HB⟩
      case measure => simp [Go.RowKit.intOf]; omega
    obtain rfl : t = k := by omega
    have hltz : ¬ (t : Int) < (t : Int) := by omega
    clear HNX hlt hk
    obtain ⟨y0, y1, y2, k0, k1, k2, hly⟩ := HX1.out.r3
    have HY := hide (HX1.out.r3putAll (.int .i64 ((m : Int) + 1)) (.slice (some ⟨gT, 0, none⟩) n cT) (.slice (some ⟨gS, 0, none⟩) (m + 1) cS))
    have HR2 := hide (HR.out.far (b := w.heap.size + 1) (by omega) (.int .i64 ((m : Int) + 1)) (.slice (some ⟨gT, 0, none⟩) n cT) (.slice (some ⟨gS, 0, none⟩) (m + 1) cS))
    have HBB := hide (((HB.out.setCell (p := ⟨w.heap.size + 1, 0, none⟩) (Nat.le_succ _) (.int .i64 ((m : Int) + 1))).setCell (p := ⟨w.heap.size + 1, 1, none⟩) (Nat.le_succ _) (.slice (some ⟨gT, 0, none⟩) n cT)).setCell (p := ⟨w.heap.size + 1, 2, none⟩) (Nat.le_succ _) (.slice (some ⟨gS, 0, none⟩) (m + 1) cS))
    clear HR HX1 HB
    go_wp2_with fail
    clear y0 y1 y2
    obtain ⟨y0, y1, y2, -⟩ := HY.out.r3
    refine bodyPost_ret (v := .tuple #[.agg #[.int .i64 ((m : Int) + 1), .slice (some ⟨gT, 0, none⟩) n cT, .slice (some ⟨gS, 0, none⟩) (m + 1) cS], .int .i64 0]) ?_ rfl ⟨gT, cT, gS, cS, rfl, HR2.out.taps, HR2.out.state, HBB.out⟩
    simp [results, Try.results55, go_sem, y0, y1, y2]
end Go.Proofs.Ytceohaeebdhmjaa
