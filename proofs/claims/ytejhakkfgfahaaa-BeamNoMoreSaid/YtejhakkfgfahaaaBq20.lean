/- Lemmas: E28, E29. -/
import Derived.Test.YtejhakkfgfahaaaBq06
import Derived.Test.YtejhakkfgfahaaaBq12
import Derived.Test.YtejhakkfgfahaaaBq15
set_option linter.unusedVariables false
set_option linter.unusedSimpArgs false
/- Nulls of the code and of the reference. -/
namespace Go.Proofs.Ytejhakkfgfahaaa
open Go.RowKit Go.Great
/-- Is nothing received? -/
def nullB (x : Num) : Bool := x.a == 0 && (x.b == 0 && (x.c == 0 && x.d == 0))
def nlL (n : Nat) (F : Nat → Int) : Nat → List Int
  | 0 => []
  | k + 1 => if nullB (rsN F k n) = true then nlL n F k ++ [(k : Int)] else nlL n F k
theorem nlL_len (n : Nat) (F : Nat → Int) : ∀ k, (nlL n F k).length ≤ k
  | 0 => Nat.le_refl _
  | k + 1 => by
    have := nlL_len n F k
    unfold nlL
    split
    · rw [List.length_append]; simp; omega
    · omega

set_option maxHeartbeats 8000000 in
set_option maxRecDepth 100000 in
theorem Nulls_ref (A : Option Addr) (n c : Nat) (F : Nat → Int) (w : World) (hn : n ≤ 8) (hF : ∀ j, j < n → -1 ≤ F j ∧ F j ≤ 7) (hI : IntsAt w 0 A n F) :
    Calls Try.prog 25 #[.agg #[.slice A n c]] w fun e w' => ∃ v, e = .returned v ∧ OwnInts w' (w.heap.size + 1) v (nlL n F 8).length (fun j => (nlL n F 8).getD j 0) ∧ Below w.heap.size w w' := by
  have HI := hide hI
  have HRS := hide (fun (s : Nat) W (k : s ≤ 7) (h : IntsAt W 0 A n F) => ResponseOf_ref A n c F s W (by omega) k h hF)
  clear hI hF
  go_enter Try.func25, Try.ntmps25
  go_upto_region 1 with fail
  obtain ⟨w_1, hw_1⟩ : ∃ q : World, q = (w.alloc (.cells #[.slice A n c] 24)) := ⟨_, rfl⟩
  try rw [← hw_1]
  have HX0 := hide (show Box w_1 (w.heap.size) 24 #[.slice A n c] by rw [hw_1]; exact Box.made rfl)
  have HB := hide (show Below w.heap.size w w_1 by rw [hw_1]; (repeat (first | (with_reducible exact Below.refl _ _) | (with_reducible refine Go.below_drewN ?_ _) | (with_reducible refine Below.drew ?_) | (with_reducible refine Below.alloc ?_ (by first | exact Nat.le_refl _ | (simp; done) | (simp; omega) | omega) _) | (with_reducible refine Below.setCell ?_ (by first | exact Nat.le_refl _ | (simp; done) | (simp; omega) | omega) _))))
  clear hw_1
  go_wp2_with fail
  go_loopw [3, 4] (fun v i wr => ∃ k : Nat, k ≤ 8 ∧ i = .int .i64 (k : Int) ∧ Hid (Box wr w.heap.size 24 #[.slice A n c]) ∧ Hid (OwnInts wr (w.heap.size + 1) v (nlL n F k).length (fun j => (nlL n F k).getD j 0)) ∧ Hid (Below w.heap.size w wr)) (fun _ i _ => 8 - (Go.RowKit.intOf i).toNat)
  case atStart => exact ⟨0, Nat.zero_le _, rfl, HX0, hide (OwnInts.nil_ _ _ _), HB⟩
  case round =>
    clear HX0 HB
    obtain ⟨k, hk, rfl, HX0, HO, HB⟩ := hrel
    obtain ⟨wA, rfl⟩ : ∃ x : World, x = wr := ⟨_, rfl⟩
    by_cases hlt : k < 8
    case neg =>
      obtain rfl : k = 8 := by omega
      go_wp2_with fail
      go_ret
      exact ⟨_, rfl, HO.out, HB.out⟩
    have hltz : (k : Int) < 8 := by omega
    obtain ⟨x0, -, hlx⟩ := HX0.out.c1
    have HL := hide (show nlL n F (k + 1) = if nullB (rsN F k n) = true then nlL n F k ++ [(k : Int)] else nlL n F k from rfl)
    have HLN := hide (nlL_len n F k)
    have HR := hide (fun W (h : IntsAt W 0 A n F) => HRS.out k W (by omega) h)
    obtain ⟨L, hL⟩ : ∃ z, nlL n F k = z := ⟨_, rfl⟩
    simp only [hL] at HO HL HLN
    obtain ⟨x, hx⟩ : ∃ z, rsN F k n = z := ⟨_, rfl⟩
    simp only [hx] at HR HL
    clear hL hx
    have HNB := hide (show nullB x = (x.a == 0 && (x.b == 0 && (x.c == 0 && x.d == 0))) from rfl)
    obtain ⟨b, hb⟩ : ∃ z, nullB x = z := ⟨_, rfl⟩
    simp only [hb] at HL HNB
    clear hb
    obtain ⟨xa, hxa⟩ : ∃ q, x.a = q := ⟨_, rfl⟩
    obtain ⟨xb, hxb⟩ : ∃ q, x.b = q := ⟨_, rfl⟩
    obtain ⟨xc, hxc⟩ : ∃ q, x.c = q := ⟨_, rfl⟩
    obtain ⟨xd, hxd⟩ : ∃ q, x.d = q := ⟨_, rfl⟩
    simp only [hxa, hxb, hxc, hxd] at HR HNB
    clear hxa hxb hxc hxd
    go_wp2_with fail
    refine (HR.out _ (HI.out.below HB.out)).mono ?_
    rintro e_ w_2 ⟨rfl, hb_2⟩
    replace HX0 := hide (HX0.out.below hb_2)
    replace HO := hide (HO.out.below hb_2)
    replace HB := hide (HB.out.trans (hb_2.mono HB.out.size))
    clear hb_2
    clear x0 hlx
    have hcase : (xa = 0 ∧ xb = 0 ∧ xc = 0 ∧ xd = 0) ∨ xa ≠ 0 ∨ (xa = 0 ∧ xb ≠ 0) ∨ (xa = 0 ∧ xb = 0 ∧ xc ≠ 0) ∨ (xa = 0 ∧ xb = 0 ∧ xc = 0 ∧ xd ≠ 0) := by omega
    have hln := HLN.out
    have hBs := HB.out.size
    have hl1 := HX0.out.lt
    obtain ⟨As, cs, rfl, hcs, hIs⟩ := HO.out.form
    clear hIs
    rcases hcase with ⟨rfl, rfl, rfl, rfl⟩ | hcase
    · obtain rfl : b = true := HNB.out.trans rfl
      have HLL := hide (HL.out.trans (if_pos rfl))
      clear HL HNB
      go_wp2_with (at_builtin; refine wpList_append_ints _ rfl (.tmp 14) (.tmp 16) rfl (w.heap.size + 1) 0 (.slice As L.length cs) L.length _ rfl (HO.out.alloc _) (some ⟨w_2.heap.size, 0, none⟩) 1 1 (fun _ => (k : Int)) rfl (IntsAt.one w_2 0 (k : Int) 3 (Nat.zero_le _)) (by omega) (by simp; omega) ?_; intro v2 w2 h1 hb2)
      go_roundw
      case rel =>
        refine ⟨k + 1, by omega, by go_num, hide ((HX0.out.alloc _).kept hb2 (Nat.lt_succ_self _)), hide ?_, hide ((HB.out.alloc hBs _).trans (hb2.mono (Nat.le_succ _)))⟩
        rw [HLL.out, List.length_append]
        refine h1.congr fun i hi => ?_
        unfold catF
        by_cases e : i < L.length
        · rw [if_pos e]
          show L.getD i 0 = (L ++ [(k : Int)]).getD i 0
          rw [List.getD_eq_getElem?_getD, List.getD_eq_getElem?_getD, List.getElem?_append_left e]
        · have e2 : i = L.length := by omega
          rw [if_neg e, e2]
          show (k : Int) = (L ++ [(k : Int)]).getD L.length 0
          rw [List.getD_eq_getElem?_getD, List.getElem?_append_right (Nat.le_refl _)]
          simp
      case measure => simp [Go.RowKit.intOf]; omega
    · obtain rfl : b = false := by
        rw [HNB.out]
        rcases hcase with h | ⟨h0, h⟩ | ⟨h0, h1, h⟩ | ⟨h0, h1, h2, h⟩
        · simp [h]
        · simp [h]
        · simp [h]
        · simp [h]
      have HLL := hide (HL.out.trans (if_neg (by decide)))
      clear HL HNB
      rcases hcase with h | ⟨rfl, h⟩ | ⟨rfl, rfl, h⟩ | ⟨rfl, rfl, rfl, h⟩
      all_goals
        go_wp2_with fail
        go_roundw
        case rel => exact ⟨k + 1, by omega, by go_num, HX0, hide (by rw [HLL.out]; exact HO.out), HB⟩
        case measure => simp [Go.RowKit.intOf]; omega
set_option maxHeartbeats 8000000 in
set_option maxRecDepth 100000 in
theorem Nulls_any (A : Option Addr) (n c : Nat) (F : Nat → Int) (w : World) (hn : n ≤ 100000) (hI : IntsAt w 0 A n F) :
    Calls Try.prog 23 #[.agg #[.slice A n c]] w fun e w' => ∃ v, e = .returned (.tuple #[v, .int .i64 (cbE n F)]) ∧ OwnInts w' (w.heap.size + 1) v (if cbE n F = 0 then (nlL n F 8).length else 0) (fun j => (nlL n F 8).getD j 0) ∧ Below w.heap.size w w' := by
  have HBE := hide (fun W (h : IntsAt W 0 A n F) => beamError_any A n c F W hn h)
  have HZ := hide (cbE_zero (n := n) (F := F))
  obtain ⟨V, hV⟩ : ∃ z, cbE n F = z := ⟨_, rfl⟩
  simp only [hV] at HBE HZ ⊢
  have HI := hide hI
  clear hI hV
  go_enter Try.func23, Try.ntmps23
  go_upto_region 1 with fail
  obtain ⟨w_1, hw_1⟩ : ∃ q : World, q = (w.alloc (.cells #[.slice A n c] 24)) := ⟨_, rfl⟩
  try rw [← hw_1]
  have HX0 := hide (show Box w_1 (w.heap.size) 24 #[.slice A n c] by rw [hw_1]; exact Box.made rfl)
  have HB := hide (show Below w.heap.size w w_1 by rw [hw_1]; (repeat (first | (with_reducible exact Below.refl _ _) | (with_reducible refine Go.below_drewN ?_ _) | (with_reducible refine Below.drew ?_) | (with_reducible refine Below.alloc ?_ (by first | exact Nat.le_refl _ | (simp; done) | (simp; omega) | omega) _) | (with_reducible refine Below.setCell ?_ (by first | exact Nat.le_refl _ | (simp; done) | (simp; omega) | omega) _))))
  clear hw_1
  obtain ⟨x0, -, hlx⟩ := HX0.out.c1
  go_wp2_with fail
  refine (HBE.out _ (HI.out.below HB.out)).mono ?_
  rintro e_ w_2 ⟨rfl, hb_2⟩
  replace HX0 := hide (HX0.out.below hb_2)
  replace HB := hide (HB.out.trans (hb_2.mono HB.out.size))
  clear hb_2
  clear x0 hlx HBE
  by_cases hv : V = 0
  case neg =>
    have tv : (V != 0) = true := by simpa using hv
    go_wp2_with fail
    go_ret2
    exact ⟨_, rfl, OwnInts.nil_ _ _ _, HB.out⟩
  obtain ⟨⟨h0, h8⟩, hF, -⟩ := HZ.out hv
  have tv : (V != 0) = false := by simpa using hv
  have HRS := hide (fun (s : Nat) W (k : s ≤ 7) (h : IntsAt W 0 A n F) => responseOf_any A n c F s W (by omega) k h hF)
  have HVV := hide hv
  skip
  clear hF HZ
  go_wp2_with fail
  go_loopw [5, 6, 12] (fun v _ i wr => ∃ k : Nat, k ≤ 8 ∧ i = .int .i64 (k : Int) ∧ Hid (Box wr w.heap.size 24 #[.slice A n c]) ∧ Hid (OwnInts wr (w.heap.size + 1) v (nlL n F k).length (fun j => (nlL n F k).getD j 0)) ∧ Hid (Below w.heap.size w wr)) (fun _ _ i _ => 8 - (Go.RowKit.intOf i).toNat)
  case atStart => exact ⟨0, Nat.zero_le _, rfl, HX0, hide (OwnInts.nil_ _ _ _), HB⟩
  case round =>
    clear HX0 HB
    obtain ⟨k, hk, rfl, HX0, HO, HB⟩ := hrel
    obtain ⟨wA, rfl⟩ : ∃ x : World, x = wr := ⟨_, rfl⟩
    by_cases hlt : k < 8
    case neg =>
      obtain rfl : k = 8 := by omega
      go_wp2_with fail
      go_ret2
      exact ⟨_, rfl, HO.out, HB.out⟩
    have hltz : (k : Int) < 8 := by omega
    obtain ⟨x0, -, hlx⟩ := HX0.out.c1
    have HL := hide (show nlL n F (k + 1) = if nullB (rsN F k n) = true then nlL n F k ++ [(k : Int)] else nlL n F k from rfl)
    have HLN := hide (nlL_len n F k)
    have HR := hide (fun W (h : IntsAt W 0 A n F) => HRS.out k W (by omega) h)
    obtain ⟨L, hL⟩ : ∃ z, nlL n F k = z := ⟨_, rfl⟩
    simp only [hL] at HO HL HLN
    obtain ⟨x, hx⟩ : ∃ z, rsN F k n = z := ⟨_, rfl⟩
    simp only [hx] at HR HL
    clear hL hx
    have HNB := hide (show nullB x = (x.a == 0 && (x.b == 0 && (x.c == 0 && x.d == 0))) from rfl)
    obtain ⟨b, hb⟩ : ∃ z, nullB x = z := ⟨_, rfl⟩
    simp only [hb] at HL HNB
    clear hb
    obtain ⟨xa, hxa⟩ : ∃ q, x.a = q := ⟨_, rfl⟩
    obtain ⟨xb, hxb⟩ : ∃ q, x.b = q := ⟨_, rfl⟩
    obtain ⟨xc, hxc⟩ : ∃ q, x.c = q := ⟨_, rfl⟩
    obtain ⟨xd, hxd⟩ : ∃ q, x.d = q := ⟨_, rfl⟩
    simp only [hxa, hxb, hxc, hxd] at HR HNB
    clear hxa hxb hxc hxd
    go_wp2_with fail
    refine (HR.out _ (HI.out.below HB.out)).mono ?_
    rintro e_ w_3 ⟨rfl, hb_3⟩
    replace HX0 := hide (HX0.out.below hb_3)
    replace HO := hide (HO.out.below hb_3)
    replace HB := hide (HB.out.trans (hb_3.mono HB.out.size))
    clear hb_3
    clear x0 hlx
    have hcase : (xa = 0 ∧ xb = 0 ∧ xc = 0 ∧ xd = 0) ∨ xa ≠ 0 ∨ (xa = 0 ∧ xb ≠ 0) ∨ (xa = 0 ∧ xb = 0 ∧ xc ≠ 0) ∨ (xa = 0 ∧ xb = 0 ∧ xc = 0 ∧ xd ≠ 0) := by omega
    have hln := HLN.out
    have hBs := HB.out.size
    have hl1 := HX0.out.lt
    obtain ⟨As, cs, rfl, hcs, hIs⟩ := HO.out.form
    clear hIs
    rcases hcase with ⟨rfl, rfl, rfl, rfl⟩ | hcase
    · obtain rfl : b = true := HNB.out.trans rfl
      have HLL := hide (HL.out.trans (if_pos rfl))
      clear HL HNB
      go_wp2_with (at_builtin; refine wpList_append_ints _ rfl (.tmp 20) (.tmp 22) rfl (w.heap.size + 1) 0 (.slice As L.length cs) L.length _ rfl (HO.out.alloc _) (some ⟨w_3.heap.size, 0, none⟩) 1 1 (fun _ => (k : Int)) rfl (IntsAt.one w_3 0 (k : Int) 3 (Nat.zero_le _)) (by omega) (by simp; omega) ?_; intro v2 w2 h1 hb2)
      go_roundw
      case rel =>
        refine ⟨k + 1, by omega, by go_num, hide ((HX0.out.alloc _).kept hb2 (Nat.lt_succ_self _)), hide ?_, hide ((HB.out.alloc hBs _).trans (hb2.mono (Nat.le_succ _)))⟩
        rw [HLL.out, List.length_append]
        refine h1.congr fun i hi => ?_
        unfold catF
        by_cases e : i < L.length
        · rw [if_pos e]
          show L.getD i 0 = (L ++ [(k : Int)]).getD i 0
          rw [List.getD_eq_getElem?_getD, List.getD_eq_getElem?_getD, List.getElem?_append_left e]
        · have e2 : i = L.length := by omega
          rw [if_neg e, e2]
          show (k : Int) = (L ++ [(k : Int)]).getD L.length 0
          rw [List.getD_eq_getElem?_getD, List.getElem?_append_right (Nat.le_refl _)]
          simp
      case measure => simp [Go.RowKit.intOf]; omega
    · obtain rfl : b = false := by
        rw [HNB.out]
        rcases hcase with h | ⟨h0, h⟩ | ⟨h0, h1, h⟩ | ⟨h0, h1, h2, h⟩
        · simp [h]
        · simp [h]
        · simp [h]
        · simp [h]
      have HLL := hide (HL.out.trans (if_neg (by decide)))
      clear HL HNB
      rcases hcase with h | ⟨rfl, h⟩ | ⟨rfl, rfl, h⟩ | ⟨rfl, rfl, rfl, h⟩
      all_goals
        go_wp2_with fail
        go_roundw
        case rel => exact ⟨k + 1, by omega, by go_num, HX0, hide (by rw [HLL.out]; exact HO.out), HB⟩
        case measure => simp [Go.RowKit.intOf]; omega
end Go.Proofs.Ytejhakkfgfahaaa
/- The walk of BeamGains. -/
namespace Go.Proofs.Ytejhakkfgfahaaa
open Go.RowKit Go.Great
theorem gn_cases (n : Nat) (F : Nat → Int) (s : Int) : gnE n F s = if cbE n F = 0 then stepE s else cbE n F := by
  show (if cbE n F = 0 then (if stepE s = 0 then 0 else stepE s) else cbE n F) = _
  split
  · split
    · rename_i h; exact h.symm
    · rfl
  · rfl
set_option maxHeartbeats 8000000 in
set_option maxRecDepth 100000 in
theorem beamGains_walk (A : Option Addr) (n c : Nat) (F : Nat → Int) (s : Int) (w : World) (hn9 : n ≤ 9223372036854775807) (hI : IntsAt w 0 A n F) :
    Calls Try.prog 4 #[.agg #[.slice A n c], .int .i64 s] w fun e w' => e = .returned (.bool true) ∧ Below w.heap.size w w' := by
  have HI := hide hI
  clear hI
  have HAN := hide (fun W => antennas_any A n c W)
  by_cases h10 : n ≤ 10
  case neg =>
    have HAN2 := hide (fun W => (show Calls Try.prog 12 #[.agg #[.slice A n c]] W fun e w' => e = .returned (.bool false) ∧ Below W.heap.size W w' by
      have := HAN.out W
      rw [show decide ((n : Int) ≤ 10) = false by simp; omega] at this
      exact this))
    go_enter Try.func4, Try.ntmps4
    go_upto_region 1 with fail
    obtain ⟨w_1, hw_1⟩ : ∃ q : World, q = (w.alloc (.cells #[.slice A n c] 24)) := ⟨_, rfl⟩
    try rw [← hw_1]
    have HX0 := hide (show Box w_1 (w.heap.size) 24 #[.slice A n c] by rw [hw_1]; exact Box.made rfl)
    have HB := hide (show Below w.heap.size w w_1 by rw [hw_1]; (repeat (first | (with_reducible exact Below.refl _ _) | (with_reducible refine Go.below_drewN ?_ _) | (with_reducible refine Below.drew ?_) | (with_reducible refine Below.alloc ?_ (by first | exact Nat.le_refl _ | (simp; done) | (simp; omega) | omega) _) | (with_reducible refine Below.setCell ?_ (by first | exact Nat.le_refl _ | (simp; done) | (simp; omega) | omega) _))))
    clear hw_1
    go_wp2_with fail
    refine (awake_any _).mono ?_
    rintro e_ w_2 ⟨rfl, hb_2⟩
    replace HX0 := hide (HX0.out.below hb_2)
    replace HB := hide (HB.out.trans (hb_2.mono HB.out.size))
    clear hb_2
    obtain ⟨x0, -, hlx⟩ := HX0.out.c1
    go_wp2_with fail
    refine (HAN2.out _).mono ?_
    rintro e_ w_3 ⟨rfl, hb_3⟩
    replace HX0 := hide (HX0.out.below hb_3)
    replace HB := hide (HB.out.trans (hb_3.mono HB.out.size))
    clear hb_3
    clear x0 hlx
    go_wp2_with fail
    go_ret
    exact ⟨rfl, HB.out⟩
  have HAN2 := hide (fun W => (show Calls Try.prog 12 #[.agg #[.slice A n c]] W fun e w' => e = .returned (.bool true) ∧ Below W.heap.size W w' by
    have := HAN.out W
    rw [show decide ((n : Int) ≤ 10) = true by simp; omega] at this
    exact this))
  have HCP := hide (fun W (h : IntsAt W 0 A n F) => Copy_any A n c F W (by omega) h)
  have HRE := hide (fun (B : Option Addr) d W (h : IntsAt W 0 B n F) => ResponseOf_any B n d F s W (by omega) h)
  have HGA := hide (fun (B : Option Addr) d W (h : IntsAt W 0 B n F) => GainOf_any B n d F s W (by omega) h)
  have HNU := hide (fun (B : Option Addr) d W (h : IntsAt W 0 B n F) => Nulls_any B n d F W (by omega) h)
  have HBE := hide (fun W (h : IntsAt W 0 A n F) => BeamErr_any A n c F W hn9 h)
  have HSE := hide (fun W => StepErr_any s W)
  have HNR := hide (fun W h1 h2 (h : IntsAt W 0 A n F) => Nulls_ref A n c F W h1 h2 h)
  have HRR := hide (fun (k : Nat) W h1 h2 h3 (h : IntsAt W 0 A n F) => ResponseOf_ref A n c F k W h1 h2 h h3)
  have HSW := hide (fun (k : Nat) (h : n ≤ 100) => ((rsN_within F k n).more (N := 1000000) (by omega)))
  have HSQ := hide (fun (x : Num) W h => squareOfR_any x W h)
  have HG := hide (gn_cases n F s)
  have HR := hide (show rsR n F s = if gnE n F s = 0 then rsN F s.toNat n else Num.zero from rfl)
  have HP := hide (show gnP n F s = if gnE n F s = 0 then (rsN F s.toNat n).sqP else 0 from rfl)
  have HQ := hide (show gnQ n F s = if gnE n F s = 0 then (rsN F s.toNat n).sqQ else 0 from rfl)
  have HZ := hide (cbE_zero (n := n) (F := F))
  have HSZ := hide (stepE_zero (s := s))
  obtain ⟨G, hG⟩ : ∃ z, gnE n F s = z := ⟨_, rfl⟩
  obtain ⟨E, hE⟩ : ∃ z, cbE n F = z := ⟨_, rfl⟩
  obtain ⟨q, hq⟩ : ∃ z, stepE s = z := ⟨_, rfl⟩
  obtain ⟨P, hP⟩ : ∃ z, gnP n F s = z := ⟨_, rfl⟩
  obtain ⟨Q, hQ⟩ : ∃ z, gnQ n F s = z := ⟨_, rfl⟩
  obtain ⟨x, hx⟩ : ∃ z, rsR n F s = z := ⟨_, rfl⟩
  simp only [hG, hE, hq, hP, hQ, hx] at HRE HGA HNU HBE HSE HG HR HP HQ HZ HSZ
  clear hG hE hq hP hQ hx HAN
  obtain ⟨ra, hra⟩ : ∃ z, x.a = z := ⟨_, rfl⟩
  obtain ⟨rb, hrb⟩ : ∃ z, x.b = z := ⟨_, rfl⟩
  obtain ⟨rc, hrc⟩ : ∃ z, x.c = z := ⟨_, rfl⟩
  obtain ⟨rd, hrd⟩ : ∃ z, x.d = z := ⟨_, rfl⟩
  simp only [hra, hrb, hrc, hrd] at HRE
  have HXC := hide (show x.a = ra ∧ x.b = rb ∧ x.c = rc ∧ x.d = rd from ⟨hra, hrb, hrc, hrd⟩)
  clear hra hrb hrc hrd
  have HLL := hide (nlL_len n F 8)
  obtain ⟨Y, hY⟩ : ∃ z, (fun j => (nlL n F 8).getD j 0) = z := ⟨_, rfl⟩
  obtain ⟨l, hl⟩ : ∃ z, (nlL n F 8).length = z := ⟨_, rfl⟩
  obtain ⟨M, hM⟩ : ∃ z, (if E = 0 then l else 0) = z := ⟨_, rfl⟩
  simp only [hY, hl, hM] at HNU HNR HLL
  have HMM := hide hM
  clear hY hl hM
  go_enter Try.func4, Try.ntmps4
  go_upto_region 1 with fail
  obtain ⟨w_1, hw_1⟩ : ∃ q : World, q = (w.alloc (.cells #[.slice A n c] 24)) := ⟨_, rfl⟩
  try rw [← hw_1]
  have HX0 := hide (show Box w_1 (w.heap.size) 24 #[.slice A n c] by rw [hw_1]; exact Box.made rfl)
  have HB := hide (show Below w.heap.size w w_1 by rw [hw_1]; (repeat (first | (with_reducible exact Below.refl _ _) | (with_reducible refine Go.below_drewN ?_ _) | (with_reducible refine Below.drew ?_) | (with_reducible refine Below.alloc ?_ (by first | exact Nat.le_refl _ | (simp; done) | (simp; omega) | omega) _) | (with_reducible refine Below.setCell ?_ (by first | exact Nat.le_refl _ | (simp; done) | (simp; omega) | omega) _))))
  clear hw_1
  go_wp2_with fail
  refine (awake_any _).mono ?_
  rintro e_ w_2 ⟨rfl, hb_2⟩
  replace HX0 := hide (HX0.out.below hb_2)
  replace HB := hide (HB.out.trans (hb_2.mono HB.out.size))
  clear hb_2
  obtain ⟨x0, -, hlx⟩ := HX0.out.c1
  go_wp2_with fail
  refine (HAN2.out _).mono ?_
  rintro e_ w_3 ⟨rfl, hb_3⟩
  replace HX0 := hide (HX0.out.below hb_3)
  replace HB := hide (HB.out.trans (hb_3.mono HB.out.size))
  clear hb_3
  clear x0 hlx
  obtain ⟨x0, -, hlx⟩ := HX0.out.c1
  go_wp2_with fail
  refine (HCP.out _ (HI.out.below HB.out)).mono ?_
  rintro e_ w_4 ⟨B1, d1, rfl, hd1, hd91, hi, hb_4⟩
  replace HX0 := hide (HX0.out.below hb_4)
  replace HB := hide (HB.out.trans (hb_4.mono HB.out.size))
  clear hb_4
  have HC := hide (hi.weak (Nat.zero_le _))
  clear hi
  clear x0 hlx
  go_wp2_with fail
  refine (HRE.out _ _ _ HC.out).mono ?_
  rintro e_ w_5 ⟨rfl, hb_5⟩
  replace HX0 := hide (HX0.out.below hb_5)
  replace HC := hide (HC.out.below hb_5)
  replace HB := hide (HB.out.trans (hb_5.mono HB.out.size))
  clear hb_5
  clear HC
  go_upto_region 6 with fail
  obtain ⟨g5, hg5⟩ : ∃ q, w_5.heap.size = q := ⟨_, rfl⟩
  obtain ⟨w_6, hw_6⟩ : ∃ q : World, q = w_5.alloc (.cells #[.int .i64 ra, .int .i64 rb, .int .i64 rc, .int .i64 rd] 41) := ⟨_, rfl⟩
  try rw [← hw_6]
  have HX5 := hide (show Box w_6 g5 41 #[.int .i64 ra, .int .i64 rb, .int .i64 rc, .int .i64 rd] by rw [hw_6]; exact Box.made hg5.symm)
  have hc_6 : Below w_5.heap.size w_5 w_6 := by rw [hw_6]; exact (Below.refl _ _).alloc (Nat.le_refl _) _
  clear hw_6
  replace HX0 := hide (HX0.out.below hc_6)
  replace HB := hide (HB.out.trans (hc_6.mono HB.out.size))
  clear hc_6
  try simp only [hg5]
  clear hg5
  obtain ⟨x0, -, hlx⟩ := HX0.out.c1
  go_wp2_with fail
  refine (HCP.out _ (HI.out.below HB.out)).mono ?_
  rintro e_ w_7 ⟨B2, d2, rfl, hd2, hd92, hi, hb_7⟩
  replace HX0 := hide (HX0.out.below hb_7)
  replace HX5 := hide (HX5.out.below hb_7)
  replace HB := hide (HB.out.trans (hb_7.mono HB.out.size))
  clear hb_7
  have HC := hide (hi.weak (Nat.zero_le _))
  clear hi
  clear x0 hlx
  go_wp2_with fail
  refine (HGA.out _ _ _ HC.out).mono ?_
  rintro e_ w_8 ⟨rfl, hb_8⟩
  replace HX0 := hide (HX0.out.below hb_8)
  replace HX5 := hide (HX5.out.below hb_8)
  replace HC := hide (HC.out.below hb_8)
  replace HB := hide (HB.out.trans (hb_8.mono HB.out.size))
  clear hb_8
  clear HC
  go_upto_region 7 with fail
  obtain ⟨g7, hg7⟩ : ∃ q, w_8.heap.size = q := ⟨_, rfl⟩
  obtain ⟨w_9, hw_9⟩ : ∃ q : World, q = w_8.alloc (.cells #[.int .i64 P, .int .i64 Q] 45) := ⟨_, rfl⟩
  try rw [← hw_9]
  have HX7 := hide (show Box w_9 g7 45 #[.int .i64 P, .int .i64 Q] by rw [hw_9]; exact Box.made hg7.symm)
  have hc_9 : Below w_8.heap.size w_8 w_9 := by rw [hw_9]; exact (Below.refl _ _).alloc (Nat.le_refl _) _
  clear hw_9
  replace HX0 := hide (HX0.out.below hc_9)
  replace HX5 := hide (HX5.out.below hc_9)
  replace HB := hide (HB.out.trans (hc_9.mono HB.out.size))
  clear hc_9
  try simp only [hg7]
  clear hg7
  obtain ⟨x0, -, hlx⟩ := HX0.out.c1
  go_wp2_with fail
  refine (HCP.out _ (HI.out.below HB.out)).mono ?_
  rintro e_ w_10 ⟨B3, d3, rfl, hd3, hd93, hi, hb_10⟩
  replace HX0 := hide (HX0.out.below hb_10)
  replace HX5 := hide (HX5.out.below hb_10)
  replace HX7 := hide (HX7.out.below hb_10)
  replace HB := hide (HB.out.trans (hb_10.mono HB.out.size))
  clear hb_10
  have HC := hide (hi.weak (Nat.zero_le _))
  clear hi
  clear x0 hlx
  go_wp2_with fail
  refine (HNU.out _ _ _ HC.out).mono ?_
  rintro e_ w_11 ⟨v, rfl, ho, hb_11⟩
  replace HX0 := hide (HX0.out.below hb_11)
  replace HX5 := hide (HX5.out.below hb_11)
  replace HX7 := hide (HX7.out.below hb_11)
  replace HC := hide (HC.out.below hb_11)
  replace HB := hide (HB.out.trans (hb_11.mono HB.out.size))
  clear hb_11
  clear HC
  obtain ⟨D, e, rfl, he, hi⟩ := ho.form
  have HD := hide (hi.weak (Nat.zero_le _))
  clear ho hi
  obtain ⟨x0, -, hlx⟩ := HX0.out.c1
  go_wp2_with fail
  refine (HBE.out _ (HI.out.below HB.out)).mono ?_
  rintro e_ w_12 ⟨rfl, hb_12⟩
  replace HX0 := hide (HX0.out.below hb_12)
  replace HX5 := hide (HX5.out.below hb_12)
  replace HX7 := hide (HX7.out.below hb_12)
  replace HD := hide (HD.out.below hb_12)
  replace HB := hide (HB.out.trans (hb_12.mono HB.out.size))
  clear hb_12
  clear x0 hlx
  clear HCP HRE HGA HNU HBE
  by_cases h0 : E = 0
  case neg =>
    have tv : (E != 0) = true := by simpa using h0
    have hge : G = E := HG.out.trans (if_neg h0)
    have hg : ¬ G = 0 := by rw [hge]; exact h0
    obtain rfl : P = 0 := HP.out.trans (if_neg hg)
    obtain rfl : Q = 0 := HQ.out.trans (if_neg hg)
    obtain rfl : x = Num.zero := HR.out.trans (if_neg hg)
    obtain ⟨e1, e2, e3, e4⟩ := HXC.out
    subst e1 e2 e3 e4
    obtain ⟨y0, y1, y2, y3, -⟩ := HX5.out.cells4
    obtain ⟨z0, z1, -, -, hlz⟩ := HX7.out.c2
    simp only [show Num.zero.a = 0 from rfl, show Num.zero.b = 0 from rfl, show Num.zero.c = 0 from rfl, show Num.zero.d = 0 from rfl] at y0 y1 y2 y3
    obtain rfl : M = 0 := HMM.out.symm.trans (if_neg h0)
    subst hge
    clear hg
    go_wp2_with fail
    go_ret
    exact ⟨by first | rfl | simp, HB.out⟩
  subst h0
  have hgq : G = q := HG.out.trans (if_pos rfl)
  obtain ⟨⟨hn0, hn8⟩, hF, -⟩ := HZ.out (by first | rfl | trivial)
  have HNR2 := hide (fun W h => HNR.out W hn8 hF h)
  have HFF := hide hF
  obtain rfl : M = l := HMM.out.symm.trans (if_pos rfl)
  clear HNR HZ HG hF
  obtain ⟨x0, -, hlx⟩ := HX0.out.c1
  go_wp2_with fail
  refine (HNR2.out _ (HI.out.below HB.out)).mono ?_
  rintro e_ w_13 ⟨v2, rfl, ho, hb_13⟩
  replace HX0 := hide (HX0.out.below hb_13)
  replace HX5 := hide (HX5.out.below hb_13)
  replace HX7 := hide (HX7.out.below hb_13)
  replace HD := hide (HD.out.below hb_13)
  replace HB := hide (HB.out.trans (hb_13.mono HB.out.size))
  clear hb_13
  obtain ⟨D2, e2, rfl, he2, hi⟩ := ho.form
  have HD2 := hide (hi.weak (Nat.zero_le _))
  clear ho hi
  clear x0 hlx
  have HIN := hide (fun W (h : IntsAt W 0 D M Y) (k : IntsAt W 0 D2 M Y) => (show Calls Try.prog 19 #[.slice D M e, .slice D2 M e2] W fun e w' => e = .returned (.bool true) ∧ ∃ q, w' = W.drewN q by
      have := ints_any D D2 M M e e2 Y Y W (by have := HLL.out; omega) (by have := HLL.out; omega) h k
      rw [intsB_iff.2 ⟨rfl, fun _ _ => rfl⟩] at this
      exact this))
  go_wp2_with fail
  refine (HIN.out _ HD.out HD2.out).mono ?_
  rintro e_ v_14 ⟨rfl, q_14, rfl⟩
  obtain ⟨w_14, hw_14⟩ : ∃ z : World, z = w_13.drewN q_14 := ⟨_, rfl⟩
  rw [← hw_14]
  have hc_14 : Below w_13.heap.size w_13 w_14 := by rw [hw_14]; exact Go.below_drewN (Below.refl _ _) _
  clear hw_14 HD2
  replace HX0 := hide (HX0.out.below hc_14)
  replace HX5 := hide (HX5.out.below hc_14)
  replace HX7 := hide (HX7.out.below hc_14)
  replace HD := hide (HD.out.below hc_14)
  replace HB := hide (HB.out.trans (hc_14.mono HB.out.size))
  clear hc_14
  clear HIN HD HNR2
  go_wp2_with fail
  refine (HSE.out _).mono ?_
  rintro e_ v_ ⟨rfl, rfl⟩
  by_cases hq0 : q = 0
  case neg =>
    have tq : (q != 0) = true := by simpa using hq0
    have hg : ¬ G = 0 := by rw [hgq]; exact hq0
    obtain rfl : P = 0 := HP.out.trans (if_neg hg)
    obtain rfl : Q = 0 := HQ.out.trans (if_neg hg)
    obtain rfl : x = Num.zero := HR.out.trans (if_neg hg)
    obtain ⟨e1, e2, e3, e4⟩ := HXC.out
    subst e1 e2 e3 e4
    obtain ⟨y0, y1, y2, y3, -⟩ := HX5.out.cells4
    obtain ⟨z0, z1, -, -, hlz⟩ := HX7.out.c2
    simp only [show Num.zero.a = 0 from rfl, show Num.zero.b = 0 from rfl, show Num.zero.c = 0 from rfl, show Num.zero.d = 0 from rfl] at y0 y1 y2 y3
    subst hgq
    clear hg
    go_wp2_with fail
    go_ret
    exact ⟨by first | rfl | simp, HB.out⟩
  subst hq0
  subst hgq
  obtain ⟨hs0, hs7⟩ := HSZ.out (by first | rfl | trivial)
  obtain ⟨k, rfl⟩ : ∃ k : Nat, s = (k : Int) := ⟨s.toNat, by omega⟩
  have hP := HP.out.trans (if_pos rfl)
  have hQ := HQ.out.trans (if_pos rfl)
  have hR := HR.out.trans (if_pos rfl)
  rw [show ((k : Int)).toNat = k from rfl] at hP hQ hR
  have HRK := hide (fun W h => HRR.out k W (by omega) (by omega) HFF.out h)
  have hwi := HSW.out k (by omega)
  rw [← hR] at hP hQ hwi
  simp only [← hR] at HRK
  have HSX := hide (fun W => HSQ.out x W hwi)
  simp only [← hP, ← hQ] at HSX
  clear hP hQ hR hwi HSQ HRR HSW HP HQ HR
  obtain ⟨e1, e2, e3, e4⟩ := HXC.out
  simp only [e1, e2, e3, e4] at HRK HSX
  clear e1 e2 e3 e4 HXC
  obtain ⟨x0, -, hlx⟩ := HX0.out.c1
  go_wp2_with fail
  refine (HRK.out _ (HI.out.below HB.out)).mono ?_
  rintro e_ w_15 ⟨rfl, hb_15⟩
  replace HX0 := hide (HX0.out.below hb_15)
  replace HX5 := hide (HX5.out.below hb_15)
  replace HX7 := hide (HX7.out.below hb_15)
  replace HB := hide (HB.out.trans (hb_15.mono HB.out.size))
  clear hb_15
  clear x0 hlx
  go_upto_region 17 with fail
  obtain ⟨g12, hg12⟩ : ∃ q, w_15.heap.size = q := ⟨_, rfl⟩
  obtain ⟨w_16, hw_16⟩ : ∃ q : World, q = w_15.alloc (.cells #[.int .i64 ra, .int .i64 rb, .int .i64 rc, .int .i64 rd] 41) := ⟨_, rfl⟩
  try rw [← hw_16]
  have HX12 := hide (show Box w_16 g12 41 #[.int .i64 ra, .int .i64 rb, .int .i64 rc, .int .i64 rd] by rw [hw_16]; exact Box.made hg12.symm)
  have hc_16 : Below w_15.heap.size w_15 w_16 := by rw [hw_16]; exact (Below.refl _ _).alloc (Nat.le_refl _) _
  clear hw_16
  replace HX0 := hide (HX0.out.below hc_16)
  replace HX5 := hide (HX5.out.below hc_16)
  replace HX7 := hide (HX7.out.below hc_16)
  replace HB := hide (HB.out.trans (hc_16.mono HB.out.size))
  clear hc_16
  try simp only [hg12]
  clear hg12
  refine wp_region_held_drew (S := fun w' => w'.cell? ⟨g5, 0, none⟩ = some (.int .i64 ra) ∧ w'.cell? ⟨g5, 1, none⟩ = some (.int .i64 rb) ∧ w'.cell? ⟨g5, 2, none⟩ = some (.int .i64 rc) ∧ w'.cell? ⟨g5, 3, none⟩ = some (.int .i64 rd) ∧ w'.cell? ⟨g12, 0, none⟩ = some (.int .i64 ra) ∧ w'.cell? ⟨g12, 1, none⟩ = some (.int .i64 rb) ∧ w'.cell? ⟨g12, 2, none⟩ = some (.int .i64 rc) ∧ w'.cell? ⟨g12, 3, none⟩ = some (.int .i64 rd) ∧ w'.cell? ⟨g7, 0, none⟩ = some (.int .i64 P) ∧ w'.cell? ⟨g7, 1, none⟩ = some (.int .i64 Q)) (by kernel_rfl) ⟨HX5.out.cells4.1, HX5.out.cells4.2.1, HX5.out.cells4.2.2.1, HX5.out.cells4.2.2.2.1, HX12.out.cells4.1, HX12.out.cells4.2.1, HX12.out.cells4.2.2.1, HX12.out.cells4.2.2.2.1, HX7.out.c2.1, HX7.out.c2.2.1⟩ (fun hHeld => ?_)
  obtain ⟨w_17, hw_17⟩ : ∃ q : World, q = w_16.drew := ⟨_, rfl⟩
  rw [← hw_17] at hHeld ⊢
  have hc_17 : Below w_16.heap.size w_16 w_17 := by rw [hw_17]; exact (Below.refl _ _).drew
  clear hw_17
  replace HX0 := hide (HX0.out.below hc_17)
  replace HX5 := hide (HX5.out.below hc_17)
  replace HX7 := hide (HX7.out.below hc_17)
  replace HX12 := hide (HX12.out.below hc_17)
  replace HB := hide (HB.out.trans (hc_17.mono HB.out.size))
  clear hc_17
  refine wpAnyH_take (i := 0) (oi := ⟨some 104, _, _, _, _, _⟩) (v := ?_) rfl (by kernel_rfl) (by kernel_rfl) (by kernel_rfl) (fun _ _ _ h => h) (Or.inl ⟨by rfl, ?_⟩) (by assumption) ?_
  rotate_left
  · (intro w' hSw; (try dsimp only at hSw); go_simp <;> (with_reducible rfl))
  try simp only [Act.put, List.setIfInBounds_toArray, List.set_cons_zero, List.set_cons_succ]
  refine wpAnyH_take (i := 1) (oi := ⟨some 105, _, _, _, _, _⟩) (v := ?_) rfl (by kernel_rfl) (by kernel_rfl) (by kernel_rfl) (fun _ _ _ h => h) (Or.inl ⟨by rfl, ?_⟩) (by assumption) ?_
  rotate_left
  · (intro w' hSw; (try dsimp only at hSw); go_simp <;> (with_reducible rfl))
  try simp only [Act.put, List.setIfInBounds_toArray, List.set_cons_zero, List.set_cons_succ]
  refine wpAnyH_take (i := 2) (oi := ⟨some 106, _, _, _, _, _⟩) (v := ?_) rfl (by kernel_rfl) (by kernel_rfl) (by kernel_rfl) (fun _ _ _ h => h) (Or.inl ⟨by rfl, ?_⟩) (by assumption) ?_
  rotate_left
  · (intro w' hSw; (try dsimp only at hSw); go_simp <;> (with_reducible rfl))
  try simp only [Act.put, List.setIfInBounds_toArray, List.set_cons_zero, List.set_cons_succ]
  refine wpAnyH_take (i := 3) (oi := ⟨some 107, _, _, _, _, _⟩) (v := ?_) rfl (by kernel_rfl) (by kernel_rfl) (by kernel_rfl) (fun _ _ _ h => h) (Or.inl ⟨by rfl, ?_⟩) (by assumption) ?_
  rotate_left
  · (intro w' hSw; (try dsimp only at hSw); go_simp <;> (with_reducible rfl))
  try simp only [Act.put, List.setIfInBounds_toArray, List.set_cons_zero, List.set_cons_succ]
  refine wpAnyH_take (i := 4) (oi := ⟨some 108, _, _, _, _, _⟩) (v := ?_) rfl (by kernel_rfl) (by kernel_rfl) (by kernel_rfl) (fun _ _ _ h => h) (Or.inl ⟨by rfl, ?_⟩) (by assumption) ?_
  rotate_left
  · (intro w' hSw; (try dsimp only at hSw); go_simp <;> (with_reducible rfl))
  try simp only [Act.put, List.setIfInBounds_toArray, List.set_cons_zero, List.set_cons_succ]
  refine wpAnyH_take (i := 5) (oi := ⟨some 109, _, _, _, _, _⟩) (v := ?_) rfl (by kernel_rfl) (by kernel_rfl) (by kernel_rfl) (fun _ _ _ h => h) (Or.inl ⟨by rfl, ?_⟩) (by assumption) ?_
  rotate_left
  · (intro w' hSw; (try dsimp only at hSw); go_simp <;> (with_reducible rfl))
  try simp only [Act.put, List.setIfInBounds_toArray, List.set_cons_zero, List.set_cons_succ]
  refine wpAnyH_take (i := 6) (oi := ⟨some 110, _, _, _, _, _⟩) (v := ?_) rfl (by kernel_rfl) (by kernel_rfl) (by kernel_rfl) (fun _ _ _ h => h) (Or.inl ⟨by rfl, ?_⟩) (by assumption) ?_
  rotate_left
  · (intro w' hSw; (try dsimp only at hSw); go_simp <;> (with_reducible rfl))
  try simp only [Act.put, List.setIfInBounds_toArray, List.set_cons_zero, List.set_cons_succ]
  refine wpAnyH_take (i := 7) (oi := ⟨some 111, _, _, _, _, _⟩) (v := ?_) rfl (by kernel_rfl) (by kernel_rfl) (by kernel_rfl) (fun _ _ _ h => h) (Or.inl ⟨by rfl, ?_⟩) (by assumption) ?_
  rotate_left
  · (intro w' hSw; (try dsimp only at hSw); go_simp <;> (with_reducible rfl))
  try simp only [Act.put, List.setIfInBounds_toArray, List.set_cons_zero, List.set_cons_succ]
  refine wpAnyH_take (i := 8) (oi := ⟨some 112, _, _, _, _, _⟩) (v := ?_) rfl (by kernel_rfl) (by kernel_rfl) (by kernel_rfl) (fun _ _ _ h => h) (Or.inl ⟨by rfl, ?_⟩) (by assumption) ?_
  rotate_left
  · (intro w' hSw; (try dsimp only at hSw); go_simp <;> (with_reducible rfl))
  try simp only [Act.put, List.setIfInBounds_toArray, List.set_cons_zero, List.set_cons_succ]
  refine wpAnyH_take (i := 9) (oi := ⟨some 113, _, _, _, _, _⟩) (v := ?_) rfl (by kernel_rfl) (by kernel_rfl) (by kernel_rfl) (fun _ _ _ h => h) (Or.inl ⟨by rfl, ?_⟩) (by assumption) ?_
  rotate_left
  · (intro w' hSw; (try dsimp only at hSw); go_simp <;> (with_reducible rfl))
  try simp only [Act.put, List.setIfInBounds_toArray, List.set_cons_zero, List.set_cons_succ]
  refine wpAnyH_take (i := 10) (oi := ⟨some 114, _, _, _, _, _⟩) (v := ?_) rfl (by kernel_rfl) (by kernel_rfl) (by kernel_rfl) (fun _ _ _ h => h) (Or.inl ⟨by rfl, ?_⟩) (by assumption) ?_
  rotate_left
  · (intro w' hSw; (try dsimp only at hSw); go_simp <;> (with_reducible rfl))
  try simp only [Act.put, List.setIfInBounds_toArray, List.set_cons_zero, List.set_cons_succ]
  refine wpAnyH_take (i := 11) (oi := ⟨some 115, _, _, _, _, _⟩) (v := ?_) rfl (by kernel_rfl) (by kernel_rfl) (by kernel_rfl) (fun _ _ _ h => h) (Or.inl ⟨by rfl, ?_⟩) (by assumption) ?_
  rotate_left
  · (intro w' hSw; (try dsimp only at hSw); go_simp <;> (with_reducible rfl))
  try simp only [Act.put, List.setIfInBounds_toArray, List.set_cons_zero, List.set_cons_succ]
  refine wpAnyH_take (i := 12) (oi := ⟨some 116, _, _, _, _, _⟩) (v := ?_) rfl (by kernel_rfl) (by kernel_rfl) (by kernel_rfl) (fun _ _ _ h => h) (Or.inl ⟨by rfl, ?_⟩) (by assumption) ?_
  rotate_left
  · (intro w' hSw; (try dsimp only at hSw); go_simp <;> (with_reducible rfl))
  try simp only [Act.put, List.setIfInBounds_toArray, List.set_cons_zero, List.set_cons_succ]
  refine wpAnyH_take (i := 13) (oi := ⟨some 117, _, _, _, _, _⟩) (v := ?_) rfl (by kernel_rfl) (by kernel_rfl) (by kernel_rfl) (fun _ _ _ h => h) (Or.inl ⟨by rfl, ?_⟩) (by assumption) ?_
  rotate_left
  · (intro w' hSw; (try dsimp only at hSw); go_simp <;> (with_reducible rfl))
  try simp only [Act.put, List.setIfInBounds_toArray, List.set_cons_zero, List.set_cons_succ]
  refine wpAnyH_ready (rs := [14]) (by kernel_rfl) (by simp) ?_
  refine AllReadyH.cons (o := ⟨some 118, _, _, _, _, _⟩) rfl (fun K' hK => ?_) AllReadyH.nil
  go_simp
  go_at_call 27
  refine (HSX.out _).mono ?_
  rintro e_ w_18 ⟨rfl, hb_18⟩
  replace HX0 := hide (HX0.out.below hb_18)
  replace HX5 := hide (HX5.out.below hb_18)
  replace HX7 := hide (HX7.out.below hb_18)
  replace HX12 := hide (HX12.out.below hb_18)
  replace HB := hide (HB.out.trans (hb_18.mono HB.out.size))
  clear hb_18
  go_wp2_with fail
  refine hK.out _ _ ⟨HX5.out.cells4.1, HX5.out.cells4.2.1, HX5.out.cells4.2.2.1, HX5.out.cells4.2.2.2.1, HX12.out.cells4.1, HX12.out.cells4.2.1, HX12.out.cells4.2.2.1, HX12.out.cells4.2.2.2.1, HX7.out.c2.1, HX7.out.c2.2.1⟩ (fun hHeld => ?_)
  clear hK K'
  try simp only [Act.put, List.setIfInBounds_toArray, List.set_cons_zero, List.set_cons_succ]
  refine wpAnyH_take (i := 15) (oi := ⟨some 119, _, _, _, _, _⟩) (v := ?_) rfl (by kernel_rfl) (by kernel_rfl) (by kernel_rfl) (fun _ _ _ h => h) (Or.inl ⟨by rfl, ?_⟩) (by assumption) ?_
  rotate_left
  · (intro w' hSw; (try dsimp only at hSw); go_simp <;> (with_reducible rfl))
  try simp only [Act.put, List.setIfInBounds_toArray, List.set_cons_zero, List.set_cons_succ]
  refine wpAnyH_take (i := 16) (oi := ⟨some 120, _, _, _, _, _⟩) (v := ?_) rfl (by kernel_rfl) (by kernel_rfl) (by kernel_rfl) (fun _ _ _ h => h) (Or.inl ⟨by rfl, ?_⟩) (by assumption) ?_
  rotate_left
  · (intro w' hSw; (try dsimp only at hSw); go_simp <;> (with_reducible rfl))
  try simp only [Act.put, List.setIfInBounds_toArray, List.set_cons_zero, List.set_cons_succ]
  refine wpAnyH_take (i := 17) (oi := ⟨some 4, _, _, _, _, _⟩) (v := ?_) rfl (by kernel_rfl) (by kernel_rfl) (by kernel_rfl) (fun _ _ _ h => h) (Or.inl ⟨by rfl, ?_⟩) (by assumption) ?_
  rotate_left
  · (intro w' hSw; (try dsimp only at hSw); go_simp <;> (with_reducible rfl))
  try simp only [Act.put, List.setIfInBounds_toArray, List.set_cons_zero, List.set_cons_succ]
  refine wpAnyH_done (by kernel_rfl) ?_ _
  go_wp2_with fail
  go_ret
  exact ⟨by first | rfl | simp, HB.out⟩
end Go.Proofs.Ytejhakkfgfahaaa
