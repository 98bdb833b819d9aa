/- Lemmas: S31, S32. -/
import Derived.Shelf.Abstract
import Derived.Test.YtcdplfjegopmdaaGreatBk12
import Derived.Test.YtcdplfjegopmdaaGreatBk14
import Derived.Test.YtcdplfjegopmdaaGreatBk16
set_option linter.unusedVariables false
set_option linter.unusedSimpArgs false
/- softBits of the code. -/
namespace Go.Proofs.YtcdplfjegopmdaaGreat
open Go.RowKit Go.Lib
/-- The soft bit of place i. -/
def softP (p g : Int) (c i : Nat) : Int := leastTo (distF p g c) c (2 ^ c) i 1 * leastTo (distF p g c) c (2 ^ c) i 1 - leastTo (distF p g c) c (2 ^ c) i 0 * leastTo (distF p g c) c (2 ^ c) i 0
theorem sq_le {x M : Int} (h : 0 ≤ x ∧ x ≤ M) : 0 ≤ x * x ∧ x * x ≤ M * M := ⟨Int.mul_nonneg h.1 h.1, Int.mul_le_mul h.2 h.2 h.1 (by omega)⟩
/-- Numbers ahead of place k as they are to be. -/
def fillS (F : Nat → Int) (k j : Nat) : Int := if j < k then F j else 0
theorem fillS_set (F : Nat → Int) (k : Nat) : setF (fillS F k) k (F k) = fillS F (k + 1) := by
  funext j
  unfold setF fillS
  by_cases e : j = k
  · subst e; rw [if_pos rfl, if_pos (by omega)]
  · rw [if_neg e]
    by_cases h : j < k
    · rw [if_pos h, if_pos (by omega)]
    · rw [if_neg h, if_neg (by omega)]
set_option maxHeartbeats 8000000 in
set_option maxRecDepth 100000 in
theorem softBits_any (p g : Int) (c : Nat) (w : World) (hp : -100000000 ≤ p ∧ p ≤ 100000000) (hg : 1 ≤ g ∧ g ≤ 10000000) (h1 : 1 ≤ c) (h3 : c ≤ 3) :
    Calls Tryz.prog 71 #[.int .i64 p, .int .i64 g, .int .i64 (c : Int)] w fun e w' => ∃ gb, e = .returned (.slice (some ⟨gb, 0, none⟩) c c) ∧ OwnInts w' w.heap.size (.slice (some ⟨gb, 0, none⟩) c c) c (softP p g c) ∧ Below w.heap.size w w' := by
  have HLD := hide (fun W => leastDistances_any p g c W hp hg h1 h3)
  have HLE := hide (fun i d (hi : i < c) (hd : d < 2) => leastTo_end (D := distF p g c) (M := 170000000) hi hd (fun j => distF_le hp hg h1 h3))
  have HSP := hide (show ∀ i, softP p g c i = leastTo (distF p g c) c (2 ^ c) i 1 * leastTo (distF p g c) c (2 ^ c) i 1 - leastTo (distF p g c) c (2 ^ c) i 0 * leastTo (distF p g c) c (2 ^ c) i 0 from fun _ => rfl)
  obtain ⟨E, hE⟩ : ∃ z, leastTo (distF p g c) c (2 ^ c) = z := ⟨_, rfl⟩
  simp only [hE] at HLD HLE HSP
  clear hE
  obtain ⟨S, hS⟩ : ∃ z, softP p g c = z := ⟨_, rfl⟩
  simp only [hS] at HSP ⊢
  clear hS
  obtain ⟨i0, hi, hz0, hz1, hz2⟩ := info_parts intInfo
  have hmk := fun W => run_make_row (P := Tryz.prog) 24 3 i0 (.int .i64 0) Tryz.underlying24 hi hz0 hz1 rfl .i64 .i64 c (by rw [hz2]; omega) (by omega) W
  clear hi hz0 hz1 hz2
  go_enter Tryz.func71, Tryz.ntmps71
  go_upto_region 2 with fail
  obtain ⟨gL, hgL⟩ : ∃ z, w.heap.size = z := ⟨_, rfl⟩
  obtain ⟨w1, hw1⟩ : ∃ q : World, q = w.alloc (.cells (madeCells #[.int .i64 0] c) 3) := ⟨_, rfl⟩
  simp only [hgL]
  try rw [← hw1]
  have HO := hide (show OwnInts w1 gL (.slice (some ⟨gL, 0, none⟩) c c) c (fillS S 0) by rw [hw1]; exact (ownS_zeros w gL gL c (by omega) hgL.symm (by unfold maxLen; omega)).congr fun j _ => (if_neg (Nat.not_lt_zero j)).symm)
  have HB := hide (show Below gL w w1 by rw [hw1, ← hgL]; (repeat (first | (with_reducible exact Below.refl _ _) | (with_reducible refine Go.below_drewN ?_ _) | (with_reducible refine Below.drew ?_) | (with_reducible refine Below.alloc ?_ (by first | exact Nat.le_refl _ | (simp; done) | (simp; omega) | omega) _) | (with_reducible refine Below.setCell ?_ (by first | exact Nat.le_refl _ | (simp; done) | (simp; omega) | omega) _))))
  have hs1 : gL < w1.heap.size := by rw [hw1, ← hgL]; simp
  clear hw1 hmk
  go_wp2_with fail
  refine (HLD.out _).mono ?_
  rintro e w2 ⟨gb, rfl, hgb, hrow, hb2⟩
  replace HO := hide (HO.out.below hb2)
  replace HB := hide (HB.out.trans (hb2.mono (by omega)))
  have HR := hide hrow
  have hgb2 : gL < gb := by omega
  clear hrow hb2 hgb hs1 HLD
  go_wp2_with fail
  go_loopw [17] (fun i wr => ∃ k : Nat, k ≤ c ∧ i = .int .i64 (k : Int) ∧ Hid (OwnInts wr gL (.slice (some ⟨gL, 0, none⟩) c c) c (fillS S k)) ∧ Hid (Box wr gb 129 (pairC c E)) ∧ Hid (Below gL w wr)) (fun i _ => c - (Go.RowKit.intOf i).toNat)
  case atStart => exact ⟨0, Nat.zero_le _, rfl, HO, HR, HB⟩
  case round =>
    clear HO HR HB
    obtain ⟨k, hk, rfl, HO, HR, HB⟩ := hrel
    obtain ⟨wA, rfl⟩ : ∃ x : World, x = wr := ⟨_, rfl⟩
    by_cases hlt : k < c
    case neg =>
      obtain rfl : c = k := by omega
      have hltz : ¬ (c : Int) < (c : Int) := by omega
      go_wp2_with fail
      go_ret
      subst hgL
      first | exact ⟨HO.out.congr fun j hj => if_pos hj, HB.out⟩ | exact ⟨_, rfl, HO.out.congr fun j hj => if_pos hj, HB.out⟩
    have hltz : (k : Int) < (c : Int) := by omega
    have y0 := (HR.out.at_ (k * 2 + 0)).trans (pairC_at E hlt (by decide))
    have y1 := (HR.out.at_ (k * 2 + 1)).trans (pairC_at E hlt (by decide))
    simp only [Nat.add_zero] at y0
    have hl0 := HLE.out k 0 hlt (by decide)
    have hl1 := HLE.out k 1 hlt (by decide)
    have HSK := hide (HSP.out k)
    obtain ⟨a, ha⟩ : ∃ z, E k 0 = z := ⟨_, rfl⟩
    obtain ⟨b, hb⟩ : ∃ z, E k 1 = z := ⟨_, rfl⟩
    rw [ha] at y0 hl0 HSK
    rw [hb] at y1 hl1 HSK
    clear ha hb
    have hlr := HR.out.lt
    go_upto_region 5 with fail
    obtain ⟨b9, hb9⟩ : ∃ z, wA.heap.size = z := ⟨_, rfl⟩
    obtain ⟨w3, hw3⟩ : ∃ q : World, q = wA.alloc (.cells #[.int .i64 a, .int .i64 b] 129) := ⟨_, rfl⟩
    try rw [← hw3]
    simp only [hb9]
    have HX := hide (show Box w3 b9 129 #[.int .i64 a, .int .i64 b] by rw [hw3]; exact Box.made hb9.symm)
    have hc3 : Below wA.heap.size wA w3 := by rw [hw3]; (repeat (first | (with_reducible exact Below.refl _ _) | (with_reducible refine Go.below_drewN ?_ _) | (with_reducible refine Below.drew ?_) | (with_reducible refine Below.alloc ?_ (by first | exact Nat.le_refl _ | (simp; done) | (simp; omega) | omega) _) | (with_reducible refine Below.setCell ?_ (by first | exact Nat.le_refl _ | (simp; done) | (simp; omega) | omega) _)))
    replace HO := hide (HO.out.below hc3)
    replace HR := hide (HR.out.below hc3)
    replace HB := hide (HB.out.trans (hc3.mono (by omega)))
    clear hw3 hc3 y0 y1
    obtain ⟨c0, z0, k0, k1, hlz⟩ := HX.out.t2
    have sa := sq_le hl0
    have sb := sq_le hl1
    obtain ⟨aa, haa⟩ : ∃ z, a * a = z := ⟨_, rfl⟩
    obtain ⟨bb, hbb⟩ : ∃ z, b * b = z := ⟨_, rfl⟩
    rw [haa] at sa HSK
    rw [hbb] at sb HSK
    have q1 : IntKind.i64.wrap (a * a) = aa := by rw [haa]; exact IntWalk.i64_in _ (by omega)
    have q2 : IntKind.i64.wrap (b * b) = bb := by rw [hbb]; exact IntWalk.i64_in _ (by omega)
    obtain ⟨v, hv⟩ : ∃ z, bb - aa = z := ⟨_, rfl⟩
    rw [hv] at HSK
    have q3 : IntKind.i64.wrap (bb - aa) = v := by rw [hv]; exact IntWalk.i64_in _ (by omega)
    have e0 := HO.out.cellAt hlt
    have e1 := HO.out.frozen k
    have HO2 := hide (HO.out.set_ k v)
    rw [← HSK.out, fillS_set, HSK.out] at HO2
    have HR2 := hide (HR.out.other (p := ⟨gL, k, none⟩) (by show gb ≠ gL; omega) (.int .i64 v))
    have HB2 := hide (HB.out.setCell (p := ⟨gL, k, none⟩) (Nat.le_refl _) (.int .i64 v))
    clear HO HR HB haa hbb hv sa sb hl0 hl1 HSK HLE HSP
    go_wp2_with fail
    go_roundw
    case rel => exact ⟨k + 1, by omega, by go_num, HO2, HR2, HB2⟩
    case measure => simp [Go.RowKit.intOf]; omega
end Go.Proofs.YtcdplfjegopmdaaGreat
/- areWithin, symbolsError, receivedError of the code. -/
namespace Go.Proofs.YtcdplfjegopmdaaGreat
open Go.RowKit
set_option maxHeartbeats 2000000 in
theorem indexGaus_any (g : Nat) (lb : Array Value) (eg : ∀ args w, (callFunc g args).run Tryz.prog w = .ok (.enter g args) w) (p : Gau → Bool) (A : Option Addr) (n c : Nat) (F : Nat → Gau) (w : World)
    (hn : n ≤ 100000) (hI : GausAt w 0 A n F) (hp : ∀ x W, Below w.heap.size w W → Calls Tryz.prog g (#[.agg #[.int .i64 x.re, .int .i64 x.im]] ++ lb) W fun e w' => e = .returned (.bool (p x)) ∧ Below W.heap.size W w') :
    Calls Tryz.prog 119 #[.slice A n c, .func (.func g) #[] lb] w fun e w' => ∃ r : Int, e = .returned (.int .i64 r) ∧ (0 ≤ r ↔ ∃ j, j < n ∧ p (F j) = true) ∧ Below w.heap.size w w' := by
  have HP := hide hp
  have HI := hide hI
  clear hp hI
  go_enter Tryz.func119, Tryz.ntmps119
  go_wp2
  go_loopg [8] n (fun gg s8 wr => ∃ k : Nat, k ≤ n ∧ n - k ≤ gg ∧ s8 = .int .i64 k ∧ Hid (Below w.heap.size w wr) ∧ Hid (∀ j, j < k → p (F j) = false))
  case atStart => exact ⟨0, Nat.zero_le _, by omega, rfl, hide (Below.refl _ _), hide fun j h => absurd h (Nat.not_lt_zero _)⟩
  case round =>
    obtain ⟨k, hk, hg, rfl, HB, HZ⟩ := hrel
    obtain ⟨wA, rfl⟩ : ∃ x : World, x = wr := ⟨_, rfl⟩
    by_cases hlt : k < n
    · have hltz : (k : Int) < (n : Int) := by omega
      obtain ⟨b, o, rfl, -, hb, c0, c1⟩ := (HI.out.below HB.out) k hlt
      have hcall := HP.out (F k) wA HB.out
      have HF := hide (rfl : F k = F k)
      generalize hx : F k = x at c0 c1 hcall
      have HX := hide hx
      clear hx HF
      cases hq : p x with
      | true =>
        rw [hq] at hcall
        go_wp2_with (go_at_fn g; refine hcall.mono ?_; rintro e w' ⟨rfl, hb'⟩)
        go_ret
        exact ⟨(k : Int), rfl, ⟨fun _ => ⟨k, hlt, by rw [HX.out]; exact hq⟩, fun _ => by omega⟩, HB.out.trans (hb'.mono HB.out.size)⟩
      | false =>
        rw [hq] at hcall
        go_wp2_with (go_at_fn g; refine hcall.mono ?_; rintro e w' ⟨rfl, hb'⟩)
        go_roundg (n - (k + 1))
        case measure => omega
        case rel =>
          refine ⟨k + 1, by omega, by omega, by go_num, hide (HB.out.trans (hb'.mono HB.out.size)), hide fun j hj => ?_⟩
          rcases Nat.lt_or_ge j k with h | h
          · exact HZ.out j h
          · obtain rfl : j = k := by omega
            rw [HX.out]; exact hq
    · have hltz : ¬ (k : Int) < (n : Int) := by omega
      obtain rfl : k = n := by omega
      go_wp2
      go_ret
      exact ⟨-1, rfl, ⟨fun h => absurd h (by decide), fun ⟨j, hj, ht⟩ => by rw [HZ.out j hj] at ht; cases ht⟩, HB.out⟩

set_option maxHeartbeats 1000000 in
theorem containsGaus_any (g : Nat) (lb : Array Value) (eg : ∀ args w, (callFunc g args).run Tryz.prog w = .ok (.enter g args) w) (p : Gau → Bool) (A : Option Addr) (n c : Nat) (F : Nat → Gau) (w : World)
    (hn : n ≤ 100000) (hI : GausAt w 0 A n F) (hp : ∀ x W, Below w.heap.size w W → Calls Tryz.prog g (#[.agg #[.int .i64 x.re, .int .i64 x.im]] ++ lb) W fun e w' => e = .returned (.bool (p x)) ∧ Below W.heap.size W w') :
    Calls Tryz.prog 98 #[.slice A n c, .func (.func g) #[] lb] w fun e w' => e = .returned (.bool (anyN n fun j => p (F j))) ∧ Below w.heap.size w w' := by
  have HX := hide (indexGaus_any g lb eg p A n c F w hn hI hp)
  clear hp hI
  go_enter Tryz.func98, Tryz.ntmps98
  go_wp2_with (go_at_call 119; refine HX.out.mono ?_; rintro e w' ⟨r, rfl, hr, hb'⟩)
  go_ret
  refine ⟨ret_bool ?_, hb'⟩
  rw [Bool.eq_iff_iff, anyN_iff]
  exact decide_eq_true_iff


set_option maxHeartbeats 4000000 in
theorem areWithin1_any (x : Gau) (M : Int) (b : Nat) (w : World) (hM : 0 ≤ M ∧ M ≤ 9000000000000000000) (hb : Box w b 3 #[.int .i64 M]) :
    Calls Tryz.prog 99 #[.agg #[.int .i64 x.re, .int .i64 x.im], .pointer (some ⟨b, 0, none⟩)] w fun e w' => e = .returned (.bool (!x.isIn M)) ∧ Below w.heap.size w w' := by
  have q1 : IntKind.i64.wrap (-M) = -M := IntWalk.i64_in _ (by omega)
  have HI := hide (show x.isIn M = (withinB x.re (-M) M && withinB x.im (-M) M) from rfl)
  obtain ⟨u, hu⟩ : ∃ z, x.re = z := ⟨_, rfl⟩
  obtain ⟨v, hv⟩ : ∃ z, x.im = z := ⟨_, rfl⟩
  rw [hu, hv] at HI
  rw [hu, hv]
  clear hu hv hM
  have HBX := hide hb
  clear hb
  cases hA : withinB u (-M) M with
  | false =>
    have HN := hide (show (true : Bool) = !x.isIn M by rw [HI.out, hA]; rfl)
    have HA := hide hA
    clear hA
    go_enter Tryz.func99, Tryz.ntmps99
    go_upto_region 1 with fail
    obtain ⟨w1, hw1⟩ : ∃ q : World, q = w.alloc (.cells #[.int .i64 u, .int .i64 v] 62) := ⟨_, rfl⟩
    try rw [← hw1]
    have HX := hide (show Box w1 w.heap.size 62 #[.int .i64 u, .int .i64 v] by rw [hw1]; exact Box.made rfl)
    have HB := hide (show Below w.heap.size w w1 by rw [hw1]; (repeat (first | (with_reducible exact Below.refl _ _) | (with_reducible refine Go.below_drewN ?_ _) | (with_reducible refine Below.drew ?_) | (with_reducible refine Below.alloc ?_ (by first | exact Nat.le_refl _ | (simp; done) | (simp; omega) | omega) _) | (with_reducible refine Below.setCell ?_ (by first | exact Nat.le_refl _ | (simp; done) | (simp; omega) | omega) _))))
    clear hw1
    have y0 := (HBX.out.below HB.out).at_ 0
    simp only [List.getElem?_toArray] at y0
    obtain ⟨c0, c1, k0, k1, hlz⟩ := HX.out.t2
    go_wp2_with (go_at_call 63; refine (isWithin_any _ _ _ _).mono ?_; rintro e_ v_ ⟨rfl, rfl⟩; rw [HA.out])
    go_ret
    exact ⟨ret_bool HN.out, HB.out⟩
  | true =>
    have HN := hide (show (!withinB v (-M) M) = !x.isIn M by rw [HI.out, hA]; rfl)
    obtain ⟨r, hr⟩ : ∃ z, withinB v (-M) M = z := ⟨_, rfl⟩
    rw [hr] at HN
    have HR := hide hr
    have HA := hide hA
    clear hA hr
    go_enter Tryz.func99, Tryz.ntmps99
    go_upto_region 1 with fail
    obtain ⟨w1, hw1⟩ : ∃ q : World, q = w.alloc (.cells #[.int .i64 u, .int .i64 v] 62) := ⟨_, rfl⟩
    try rw [← hw1]
    have HX := hide (show Box w1 w.heap.size 62 #[.int .i64 u, .int .i64 v] by rw [hw1]; exact Box.made rfl)
    have HB := hide (show Below w.heap.size w w1 by rw [hw1]; (repeat (first | (with_reducible exact Below.refl _ _) | (with_reducible refine Go.below_drewN ?_ _) | (with_reducible refine Below.drew ?_) | (with_reducible refine Below.alloc ?_ (by first | exact Nat.le_refl _ | (simp; done) | (simp; omega) | omega) _) | (with_reducible refine Below.setCell ?_ (by first | exact Nat.le_refl _ | (simp; done) | (simp; omega) | omega) _))))
    clear hw1
    have y0 := (HBX.out.below HB.out).at_ 0
    simp only [List.getElem?_toArray] at y0
    obtain ⟨c0, c1, k0, k1, hlz⟩ := HX.out.t2
    go_wp2_with (go_at_call 63; refine (isWithin_any _ _ _ _).mono ?_; rintro e_ v_ ⟨rfl, rfl⟩; first | rw [HA.out] | rw [HR.out])
    go_ret
    exact ⟨ret_bool HN.out, HB.out⟩
def insideB (M : Int) (n : Nat) (F : Nat → Gau) : Bool := !anyN n fun j => !(F j).isIn M
theorem insideB_iff {M : Int} {n : Nat} {F : Nat → Gau} : insideB M n F = true ↔ ∀ j, j < n → (F j).Within M := by
  unfold insideB
  rw [Bool.not_eq_true', ← Bool.not_eq_true, anyN_iff]
  constructor
  · intro h j hj
    by_cases hb : (F j).isIn M = true
    · exact Gau.isIn_iff.1 hb
    · exact absurd ⟨j, hj, by simp [hb]⟩ h
  · rintro h ⟨j, hj, hb⟩
    have := Gau.isIn_iff.2 (h j hj)
    rw [this] at hb
    cases hb
set_option maxHeartbeats 1000000 in
theorem areWithin_any (A : Option Addr) (n c : Nat) (F : Nat → Gau) (M : Int) (w : World) (hM : 0 ≤ M ∧ M ≤ 9000000000000000000) (hn : n ≤ 100000) (hI : GausAt w 0 A n F) :
    Calls Tryz.prog 64 #[.slice A n c, .int .i64 M] w fun e w' => e = .returned (.bool (insideB M n F)) ∧ Below w.heap.size w w' := by
  have HX := hide (containsGaus_any 99 #[.pointer (some ⟨w.heap.size, 0, none⟩)] (enters_of Tryz.func99 (by kernel_rfl) rfl) (fun x => !x.isIn M) A n c F (w.alloc (.cells #[.int .i64 M] 3)) hn (hI.alloc _) (fun x W hW => areWithin1_any x M w.heap.size W hM ((Box.made rfl).below hW)))
  clear hI
  go_enter Tryz.func64, Tryz.ntmps64
  go_wp2_with (go_at_call 98; refine HX.out.mono ?_; rintro e w' ⟨rfl, hb'⟩)
  go_ret
  exact ⟨rfl, ((Below.refl _ _).alloc (Nat.le_refl _) _).trans (hb'.mono (by simp))⟩
/-- The error of n symbols. -/
def symsE (n : Nat) (F : Nat → Gau) : Int := if n = 0 then 10 else if 200 < n then 8 else unI (insideB 100000000 n F) 2
theorem symsE_zero {n : Nat} {F : Nat → Gau} (h : symsE n F = 0) : 0 < n ∧ n ≤ 200 ∧ ∀ j, j < n → (F j).Within 100000000 := by
  unfold symsE at h
  by_cases h0 : n = 0
  · rw [if_pos h0] at h; exact absurd h (by decide)
  · rw [if_neg h0] at h
    by_cases h1 : 200 < n
    · rw [if_pos h1] at h; exact absurd h (by decide)
    · rw [if_neg h1] at h
      refine ⟨by omega, by omega, insideB_iff.1 ?_⟩
      unfold unI at h
      by_cases hb : insideB 100000000 n F = true
      · exact hb
      · rw [if_neg hb] at h; exact absurd h (by decide)
theorem symsE_ok {n : Nat} {F : Nat → Gau} (h0 : 0 < n) (h1 : n ≤ 200) (h : ∀ j, j < n → (F j).Within 100000000) : symsE n F = 0 := by
  unfold symsE unI
  rw [if_neg (by omega), if_neg (by omega), if_pos (insideB_iff.2 h)]
set_option maxHeartbeats 1000000 in
theorem symbolsError_any (A : Option Addr) (n c : Nat) (F : Nat → Gau) (w : World) (hn : n ≤ 100000) (hI : GausAt w 0 A n F) :
    Calls Tryz.prog 101 #[.slice A n c] w fun e w' => e = .returned (.int .i64 (symsE n F)) ∧ Below w.heap.size w w' := by
  by_cases h0 : n = 0
  · have HE := hide (show symsE n F = 10 by unfold symsE; rw [if_pos h0])
    have t0 : ((n : Int) == 0) = true := by simp; omega
    clear hI
    go_enter Tryz.func101, Tryz.ntmps101
    go_wp2_with fail
    go_ret
    exact ⟨ret_int HE.out.symm, Below.refl _ _⟩
  · have t0 : ((n : Int) == 0) = false := by simp; omega
    by_cases h1 : 200 < n
    · have HE := hide (show symsE n F = 8 by unfold symsE; rw [if_neg h0, if_pos h1])
      have t1 : (200 : Int) < (n : Int) := by omega
      clear hI
      go_enter Tryz.func101, Tryz.ntmps101
      go_wp2_with fail
      go_ret
      exact ⟨ret_int HE.out.symm, Below.refl _ _⟩
    · have HE := hide (show symsE n F = unI (insideB 100000000 n F) 2 by unfold symsE; rw [if_neg h0, if_neg h1])
      have t1 : ¬ (200 : Int) < (n : Int) := by omega
      have HA := hide (areWithin_any A n c F 100000000 w (by decide) hn hI)
      clear hI
      cases hb : insideB 100000000 n F with
      | true =>
        rw [hb] at HA HE
        clear hb
        go_enter Tryz.func101, Tryz.ntmps101
        go_wp2_with (go_at_call 64; refine HA.out.mono ?_; rintro e w' ⟨rfl, hb'⟩)
        go_ret
        exact ⟨ret_int HE.out.symm, hb'⟩
      | false =>
        rw [hb] at HA HE
        clear hb
        go_enter Tryz.func101, Tryz.ntmps101
        go_wp2_with (go_at_call 64; refine HA.out.mono ?_; rintro e w' ⟨rfl, hb'⟩)
        go_ret
        exact ⟨ret_int HE.out.symm, hb'⟩
/-- The error of what is received. -/
def recvE (k g : Int) (n : Nat) (F : Nat → Gau) : Int := if ordE k = 0 then if withinB g 1 10000000 = true then symsE n F else 2 else ordE k
theorem rec_cells {w : World} {b : Nat} {t : TypeId} {x y z : Value} (h : Box w b t #[x, y, z]) : w.cell? ⟨b, 0, none⟩ = some x ∧ w.cell? ⟨b, 1, none⟩ = some y ∧ w.cell? ⟨b, 2, none⟩ = some z ∧ b < w.heap.size := ⟨h.at_ 0, h.at_ 1, h.at_ 2, h.lt⟩
set_option maxHeartbeats 2000000 in
theorem receivedError_any (k g : Int) (A : Option Addr) (n c : Nat) (F : Nat → Gau) (w : World) (hn : n ≤ 100000) (hI : GausAt w 0 A n F) :
    Calls Tryz.prog 107 #[.agg #[.int .i64 k, .int .i64 g, .slice A n c]] w fun e w' => e = .returned (.int .i64 (recvE k g n F)) ∧ Below w.heap.size w w' := by
  obtain ⟨E, hE⟩ : ∃ z, recvE k g n F = z := ⟨_, rfl⟩
  rw [hE]
  unfold recvE at hE
  have HI := hide hI
  have HO := hide (fun W => orderError_any k W)
  obtain ⟨o, ho⟩ : ∃ z, ordE k = z := ⟨_, rfl⟩
  rw [ho] at hE HO
  have HWI := hide (fun W => isWithin_any g 1 10000000 W)
  clear hI ho
  go_enter Tryz.func107, Tryz.ntmps107
  go_upto_region 1 with fail
  obtain ⟨w1, hw1⟩ : ∃ q : World, q = w.alloc (.cells #[.int .i64 k, .int .i64 g, .slice A n c] 66) := ⟨_, rfl⟩
  try rw [← hw1]
  have HX := hide (show Box w1 w.heap.size 66 #[.int .i64 k, .int .i64 g, .slice A n c] by rw [hw1]; exact Box.made rfl)
  have HB := hide (show Below w.heap.size w w1 by rw [hw1]; (repeat (first | (with_reducible exact Below.refl _ _) | (with_reducible refine Go.below_drewN ?_ _) | (with_reducible refine Below.drew ?_) | (with_reducible refine Below.alloc ?_ (by first | exact Nat.le_refl _ | (simp; done) | (simp; omega) | omega) _) | (with_reducible refine Below.setCell ?_ (by first | exact Nat.le_refl _ | (simp; done) | (simp; omega) | omega) _))))
  clear hw1
  have HS := hide (symbolsError_any A n c F w1 hn (HI.out.below HB.out))
  obtain ⟨c0, c1, c2, hlz⟩ := rec_cells HX.out
  by_cases h0 : o = 0
  · subst h0
    rw [if_pos rfl] at hE
    cases hb : withinB g 1 10000000 with
    | true =>
      rw [hb] at hE HWI
      rw [if_pos rfl] at hE
      rw [hE] at HS
      clear hE hb
      go_wp2_with (first | (go_at_call 60; refine (HO.out _).mono ?_; rintro e_ v_ ⟨rfl, rfl⟩) | (go_at_call 63; refine (HWI.out _).mono ?_; rintro e_ v_ ⟨rfl, rfl⟩) | (go_at_call 101; refine HS.out.mono ?_; rintro e_ w_ ⟨rfl, hb_⟩))
      go_ret
      exact ⟨rfl, HB.out.trans (hb_.mono HB.out.size)⟩
    | false =>
      rw [hb] at hE HWI
      rw [if_neg (by decide)] at hE
      subst hE
      clear hb
      go_wp2_with (first | (go_at_call 60; refine (HO.out _).mono ?_; rintro e_ v_ ⟨rfl, rfl⟩) | (go_at_call 63; refine (HWI.out _).mono ?_; rintro e_ v_ ⟨rfl, rfl⟩))
      go_ret
      exact ⟨rfl, HB.out⟩
  · rw [if_neg h0] at hE
    subst hE
    have t0 : (o != 0) = true := by simpa using h0
    go_wp2_with (go_at_call 60; refine (HO.out _).mono ?_; rintro e_ v_ ⟨rfl, rfl⟩)
    go_ret
    exact ⟨rfl, HB.out⟩
end Go.Proofs.YtcdplfjegopmdaaGreat
