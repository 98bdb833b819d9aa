/- Lemmas: E24, E60. -/
import Derived.Laws.MakeOwn
import Derived.Laws.OwnMore
import Derived.OwnWalk
import Derived.Maps.AppendAt
import Derived.Test.YtdkbjgnkehoplaaBy09
import Derived.Test.YtdkbjgnkehoplaaBy16
import Derived.Test.YtdkbjgnkehoplaaBy19
set_option linter.unusedVariables false
set_option linter.unusedSimpArgs false
/- antennas, Copy, On, CheckBeam, BeamErr, StepErr and Steering of the reference. -/
namespace Go.Proofs.Ytdkbjgnkehoplaa
open Go.RowKit Go.Great
set_option maxHeartbeats 2000000 in
theorem antennas_any (A : Option Addr) (n c : Nat) (w : World) :
    Calls Try.prog 62 #[.agg #[.slice A n c]] w fun e w' => e = .returned (.bool (decide ((n : Int) ≤ 10))) ∧ Below w.heap.size w w' := by
  go_enter Try.func62, Try.ntmps62
  go_upto_region 1 with fail
  obtain ⟨w_1, hw_1⟩ : ∃ q : World, q = (w.alloc (.cells #[.slice A n c] 43)) := ⟨_, rfl⟩
  try rw [← hw_1]
  have HX0 := hide (show Box w_1 (w.heap.size) 43 #[.slice A n c] by rw [hw_1]; exact Box.made rfl)
  have HB := hide (show Below w.heap.size w w_1 by rw [hw_1]; (repeat (first | (with_reducible exact Below.refl _ _) | (with_reducible refine Go.below_drewN ?_ _) | (with_reducible refine Below.drew ?_) | (with_reducible refine Below.alloc ?_ (by first | exact Nat.le_refl _ | (simp; done) | (simp; omega) | omega) _) | (with_reducible refine Below.setCell ?_ (by first | exact Nat.le_refl _ | (simp; done) | (simp; omega) | omega) _))))
  clear hw_1
  obtain ⟨x0, -, hlx⟩ := HX0.out.c1
  go_wp2_with fail
  go_ret
  exact ⟨rfl, HB.out⟩
set_option maxHeartbeats 2000000 in
theorem Copy_any (A : Option Addr) (n c : Nat) (F : Nat → Int) (w : World) (hn : n ≤ 100000) (hI : IntsAt w 0 A n F) :
    Calls Try.prog 21 #[.agg #[.slice A n c]] w fun e w' => ∃ B d, e = .returned (.agg #[.slice B n d]) ∧ n ≤ d ∧ d ≤ 9223372036854775807 ∧ IntsAt w' w.heap.size B n F ∧ Below w.heap.size w w' := by
  have HC := hide (fun W (h : IntsAt W 0 A n F) => copyInts_own A n c F W (by omega) h)
  have HI := hide hI
  clear hI
  go_enter Try.func21, Try.ntmps21
  go_upto_region 1 with fail
  obtain ⟨w_1, hw_1⟩ : ∃ q : World, q = ((w.alloc (.cells #[.slice A n c] 43)).alloc (.cells #[.slice none 0 0] 43)) := ⟨_, rfl⟩
  try rw [← hw_1]
  have HX0 := hide (show Box w_1 (w.heap.size) 43 #[.slice A n c] by rw [hw_1]; exact (Box.made rfl).alloc _)
  have HX1 := hide (show Box w_1 (w.heap.size + 1) 43 #[.slice none 0 0] by rw [hw_1]; exact Box.made (by simp))
  have HB := hide (show Below w.heap.size w w_1 by rw [hw_1]; (repeat (first | (with_reducible exact Below.refl _ _) | (with_reducible refine Go.below_drewN ?_ _) | (with_reducible refine Below.drew ?_) | (with_reducible refine Below.alloc ?_ (by first | exact Nat.le_refl _ | (simp; done) | (simp; omega) | omega) _) | (with_reducible refine Below.setCell ?_ (by first | exact Nat.le_refl _ | (simp; done) | (simp; omega) | omega) _))))
  clear hw_1
  obtain ⟨x0, -, hlx⟩ := HX0.out.c1
  go_wp2_with fail
  refine (HC.out _ (HI.out.below HB.out)).mono ?_
  rintro e_ w2 ⟨v, rfl, ho, hb⟩
  obtain ⟨B, d, rfl, hd, hi⟩ := ho.form
  have hcap := ho.cap_any
  have hlt0 := HX1.out.lt
  have HI2 := hide (hi.other (p := ⟨w.heap.size + 1, 0, none⟩) (by show w.heap.size + 1 < _; exact hlt0) (.slice B n d))
  have HX2 := hide ((HX1.out.below hb).put1 (.slice B n d))
  have f0 := (HX1.out.below hb).free 0
  have z0 := (HX1.out.below hb).at_ 0
  simp only [List.getElem?_toArray] at z0
  have HB2 := hide ((HB.out.trans (hb.mono HB.out.size)).setCell (p := ⟨w.heap.size + 1, 0, none⟩) (Nat.le_succ _) (.slice B n d))
  have hs2 := HB.out.size
  clear x0 hlx ho hb hi
  go_wp2_with fail
  have y0 := HX2.out.at_ 0
  simp only [List.getElem?_toArray] at y0
  refine bodyPost_ret (v := .agg #[.slice B n d]) ?_ rfl ⟨B, d, rfl, hcap.1, hcap.2, HI2.out.weak hs2, HB2.out⟩
  simp [results, Try.results21, go_sem, y0]
/-- How many antennas are on. -/
def onN (F : Nat → Int) : Nat → Nat
  | 0 => 0
  | k + 1 => if F k = -1 then onN F k else onN F k + 1
theorem onN_le (F : Nat → Int) : ∀ k, onN F k ≤ k
  | 0 => Nat.le_refl _
  | k + 1 => by
    have := onN_le F k
    unfold onN
    split <;> omega
set_option maxHeartbeats 4000000 in
set_option maxRecDepth 100000 in
theorem On_any (A : Option Addr) (n c : Nat) (F : Nat → Int) (w : World) (hn : n ≤ 100000) (hI : IntsAt w 0 A n F) :
    Calls Try.prog 119 #[.agg #[.slice A n c]] w fun e w' => e = .returned (.int .i64 (onN F n : Int)) ∧ Below w.heap.size w w' := by
  have HI := hide hI
  have HL := hide (onN_le F)
  clear hI
  go_enter Try.func119, Try.ntmps119
  go_upto_region 1 with fail
  obtain ⟨w_1, hw_1⟩ : ∃ q : World, q = (w.alloc (.cells #[.slice A n c] 43)) := ⟨_, rfl⟩
  try rw [← hw_1]
  have HX0 := hide (show Box w_1 (w.heap.size) 43 #[.slice A n c] by rw [hw_1]; exact Box.made rfl)
  have HB := hide (show Below w.heap.size w w_1 by rw [hw_1]; (repeat (first | (with_reducible exact Below.refl _ _) | (with_reducible refine Go.below_drewN ?_ _) | (with_reducible refine Below.drew ?_) | (with_reducible refine Below.alloc ?_ (by first | exact Nat.le_refl _ | (simp; done) | (simp; omega) | omega) _) | (with_reducible refine Below.setCell ?_ (by first | exact Nat.le_refl _ | (simp; done) | (simp; omega) | omega) _))))
  clear hw_1
  obtain ⟨x0, -, hlx⟩ := HX0.out.c1
  go_wp2_with fail
  go_loopw [3, 4] (fun s i wr => ∃ k : Nat, k ≤ n ∧ i = .int .i64 (k : Int) ∧ s = .int .i64 (onN F k : Int) ∧ wr = w_1) (fun _ i _ => n - (Go.RowKit.intOf i).toNat)
  case atStart => exact ⟨0, Nat.zero_le _, rfl, rfl, rfl⟩
  case round =>
    obtain ⟨k, hk, rfl, rfl, rfl⟩ := hrel
    by_cases hlt : k < n
    · have hltz : (k : Int) < (n : Int) := by omega
      obtain ⟨b, o, rfl, -, hb, hcell⟩ := (HI.out.below HB.out) k hlt
      have HS := hide (show onN F (k + 1) = if F k = -1 then onN F k else onN F k + 1 from rfl)
      have hle := HL.out k
      obtain ⟨f, hf⟩ : ∃ z, F k = z := ⟨_, rfl⟩
      rw [hf] at hcell HS
      obtain ⟨m, hm⟩ : ∃ z, onN F k = z := ⟨_, rfl⟩
      rw [hm] at hle HS
      simp only [hm]
      have q1 : IntKind.i64.wrap ((m : Int) + 1) = ((m + 1 : Nat) : Int) := by rw [show (m : Int) + 1 = ((m + 1 : Nat) : Int) by omega]; exact IntWalk.i64_in _ (by omega)
      clear hf hm
      by_cases h1 : f = -1
      · have t1 : (f != -1) = false := by simpa using h1
        have HV := hide (HS.out.trans (if_pos h1))
        clear HS h1
        go_wp2_with fail
        go_roundw
        case rel => exact ⟨k + 1, by omega, by go_num, by rw [HV.out], by first | rfl | trivial⟩
        case measure => simp [Go.RowKit.intOf]; omega
      · have t1 : (f != -1) = true := by simpa using h1
        have HV := hide (HS.out.trans (if_neg h1))
        clear HS h1
        go_wp2_with fail
        go_roundw
        case rel => exact ⟨k + 1, by omega, by go_num, by rw [HV.out]; first | rfl | go_num, by first | rfl | trivial⟩
        case measure => simp [Go.RowKit.intOf]; omega
    · obtain rfl : k = n := by omega
      go_wp2_with fail
      go_ret
      exact ⟨rfl, HB.out⟩
theorem onN_any {F : Nat → Int} : ∀ n, (anyN n fun j => onB (F j)) = decide (onN F n ≠ 0)
  | 0 => by simp [anyN, onN]
  | k + 1 => by
    have ih := onN_any (F := F) k
    have e : (anyN (k + 1) fun j => onB (F j)) = ((anyN k fun j => onB (F j)) || onB (F k)) := by
      simp [anyN, List.range_succ, List.any_append]
    rw [e, ih]
    unfold onB
    show _ = decide ((if F k = -1 then onN F k else onN F k + 1) ≠ 0)
    by_cases h : F k = -1
    · simp [h]
    · simp [h]
set_option maxHeartbeats 4000000 in
set_option maxRecDepth 100000 in
theorem CheckBeam_ref (A : Option Addr) (n c : Nat) (F : Nat → Int) (w : World) (hn9 : n ≤ 9223372036854775807) (hI : IntsAt w 0 A n F) :
    Calls Try.prog 73 #[.agg #[.slice A n c]] w fun e w' => e = .returned (.tuple #[.int .i64 (cbI n F), .int .i64 (cbE n F)]) ∧ Below w.heap.size w w' := by
  have HE := hide (show cbE n F = if cbA n = 0 then (if phE F n = 0 then unI (anyN n fun j => onB (F j)) 11 else phE F n) else cbA n from rfl)
  have HN := hide (show cbI n F = if cbA n = 0 then (if phE F n = 0 then 0 else ((badI (fun j => inE (-1) 7 (F j)) n : Nat) : Int)) else 0 from rfl)
  have HAA := hide (show cbA n = if unI (decide (0 < n)) 10 = 0 then (if unI (decide ((n : Int) ≤ 8)) 8 = 0 then 0 else unI (decide ((n : Int) ≤ 8)) 8) else unI (decide (0 < n)) 10 from rfl)
  have HON := hide (onN_any (F := F) n)
  have HOL := hide (onN_le F n)
  have HCO := hide (fun W (k : n ≤ 8) (h : IntsAt W 0 A n F) => On_any A n c F W (by omega) h)
  have HPH := hide (show phE F n = badE (fun j => inE (-1) 7 (F j)) n from rfl)
  generalize cbE n F = V at *
  generalize cbI n F = R at *
  generalize cbA n = a at *
  generalize phE F n = p at *
  obtain ⟨m, hm⟩ : ∃ z, onN F n = z := ⟨_, rfl⟩
  rw [hm] at HON HOL
  simp only [hm] at HCO
  have HI := hide hI
  clear hI hm
  go_enter Try.func73, Try.ntmps73
  go_upto_region 1 with fail
  obtain ⟨w_1, hw_1⟩ : ∃ q : World, q = (w.alloc (.cells #[.slice A n c] 43)) := ⟨_, rfl⟩
  try rw [← hw_1]
  have HX0 := hide (show Box w_1 (w.heap.size) 43 #[.slice A n c] by rw [hw_1]; exact Box.made rfl)
  have HB := hide (show Below w.heap.size w w_1 by rw [hw_1]; (repeat (first | (with_reducible exact Below.refl _ _) | (with_reducible refine Go.below_drewN ?_ _) | (with_reducible refine Below.drew ?_) | (with_reducible refine Below.alloc ?_ (by first | exact Nat.le_refl _ | (simp; done) | (simp; omega) | omega) _) | (with_reducible refine Below.setCell ?_ (by first | exact Nat.le_refl _ | (simp; done) | (simp; omega) | omega) _))))
  clear hw_1
  obtain ⟨x0, -, hlx⟩ := HX0.out.c1
  by_cases h0 : n = 0
  · subst h0
    obtain rfl : a = 10 := HAA.out.trans rfl
    obtain rfl : V = 10 := HE.out.trans (if_neg (by decide))
    obtain rfl : R = 0 := HN.out.trans (if_neg (by decide))
    clear HE HN HAA HON HPH HOL HCO HI
    go_wp2_with fail
    go_ret2
    exact ⟨rfl, HB.out⟩
  have h0z : ¬ (n : Int) = 0 := by omega
  have t0 : ((n : Int) == 0) = false := by simp; omega
  by_cases h8 : n ≤ 8
  case neg =>
    have h8z : (8 : Int) < (n : Int) := by omega
    obtain rfl : a = 8 := HAA.out.trans (by rw [show decide (0 < n) = true by simp; omega, if_pos (show unI true 10 = 0 from rfl), show decide ((n : Int) ≤ 8) = false by simp; omega]; rfl)
    obtain rfl : V = 8 := HE.out.trans (if_neg (by decide))
    obtain rfl : R = 0 := HN.out.trans (if_neg (by decide))
    clear HE HN HAA HON HPH HOL HCO
    go_wp2_with fail
    go_ret2
    exact ⟨rfl, HB.out⟩
  have h8z : ¬ (8 : Int) < (n : Int) := by omega
  obtain rfl : a = 0 := HAA.out.trans (by rw [show decide (0 < n) = true by simp; omega, if_pos (show unI true 10 = 0 from rfl), show decide ((n : Int) ≤ 8) = true by simp; omega]; rfl)
  have HEE := hide (HE.out.trans (if_pos rfl))
  have HNN := hide (HN.out.trans (if_pos rfl))
  clear HE HN HAA
  go_wp2_with fail
  go_loopw [4] (fun i wr => ∃ k : Nat, k ≤ n ∧ i = .int .i64 (k : Int) ∧ Hid (badE (fun j => inE (-1) 7 (F j)) k = 0) ∧ wr = w_1) (fun i _ => n - (Go.RowKit.intOf i).toNat)
  case atStart => exact ⟨0, Nat.zero_le _, rfl, hide rfl, rfl⟩
  case round =>
    obtain ⟨k, hk, rfl, HK, rfl⟩ := hrel
    by_cases hlt : k < n
    · have hltz : (k : Int) < (n : Int) := by omega
      obtain ⟨b, o, rfl, -, hb, hcell⟩ := (HI.out.below HB.out) k hlt
      have HW := hide (fun W => within_any (F k) (-1) 7 W)
      obtain ⟨bb, hbb⟩ : ∃ z, withinB (F k) (-1) 7 = z := ⟨_, rfl⟩
      simp only [hbb] at HW
      have HBB := hide hbb
      clear hbb
      go_wp2_with fail
      refine (HW.out _).mono ?_
      rintro e_ v_ ⟨rfl, rfl⟩
      cases bb
      · have hbad : inE (-1) 7 (F k) = 2 := by unfold inE; rw [HBB.out]; rfl
        obtain rfl : p = 2 := by
          rw [HPH.out, badE_at HK.out (by show inE (-1) 7 (F k) ≠ 0; rw [hbad]; decide) n hlt]
          exact hbad
        obtain rfl : V = 2 := HEE.out.trans (if_neg (by decide))
        obtain rfl : R = (k : Int) := HNN.out.trans (by rw [if_neg (by decide), badI_at HK.out (by show inE (-1) 7 (F k) ≠ 0; rw [hbad]; decide) n hlt])
        clear HEE HNN HPH HON
        go_wp2_with fail
        go_ret2
        exact ⟨rfl, HB.out⟩
      · go_wp2_with fail
        go_roundw
        case rel => exact ⟨k + 1, by omega, by go_num, hide ((badE_succ HK.out).trans (by show inE (-1) 7 (F k) = 0; unfold inE; rw [HBB.out]; rfl)), by first | rfl | trivial⟩
        case measure => simp [Go.RowKit.intOf]; omega
    · obtain rfl : k = n := by omega
      obtain rfl : p = 0 := HPH.out.trans HK.out
      obtain rfl : R = 0 := HNN.out.trans (if_pos rfl)
      have HEF := hide (HEE.out.trans (if_pos rfl))
      clear HEE HNN HPH HK
      go_wp2_with fail
      refine (HCO.out _ h8 (HI.out.below HB.out)).mono ?_
      rintro e_ w2 ⟨rfl, hb2⟩
      have HB2 := hide (HB.out.trans (hb2.mono HB.out.size))
      clear hb2 HB
      by_cases hm : m = 0
      · subst hm
        obtain rfl : V = 11 := HEF.out.trans (by rw [HON.out]; rfl)
        go_wp2_with fail
        go_ret2
        exact ⟨rfl, HB2.out⟩
      · have hmz : ((m : Int) == 0) = false := by simp; omega
        obtain rfl : V = 0 := HEF.out.trans (by rw [HON.out, show decide (m ≠ 0) = true by simpa using hm]; rfl)
        clear hm HOL
        go_wp2_with fail
        go_ret2
        exact ⟨rfl, HB2.out⟩
set_option maxHeartbeats 4000000 in
set_option maxRecDepth 100000 in
theorem BeamErr_any (A : Option Addr) (n c : Nat) (F : Nat → Int) (w : World) (hn9 : n ≤ 9223372036854775807) (hI : IntsAt w 0 A n F) :
    Calls Try.prog 22 #[.agg #[.slice A n c]] w fun e w' => e = .returned (.int .i64 (cbE n F)) ∧ Below w.heap.size w w' := by
  have HC := hide (fun W (h : IntsAt W 0 A n F) => CheckBeam_ref A n c F W hn9 h)
  generalize cbE n F = V at *
  generalize cbI n F = R at *
  have HI := hide hI
  clear hI
  go_enter Try.func22, Try.ntmps22
  go_upto_region 1 with fail
  obtain ⟨w_1, hw_1⟩ : ∃ q : World, q = (w.alloc (.cells #[.slice A n c] 43)) := ⟨_, rfl⟩
  try rw [← hw_1]
  have HX0 := hide (show Box w_1 (w.heap.size) 43 #[.slice A n c] by rw [hw_1]; exact Box.made rfl)
  have HB := hide (show Below w.heap.size w w_1 by rw [hw_1]; (repeat (first | (with_reducible exact Below.refl _ _) | (with_reducible refine Go.below_drewN ?_ _) | (with_reducible refine Below.drew ?_) | (with_reducible refine Below.alloc ?_ (by first | exact Nat.le_refl _ | (simp; done) | (simp; omega) | omega) _) | (with_reducible refine Below.setCell ?_ (by first | exact Nat.le_refl _ | (simp; done) | (simp; omega) | omega) _))))
  clear hw_1
  obtain ⟨x0, -, hlx⟩ := HX0.out.c1
  go_wp2_with fail
  refine (HC.out _ (HI.out.below HB.out)).mono ?_
  rintro e_ w_2 ⟨rfl, hb_2⟩
  replace HX0 := hide (HX0.out.below hb_2)
  replace HB := hide (HB.out.trans (hb_2.mono HB.out.size))
  clear hb_2
  clear x0 hlx
  go_wp2_with fail
  go_ret
  exact ⟨rfl, HB.out⟩
end Go.Proofs.Ytdkbjgnkehoplaa
/- Books of the call's own; CopyBook of the reference. -/
namespace Go.Proofs.Ytdkbjgnkehoplaa
open Go.RowKit Go.Shelf
def OwnBook (w : World) (base : Nat) (v : Value) (n : Nat) (L : Nat → Nat) (F : Nat → Nat → Int) : Prop :=
  ∃ xs : List Value, w.ownsRow base 43 1 v n xs ∧ ∀ i, i < n → ∃ Ai ci, xs[i]? = some (.slice Ai (L i) ci) ∧ L i ≤ ci ∧ ci ≤ 9223372036854775807 ∧ IntsAt w base Ai (L i) (F i) ∧ ∀ b o, Ai = some ⟨b, o, none⟩ → v.ownBlock ≠ some b ∧ b < w.heap.size
section
variable {w w' : World} {base n : Nat} {v : Value} {L : Nat → Nat} {F : Nat → Nat → Int}
theorem OwnBook.nil_ (w : World) (base : Nat) (L : Nat → Nat) (F : Nat → Nat → Int) : OwnBook w base (.slice none 0 0) 0 L F := ⟨[], World.ownsRow_nil _ _ _ _, fun i h => absurd h (Nat.not_lt_zero i)⟩
theorem OwnBook.below (h : OwnBook w base v n L F) (hb : Below w.heap.size w w') : OwnBook w' base v n L F := by
  obtain ⟨xs, h1, h2⟩ := h
  refine ⟨xs, World.ownsRow.kept h1 (row := none) ⟨hb.os, hb.tape, hb.output, hb.size, fun k hk _ => hb.block k hk⟩ (by cases v.ownBlock <;> simp), fun i hi => ?_⟩
  obtain ⟨Ai, ci, e, h3, h4, h5, h6⟩ := h2 i hi
  exact ⟨Ai, ci, e, h3, h4, h5.below hb, fun b o e => ⟨(h6 b o e).1, Nat.lt_of_lt_of_le (h6 b o e).2 hb.size⟩⟩
theorem OwnBook.form (h : OwnBook w base v n L F) : ∃ A c, v = .slice A n c ∧ n ≤ c ∧ c ≤ 9223372036854775807 ∧ BookAt w base A n L F := by
  obtain ⟨xs, h1, h2⟩ := h
  have hm9 : maxLen ≤ 9223372036854775807 := by decide
  rcases h1.2 with ⟨rfl, rfl⟩ | ⟨g, cap, cur, rfl, hb, hg, hnc, hm, -⟩
  · exact ⟨_, _, rfl, Nat.le_refl _, by decide, BookAt.nil_⟩
  · refine ⟨_, _, rfl, hnc, by omega, fun i hi => ?_⟩
    obtain ⟨Ai, ci, e, h3, h4, h5, h6⟩ := h2 i hi
    have hc := World.ownsRow.cells h1 (g := g) rfl i _ e
    rw [Addr.add_lit] at hc
    exact ⟨g, 0, Ai, ci, rfl, hb, (Array.getElem?_eq_some_iff.1 hg).1, hc, h3, h4, h5⟩
theorem OwnBook.lt (h : OwnBook w base v n L F) {k : Nat} (hk : v.ownBlock = some k) : base ≤ k ∧ k < w.heap.size := by
  obtain ⟨xs, h1, -⟩ := h
  exact World.ownsRow.lt h1 k hk
end
theorem IntsAt.grownB {w w' : World} {lo n : Nat} {A : Option Addr} {G : Nat → Int} {row : Option Nat} (h : IntsAt w lo A n G) (hg : w.grownBy w' row) (ha : ∀ b o, A = some ⟨b, o, none⟩ → row ≠ some b) : IntsAt w' lo A n G := fun k hk => by
  obtain ⟨b, o, e, h1, h2, h3⟩ := h k hk
  exact ⟨b, o, e, h1, Nat.lt_of_lt_of_le h2 hg.size, (World.cell?_of_block (a := ⟨b, o + k, none⟩) (hg.block b h2 (fun x => ha b o e x.symm))).trans h3⟩
def snocNb (n : Nat) (L : Nat → Nat) (m : Nat) (i : Nat) : Nat := if i < n then L i else m
def snocFb (n : Nat) (F : Nat → Nat → Int) (G : Nat → Int) (i : Nat) : Nat → Int := if i < n then F i else G
theorem beamInfo : (Try.prog.info? 43).map (fun i => (i.zero, i.size, i.bytes)) = some (some (.agg #[.slice none 0 0]), 1, 24) := by kernel_rfl
set_option maxRecDepth 100000 in
theorem run_append_beam (w : World) (ty : TypeId) (base : Nat) (v : Value) (n : Nat) (L : Nat → Nat) (F : Nat → Nat → Int) (hown : OwnBook w base v n L F)
    (g1 : Nat) (A : Option Addr) (m c : Nat) (G : Nat → Int) (hc : w.cell? ⟨g1, 0, none⟩ = some (.slice A m c)) (hmc : m ≤ c) (hc9 : c ≤ 9223372036854775807) (hr : IntsAt w base A m G) (ha : ∀ b o, A = some ⟨b, o, none⟩ → v.ownBlock ≠ some b ∧ b < w.heap.size) (hn : n ≤ 1000000) (hbase : base ≤ w.heap.size) :
    ∃ v' w', (Builtin.append_ #[22, 22] ty #[v, .slice (some ⟨g1, 0, none⟩) 1 1]).run Try.prog w = .ok v' w' ∧ OwnBook w' base v' (n + 1) (snocNb n L m) (snocFb n F G) ∧ Below base w w' ∧ w.grownBy w' v.ownBlock := by
  obtain ⟨i0, hi, hz0, hz1, hz2⟩ := info_parts beamInfo
  obtain ⟨xs, h1, h2⟩ := hown
  have hlen : xs.length = n := by rw [h1.1, Nat.mul_one]
  obtain ⟨v', w', hrun, hown', hg, -, hblk⟩ := run_append_own_at (P := Try.prog) w base 22 ty 43 i0 (.agg #[.slice none 0 0]) 1 24 Try.underlying22 hi hz0 hz1 hz2 rfl (by decide) v n xs h1 ⟨g1, 0, none⟩ 1 1 [.slice A m c] rfl
    (fun j u hu => by
      match j, hu with
      | 0, hu =>
        simp at hu
        subst hu
        exact hc
      | j + 1, hu => simp at hu)
    (fun u hu => by
      simp at hu
      subst hu
      rfl) (by unfold maxLen; omega) (by omega) hbase
  have hb : Below base w w' := (Below.refl _ _).grown hg hbase (fun k hk => (World.ownsRow.lt h1 k hk).1)
  refine ⟨v', w', hrun, ⟨_, hown', fun i hi => ?_⟩, hb, hg⟩
  have apart : ∀ (B : Option Addr), (∀ b o, B = some ⟨b, o, none⟩ → v.ownBlock ≠ some b ∧ b < w.heap.size) → ∀ b o, B = some ⟨b, o, none⟩ → v'.ownBlock ≠ some b ∧ b < w'.heap.size := fun B hB b o e => by
    obtain ⟨x1, x2⟩ := hB b o e
    refine ⟨?_, Nat.lt_of_lt_of_le x2 hg.size⟩
    rcases hblk with y | y
    · rw [y]; exact x1
    · rw [y]; intro z; injection z with z; omega
  by_cases hin : i < n
  · obtain ⟨Ai, ci, e, h3, h4, h5, h6⟩ := h2 i hin
    unfold snocNb snocFb
    rw [if_pos hin, if_pos hin]
    exact ⟨Ai, ci, by rw [List.getElem?_append_left (by omega)]; exact e, h3, h4, h5.grownB hg (fun b o e => (h6 b o e).1), apart Ai h6⟩
  · have hi' : i = n := by omega
    unfold snocNb snocFb
    rw [if_neg hin, if_neg hin]
    refine ⟨A, c, ?_, hmc, hc9, hr.grownB hg (fun b o e => (ha b o e).1), apart A ha⟩
    rw [List.getElem?_append_right (by omega), hlen, hi', Nat.sub_self]
    rfl
theorem wp_append_beam {o : Oper} {a : Act} {K : Act → World → Prop} {Q : Exit → Act → World → Prop} (w : World) (s x : Operand)
    (ho : o.op = .call { callee := .builtin .append, args := #[s, x], argTypes := #[22, 22] })
    (base : Nat) (v : Value) (n : Nat) (L : Nat → Nat) (F : Nat → Nat → Int) (hs : a.eval s = v) (hown : OwnBook w base v n L F)
    (g1 : Nat) (A : Option Addr) (m c : Nat) (G : Nat → Int) (hx : a.eval x = .slice (some ⟨g1, 0, none⟩) 1 1) (hc : w.cell? ⟨g1, 0, none⟩ = some (.slice A m c)) (hmc : m ≤ c) (hc9 : c ≤ 9223372036854775807) (hr : IntsAt w base A m G) (ha : ∀ b o, A = some ⟨b, o, none⟩ → v.ownBlock ≠ some b ∧ b < w.heap.size) (hn : n ≤ 1000000) (hbase : base ≤ w.heap.size)
    (h : ∀ v' w', OwnBook w' base v' (n + 1) (snocNb n L m) (snocFb n F G) → Below base w w' → K (a.put o.dst v') w') : o.wp Try.prog a w K Q := by
  obtain ⟨v', w', hrun, h1, h2, -⟩ := run_append_beam w o.type base v n L F hown g1 A m c G hc hmc hc9 hr ha hn hbase
  unfold Oper.wp execOp
  simp only [ho, resolve, invoke, builtin, Sem.run_bind, Sem.run_pure, Result.andThen_ok, List.map_toArray, List.map_cons, List.map_nil, hs, hx, hrun]
  exact h v' w' h1 h2
theorem wpList_append_beam {ops : Array Oper} {rest : List Oper} {o : Oper} {a : Act} {Q : Exit → Act → World → Prop} (w : World) (hgd : o.guard = none) (s x : Operand)
    (ho : o.op = .call { callee := .builtin .append, args := #[s, x], argTypes := #[22, 22] })
    (base : Nat) (v : Value) (n : Nat) (L : Nat → Nat) (F : Nat → Nat → Int) (hs : a.eval s = v) (hown : OwnBook w base v n L F)
    (g1 : Nat) (A : Option Addr) (m c : Nat) (G : Nat → Int) (hx : a.eval x = .slice (some ⟨g1, 0, none⟩) 1 1) (hc : w.cell? ⟨g1, 0, none⟩ = some (.slice A m c)) (hmc : m ≤ c) (hc9 : c ≤ 9223372036854775807) (hr : IntsAt w base A m G) (ha : ∀ b o, A = some ⟨b, o, none⟩ → v.ownBlock ≠ some b ∧ b < w.heap.size) (hn : n ≤ 1000000) (hbase : base ≤ w.heap.size)
    (h : ∀ v' w', OwnBook w' base v' (n + 1) (snocNb n L m) (snocFb n F G) → Below base w w' → wpList Try.prog ops Q rest (a.put o.dst v') w') : wpList Try.prog ops Q (o :: rest) a w :=
  wpList_plain hgd fun _ hK => wp_append_beam w s x ho base v n L F hs hown g1 A m c G hx hc hmc hc9 hr ha hn hbase fun v' w' h1 h2 => hK _ _ (h v' w' h1 h2)
theorem OwnInts.place {w : World} {base n c : Nat} {B : Option Addr} {F : Nat → Int} (h : OwnInts w base (.slice B n c) n F) : ∀ b o, B = some ⟨b, o, none⟩ → base ≤ b ∧ b < w.heap.size := fun b o e => by
  subst e
  rcases h.2 with ⟨h1, -⟩ | ⟨g, cap, cur, h1, hb, hg, -⟩
  · simp at h1
  · injection h1 with e1; injection e1 with e1; injection e1 with e1; subst e1
    exact ⟨hb, (Array.getElem?_eq_some_iff.1 hg).1⟩
set_option maxHeartbeats 2000000 in
theorem Copy_own (A : Option Addr) (n c : Nat) (F : Nat → Int) (w : World) (hn : n ≤ 100000) (hI : IntsAt w 0 A n F) :
    Calls Try.prog 21 #[.agg #[.slice A n c]] w fun e w' => ∃ B d, e = .returned (.agg #[.slice B n d]) ∧ n ≤ d ∧ d ≤ 9223372036854775807 ∧ IntsAt w' w.heap.size B n F ∧ (∀ b o, B = some ⟨b, o, none⟩ → w.heap.size ≤ b ∧ b < w'.heap.size) ∧ Below w.heap.size w w' := by
  have HC := hide (fun W (h : IntsAt W 0 A n F) => copyInts_own A n c F W (by omega) h)
  have HI := hide hI
  clear hI
  go_enter Try.func21, Try.ntmps21
  go_upto_region 1 with fail
  obtain ⟨w_1, hw_1⟩ : ∃ q : World, q = ((w.alloc (.cells #[.slice A n c] 43)).alloc (.cells #[.slice none 0 0] 43)) := ⟨_, rfl⟩
  try rw [← hw_1]
  have HX0 := hide (show Box w_1 (w.heap.size) 43 #[.slice A n c] by rw [hw_1]; exact (Box.made rfl).alloc _)
  have HX1 := hide (show Box w_1 (w.heap.size + 1) 43 #[.slice none 0 0] by rw [hw_1]; exact Box.made (by simp))
  have HB := hide (show Below w.heap.size w w_1 by rw [hw_1]; (repeat (first | (with_reducible exact Below.refl _ _) | (with_reducible refine Go.below_drewN ?_ _) | (with_reducible refine Below.drew ?_) | (with_reducible refine Below.alloc ?_ (by first | exact Nat.le_refl _ | (simp; done) | (simp; omega) | omega) _) | (with_reducible refine Below.setCell ?_ (by first | exact Nat.le_refl _ | (simp; done) | (simp; omega) | omega) _))))
  clear hw_1
  obtain ⟨x0, -, hlx⟩ := HX0.out.c1
  go_wp2_with fail
  refine (HC.out _ (HI.out.below HB.out)).mono ?_
  rintro e_ w2 ⟨v, rfl, ho, hb⟩
  obtain ⟨B, d, rfl, hd, hi⟩ := ho.form
  have hcap := ho.cap_any
  have hpl := ho.place
  have hlt0 := HX1.out.lt
  have HI2 := hide (hi.other (p := ⟨w.heap.size + 1, 0, none⟩) (by show w.heap.size + 1 < _; exact hlt0) (.slice B n d))
  have HX2 := hide ((HX1.out.below hb).put1 (.slice B n d))
  have f0 := (HX1.out.below hb).free 0
  have z0 := (HX1.out.below hb).at_ 0
  simp only [List.getElem?_toArray] at z0
  have HB2 := hide ((HB.out.trans (hb.mono HB.out.size)).setCell (p := ⟨w.heap.size + 1, 0, none⟩) (Nat.le_succ _) (.slice B n d))
  have hs2 := HB.out.size
  have HPL := hide hpl
  clear x0 hlx ho hb hi hpl
  go_wp2_with fail
  have y0 := HX2.out.at_ 0
  simp only [List.getElem?_toArray] at y0
  refine bodyPost_ret (v := .agg #[.slice B n d]) ?_ rfl ⟨B, d, rfl, hcap.1, hcap.2, HI2.out.weak hs2, fun b o e => ⟨Nat.le_trans hs2 (HPL.out b o e).1, by simpa using (HPL.out b o e).2⟩, HB2.out⟩
  simp [results, Try.results21, go_sem, y0]
set_option maxHeartbeats 4000000 in
set_option maxRecDepth 100000 in
theorem copyBook_any (A : Option Addr) (n c : Nat) (L : Nat → Nat) (F : Nat → Nat → Int) (w : World) (hn : n ≤ 100000) (hL : ∀ i, i < n → L i ≤ 100000) (hI : BookAt w 0 A n L F) :
    Calls Try.prog 14 #[.slice A n c] w fun e w' => ∃ C f, e = .returned (.slice C n f) ∧ BookAt w' 0 C n L F ∧ Below w.heap.size w w' := by
  have HI := hide hI
  have HL := hide hL
  clear hI hL
  go_enter Try.func14, Try.ntmps14
  go_wp2_with fail
  go_loopw [3, 4] (fun x i wr => ∃ k : Nat, k ≤ n ∧ i = .int .i64 k ∧ Hid (OwnBook wr w.heap.size x k L F) ∧ Hid (Below w.heap.size w wr)) (fun _ i _ => n - (Go.RowKit.intOf i).toNat)
  case atStart => exact ⟨0, Nat.zero_le _, rfl, hide (OwnBook.nil_ _ _ _ _), hide (Below.refl _ _)⟩
  case round =>
    obtain ⟨k, hk, rfl, HO, HB⟩ := hrel
    obtain ⟨wA, rfl⟩ : ∃ x : World, x = wr := ⟨_, rfl⟩
    obtain ⟨As, cs, rfl, hcs, hcs9, hIs⟩ := HO.out.form
    clear hIs
    by_cases hlt : k < n
    · have hltz : (k : Int) < (n : Int) := by omega
      obtain ⟨b, o, Ai, ci, rfl, -, hb, hcell, hlc, hc9, hIk⟩ := (HI.out.below HB.out) k hlt
      have HCP := hide (fun W (h : IntsAt W 0 Ai (L k) (F k)) => Copy_own Ai (L k) ci (F k) W (by have := HL.out k hlt; omega) h)
      have HIK := hide hIk
      have hsz := HB.out.size
      clear hIk
      obtain ⟨m, hm⟩ : ∃ m, L k = m := ⟨_, rfl⟩
      simp only [hm] at hcell HCP HIK hlc
      obtain ⟨G, hG⟩ : ∃ G, F k = G := ⟨_, rfl⟩
      simp only [hG] at HCP HIK
      go_wp2_with fail
      refine (HCP.out _ HIK.out).mono ?_
      rintro e w2 ⟨B, d, rfl, hd, hd9, hi, hpl, hb2⟩
      have hs2 := hb2.size
      have HB2 := hide (HB.out.trans (hb2.mono HB.out.size))
      have HO3 := hide ((HO.out.below hb2).below ((Below.refl w2.heap.size w2).alloc (Nat.le_refl _) (.cells #[.slice B m d] 43)))
      have HI3 := hide ((hi.weak hsz).below ((Below.refl w2.heap.size w2).alloc (Nat.le_refl _) (.cells #[.slice B m d] 43)))
      have HPL := hide hpl
      have HLT := hide (fun q (hq : (Value.slice As k cs).ownBlock = some q) => HO.out.lt hq)
      have HGE := hide (show w.heap.size ≤ w2.heap.size by omega)
      have HD := hide hd
      have HD9 := hide hd9
      have HM := hide hm
      have HG := hide hG
      clear hb2 hi hpl hd hd9 hm hG HO
      go_wp2_with (at_builtin; refine wpList_append_beam _ rfl (.tmp 11) (.tmp 17) rfl w.heap.size (.slice As k cs) k L F rfl HO3.out w2.heap.size B m d G rfl ((Box.made rfl : Box _ w2.heap.size 43 #[.slice B m d]).at_ 0) HD.out HD9.out HI3.out (fun b' o' e' => ⟨fun z => (by have h1 := HLT.out _ z; have h2 := HPL.out b' o' e'; omega), (by have h2 := HPL.out b' o' e'; simp; omega)⟩) (by omega) (by have := HGE.out; simp; omega) ?_; intro v3 w3 ho3 hb3)
      have HO4 := hide ho3
      have HB4 := hide ((HB2.out.alloc HGE.out (.cells #[.slice B m d] 43)).trans hb3)
      clear ho3 hb3 HO3 HI3 HPL HLT HB2
      go_roundw
      case rel =>
        exact ⟨k + 1, by omega, by go_num, hide (by
          obtain ⟨xs, h1, h2⟩ := HO4.out
          refine ⟨xs, h1, fun i hi => ?_⟩
          have h3 := h2 i hi
          unfold snocNb snocFb at h3
          by_cases e : i < k
          · rw [if_pos e, if_pos e] at h3; exact h3
          · obtain rfl : i = k := by omega
            rw [if_neg e, if_neg e] at h3
            rw [HM.out, HG.out]; exact h3), HB4⟩
      case measure => simp [Go.RowKit.intOf]; omega
    · obtain rfl : k = n := by omega
      obtain ⟨A2, c2, e2, -, -, hI2⟩ := HO.out.form
      injection e2 with e21 e22 e23
      subst e21 e23
      have HI2 := hide (hI2.weak (Nat.zero_le _))
      have HBB := hide HB.out
      clear hI2 HB HO
      go_wp2_with fail
      go_ret
      exact ⟨As, ⟨cs, rfl⟩, HI2.out, HBB.out⟩
end Go.Proofs.Ytdkbjgnkehoplaa
