/- Lemmas: Sa, Sb, Sc, Sd, Sg, Se. -/
import Derived.BigQuiet
import Derived.Deep.RegionHeld3
import Derived.ChangeKeysEq
import Derived.Test.YtmncomcdddnnhaaBk03
import Derived.Test.YtmncomcdddnnhaaBk04
import Derived.Test.YtmncomcdddnnhaaBk06
import Derived.Test.YtmncomcdddnnhaaBk09
set_option linter.unusedVariables false
set_option linter.unusedSimpArgs false
/- valueWithin, firstWrong, itemsError of ints, receivedError, correlation, CorrelationOf, Shifts of the code. -/
namespace Go.Proofs.Ytmncomcdddnnhaa
open Go.RowKit
def valE (x : Int) : Int := unI (withinB x (-100000) 100000) 2
def valsE (n : Nat) (F : Nat → Int) : Int := badE (fun j => valE (F j)) n
def recE (n : Nat) (F : Nat → Int) : Int := firstE [unI (decide ((n : Int) ≤ 120)) 8, valsE n F]
set_option maxHeartbeats 1000000 in
theorem valueWithin1_any (x : Int) (b : Nat) (w : World) (hm : w.cell? ⟨b, 0, none⟩ = some (.int .i64 100000)) :
    Calls Try.prog 89 #[.int .i64 x, .pointer (some ⟨b, 0, none⟩)] w fun e w' => e = .returned (.int .i64 (valE x)) ∧ Below w.heap.size w w' := by
  have HP := hide (fun W A (h : IntsAt W 0 A 1 (fun _ => x)) => (show Calls Try.prog 43 #[.int .i64 100000, .slice A 1 1] W fun e w' => e = .returned (.int .i64 (valE x)) ∧ W = w' from by
    have h1 := partsError_any 100000 A 1 1 (fun _ => x) W (by decide) (by decide) h
    rw [show sizeE 100000 (fun _ => x) 1 = valE x from by unfold sizeE badE badE; rw [if_pos rfl]; rfl] at h1
    exact h1))
  generalize valE x = v at *
  go_enter Try.func89, Try.ntmps89
  go_wp2_with fail
  refine (HP.out _ _ (IntsAt.one _ _ _ _ (Nat.zero_le _))).mono ?_
  rintro e w1 ⟨rfl, rfl⟩
  go_wp2_with fail
  go_ret
  exact ⟨rfl, by (repeat (first | (with_reducible exact Below.refl _ _) | (with_reducible refine Go.below_drewN ?_ _) | (with_reducible refine Below.drew ?_) | (with_reducible refine Below.alloc ?_ (by first | exact Nat.le_refl _ | (simp; done) | (simp; omega) | omega) _) | (with_reducible refine Below.setCell ?_ (by first | exact Nat.le_refl _ | (simp; done) | (simp; omega) | omega) _)))⟩
set_option maxHeartbeats 1000000 in
theorem valueWithin_any (w : World) :
    Calls Try.prog 73 #[.int .i64 100000] w fun e w' => e = .returned (.func (.func 89) #[] #[.pointer (some ⟨w.heap.size, 0, none⟩)]) ∧ w.alloc (.cells #[.int .i64 100000] 3) = w' := by
  go_enter Try.func73, Try.ntmps73
  go_wp2_with fail
  go_ret
  exact ⟨rfl, rfl⟩
set_option maxHeartbeats 2000000 in
theorem firstWrong_ints (g : Nat) (lb : Array Value) (eg : ∀ args w, (callFunc g args).run Try.prog w = .ok (.enter g args) w) (p : Int → Int) (A : Option Addr) (n c : Nat) (F : Nat → Int) (w : World)
    (hn : n ≤ 100000) (hI : IntsAt w 0 A n F) (hp : ∀ (x : Int) W, Below w.heap.size w W → Calls Try.prog g (#[.int .i64 x] ++ lb) W fun e w' => e = .returned (.int .i64 (p x)) ∧ Below W.heap.size W w') :
    Calls Try.prog 88 #[.slice A n c, .func (.func g) #[] lb] w fun e w' => e = .returned (.tuple #[.int .i64 (badI (fun j => p (F j)) n : Nat), .int .i64 (badE (fun j => p (F j)) n)]) ∧ Below w.heap.size w w' := by
  have HP := hide hp
  have HI := hide hI
  clear hp hI
  go_enter Try.func88, Try.ntmps88
  go_wp2_with fail
  go_loopg [11] n (fun gg s wr => ∃ k : Nat, k ≤ n ∧ n - k ≤ gg ∧ s = .int .i64 (k : Int) ∧ Hid (badE (fun j => p (F j)) k = 0) ∧ Below w.heap.size w wr)
  case atStart => exact ⟨0, Nat.zero_le _, by omega, rfl, hide rfl, Below.refl _ _⟩
  case round =>
    obtain ⟨k, hk, hg, rfl, HZ, hB⟩ := hrel
    obtain ⟨wA, rfl⟩ : ∃ x : World, x = wr := ⟨_, rfl⟩
    have hBs := hB.size
    by_cases hlt : k < n
    · have hltz : (k : Int) < (n : Int) := by omega
      obtain ⟨b, o, rfl, -, hb, c0⟩ := (HI.out.below hB) k hlt
      have HQ := hide (show p (F k) ≠ 0 → badE (fun j => p (F j)) n = p (F k) ∧ badI (fun j => p (F j)) n = k from fun h => ⟨badE_at (g := fun j => p (F j)) HZ.out h n hlt, badI_at (g := fun j => p (F j)) HZ.out h n hlt⟩)
      have HN := hide (show p (F k) = 0 → badE (fun j => p (F j)) (k + 1) = 0 from fun h => by rw [badE_succ HZ.out]; exact h)
      generalize F k = x at *
      have HC := hide (fun W hW => HP.out x W hW)
      generalize p x = r at *
      have hcall := HC.out wA hB
      by_cases hr : r = 0
      · have HN2 := hide (HN.out hr)
        subst hr
        clear HQ HN
        go_wp2_with (go_at_fn g; refine hcall.mono ?_; rintro e w2 ⟨rfl, hb2⟩)
        go_roundg (n - (k + 1))
        case measure => omega
        case rel => exact ⟨k + 1, by omega, by omega, by go_num, HN2, hB.trans (hb2.mono hB.size)⟩
      · have t1 : (r != 0) = true := by simpa using hr
        have HQ2 := hide (HQ.out hr)
        clear HQ HN hr
        go_wp2_with (go_at_fn g; refine hcall.mono ?_; rintro e w2 ⟨rfl, hb2⟩)
        go_ret2
        exact ⟨by rw [HQ2.out.1, HQ2.out.2]; rfl, hB.trans (hb2.mono hB.size)⟩
    · obtain rfl : k = n := by omega
      go_wp2_with fail
      go_ret2
      exact ⟨by rw [HZ.out, badI_zero HZ.out]; rfl, hB⟩
set_option maxHeartbeats 1000000 in
theorem itemsError_ints (A : Option Addr) (n c b : Nat) (F : Nat → Int) (w : World) (hn : n ≤ 100000) (hI : IntsAt w 0 A n F) (hm : w.cell? ⟨b, 0, none⟩ = some (.int .i64 100000)) :
    Calls Try.prog 72 #[.slice A n c, .func (.func 89) #[] #[.pointer (some ⟨b, 0, none⟩)]] w fun e w' => e = .returned (.int .i64 (valsE n F)) ∧ Below w.heap.size w w' := by
  have hb := World.block_lt_of_cell? w _ hm
  simp only at hb
  have HX := hide (firstWrong_ints 89 #[.pointer (some ⟨b, 0, none⟩)] (enters_of Try.func89 (by kernel_rfl) rfl) valE A n c F w hn hI (fun x W hW => valueWithin1_any x b W ((hW.cell (p := ⟨b, 0, none⟩) hb).trans hm)))
  clear hI hm hb
  go_enter Try.func72, Try.ntmps72
  go_wp2_with (go_at_call 88; refine HX.out.mono ?_; rintro e w' ⟨rfl, hb1⟩)
  go_ret
  exact ⟨rfl, hb1⟩
set_option maxHeartbeats 1000000 in
theorem receivedError_any (A : Option Addr) (n c : Nat) (F : Nat → Int) (w : World) (hn : n ≤ 100000) (hI : IntsAt w 0 A n F) :
    Calls Try.prog 39 #[.slice A n c] w fun e w' => e = .returned (.int .i64 (recE n F)) ∧ Below w.heap.size w w' := by
  have HI := hide hI
  have HE := hide (show firstE [unI (decide ((n : Int) ≤ 120)) 8, valsE n F] = recE n F from rfl)
  generalize recE n F = v at *
  clear hI
  go_enter Try.func39, Try.ntmps39
  go_wp2_with (go_at_call 38; refine (unless_any _ _ _).mono ?_; rintro e w' ⟨rfl, rfl⟩)
  refine (valueWithin_any _).mono ?_
  rintro e w1 ⟨rfl, hw1⟩
  have hc : w1.cell? ⟨w.heap.size, 0, none⟩ = some (.int .i64 100000) := by rw [← hw1]; exact (Box.made rfl : Box _ w.heap.size 3 #[.int .i64 100000]).at_ 0
  have hB1 : Below w.heap.size w w1 := by rw [← hw1]; exact (Below.refl _ _).alloc (Nat.le_refl _) _
  clear hw1
  go_wp2_with fail
  refine (itemsError_ints A n c w.heap.size F _ hn (HI.out.below hB1) hc).mono ?_
  rintro e w2 ⟨rfl, hb2⟩
  have hB2 := hB1.trans (hb2.mono hB1.size)
  clear hc hB1 hb2
  go_wp2_with fail
  refine (firstError_laid [unI (decide ((n : Int) ≤ 120)) 8, valsE n F] 2 _ _ rfl (by decide)).mono ?_
  rintro e w3 ⟨rfl, hw3⟩
  rw [HE.out]
  have hB3 : Below w.heap.size w w3 := by rw [← hw3]; exact hB2.alloc hB2.size _
  clear hw3 hB2
  go_wp2_with fail
  go_ret
  exact ⟨rfl, hB3⟩
/-- The sum of products of the first k values. -/
def corS (F G : Nat → Int) : Nat → Int
  | 0 => 0
  | k + 1 => corS F G k + F k * G k
theorem corS_le {F G : Nat → Int} : ∀ {k : Nat}, (∀ j, j < k → IsSign (F j) ∧ -100000 ≤ G j ∧ G j ≤ 100000) → -(k * 100000 : Int) ≤ corS F G k ∧ corS F G k ≤ k * 100000
  | 0, _ => by show -(((0 : Nat) : Int) * 100000) ≤ 0 ∧ (0 : Int) ≤ ((0 : Nat) : Int) * 100000; omega
  | k + 1, h => by
    have h1 := corS_le (k := k) fun j hj => h j (by omega)
    obtain ⟨hf, hg⟩ := h k (Nat.lt_succ_self k)
    show _ ≤ corS F G k + F k * G k ∧ corS F G k + F k * G k ≤ _
    rcases hf with e | e <;> rw [e] <;> omega
set_option maxHeartbeats 1000000 in
theorem correlation_any (A B : Option Addr) (n c m d : Nat) (F G : Nat → Int) (w : World) (hn : n ≤ 1000) (hnm : n ≤ m) (hI : IntsAt w 0 A n F) (hJ : IntsAt w 0 B m G) (hb : ∀ j, j < n → IsSign (F j) ∧ -100000 ≤ G j ∧ G j ≤ 100000) :
    Calls Try.prog 40 #[.slice A n c, .slice B m d] w fun e w' => e = .returned (.int .i64 (corS F G n)) ∧ w = w' := by
  have HI := hide hI
  have HJ := hide hJ
  have HB := hide hb
  clear hI hJ hb
  go_enter Try.func40, Try.ntmps40
  go_wp2_with fail
  go_loopw [5, 10] (fun s i wr => ∃ k : Nat, k ≤ n ∧ s = .int .i64 (corS F G k) ∧ i = .int .i64 (k : Int) ∧ w = wr) (fun _ i _ => n - (Go.RowKit.intOf i).toNat)
  case atStart => exact ⟨0, Nat.zero_le _, rfl, rfl, rfl⟩
  case round =>
    obtain ⟨k, hk, rfl, rfl, rfl⟩ := hrel
    have hs := corS_le (F := F) (G := G) (k := k) fun j hj => HB.out j (by omega)
    have HS := hide (show corS F G (k + 1) = corS F G k + F k * G k from rfl)
    obtain ⟨s, hs'⟩ : ∃ s, s = corS F G k := ⟨_, rfl⟩
    rw [← hs'] at hs HS
    rw [← hs']
    by_cases hlt : k < n
    · have hltz : (k : Int) < (n : Int) := by omega
      have hltm : (k : Int) < (m : Int) := by omega
      obtain ⟨b, o, rfl, -, -, x0⟩ := HI.out k hlt
      obtain ⟨b', o', rfl, -, -, y0⟩ := HJ.out k (by omega)
      obtain ⟨hf, hg⟩ := HB.out k hlt
      generalize F k = p at *
      generalize G k = q at *
      have hpq : -100000 ≤ p * q ∧ p * q ≤ 100000 := by rcases hf with e | e <;> rw [e] <;> omega
      obtain ⟨r, hr⟩ : ∃ r, r = p * q := ⟨_, rfl⟩
      have q1 : IntKind.i64.wrap (p * q) = r := by rw [IntWalk.i64_in _ (by omega), hr]
      rw [← hr] at HS hpq
      have q2 : IntKind.i64.wrap (s + r) = s + r := IntWalk.i64_in _ (by omega)
      clear hf hg hpq hr hs hs'
      go_wp2_with fail
      go_roundw
      case rel => exact ⟨k + 1, by omega, by rw [HS.out], by go_num, by first | rfl | trivial⟩
      case measure => simp [Go.RowKit.intOf]; omega
    · obtain rfl : k = n := by omega
      go_wp2_with fail
      go_ret
      exact ⟨by rw [← hs']; rfl, rfl⟩
end Go.Proofs.Ytmncomcdddnnhaa
/- CorrelationOf and Shifts of the code; Shifts, ValuesErr of the reference. -/
namespace Go.Proofs.Ytmncomcdddnnhaa
open Go.RowKit
def ccE (a : Int) (n : Nat) (F : Nat → Int) : Int := firstE [unI (withinB a 0 1007) 2, unI ((n : Int) == 62) 10, recE n F]
def ccV (a : Int) (n : Nat) (F : Nat → Int) : Int := if ccE a n F = 0 then corS (seqF a.toNat) F 62 else 0
theorem valE_zero {x : Int} (h : valE x = 0) : -100000 ≤ x ∧ x ≤ 100000 := withinB_iff.1 (unI_zero (by decide) h)
theorem ccE_zero {a : Int} {n : Nat} {F : Nat → Int} (h : ccE a n F = 0) : (0 ≤ a ∧ a ≤ 1007) ∧ n = 62 ∧ ∀ j, j < n → -100000 ≤ F j ∧ F j ≤ 100000 := by
  obtain ⟨h1, h2⟩ := firstE_nil h
  obtain ⟨h3, h4⟩ := firstE_nil h2
  obtain ⟨h5, -⟩ := firstE_nil h4
  obtain ⟨-, h6⟩ := firstE_nil h5
  obtain ⟨h7, -⟩ := firstE_nil h6
  refine ⟨withinB_iff.1 (unI_zero (by decide) h1), by have := unI_zero (by decide) h3; simp at this; omega, fun j hj => valE_zero (badE_zero h7 j hj)⟩
theorem seqF_sign {i j : Nat} (hj : j < 62) : IsSign (seqF i j) := by
  have hm : ∀ q, q % 31 < 31 := fun q => Nat.mod_lt q (by decide)
  unfold seqF catF
  split
  · exact sgF_sign (fun i _ => T2_lt i) _ (hm _)
  · exact (sgF_sign (fun i _ => T2_lt i) _ (hm _)).mul (sgF_sign (fun i _ => T4_lt i) _ (hm _))
set_option maxHeartbeats 2000000 in
theorem CorrelationOf_any (a : Int) (A : Option Addr) (n c : Nat) (F : Nat → Int) (w : World) (hn : n ≤ 100000) (hI : IntsAt w 0 A n F) :
    Calls Try.prog 9 #[.int .i64 a, .slice A n c] w fun e w' => e = .returned (.tuple #[.int .i64 (ccV a n F), .int .i64 (ccE a n F)]) ∧ Below w.heap.size w w' := by
  have HI := hide hI
  have HE := hide (show firstE [unI (withinB a 0 1007) 2, unI ((n : Int) == 62) 10, recE n F] = ccE a n F from rfl)
  have HZ := hide (ccE_zero (a := a) (n := n) (F := F))
  have HV := hide (show ccV a n F = if ccE a n F = 0 then corS (seqF a.toNat) F 62 else 0 from rfl)
  generalize ccV a n F = V at *
  generalize ccE a n F = v at *
  clear hI
  go_enter Try.func9, Try.ntmps9
  go_wp2_with (first | (go_at_call 34; refine (identityError_any _ _).mono ?_; rintro e w' ⟨rfl, rfl⟩) | (go_at_call 38; refine (unless_any _ _ _).mono ?_; rintro e w' ⟨rfl, rfl⟩))
  refine (receivedError_any A n c F _ hn HI.out).mono ?_
  rintro e w1 ⟨rfl, hb1⟩
  go_wp2_with fail
  refine (firstError_laid [unI (withinB a 0 1007) 2, unI ((n : Int) == 62) 10, recE n F] 3 _ _ rfl (by decide)).mono ?_
  rintro e w2 ⟨rfl, hw2⟩
  rw [HE.out]
  have hB2 : Below w.heap.size w w2 := by rw [← hw2]; exact hb1.alloc hb1.size _
  clear hw2 hb1 HE
  by_cases hv : v = 0
  · obtain ⟨⟨a0, a1⟩, hn62, hF⟩ := HZ.out hv
    have HVV := hide (HV.out.trans (if_pos hv))
    obtain ⟨i, rfl⟩ : ∃ i : Nat, a = (i : Int) := ⟨a.toNat, by omega⟩
    have HS := hide (fun W => sequenceOf_any i W (by omega))
    have HC := hide (fun A' c' W (h : IntsAt W 0 A' 62 (seqF i)) (k : IntsAt W 0 A 62 F) => correlation_any A' A 62 c' 62 c (seqF i) F W (by decide) (Nat.le_refl _) h k fun j hj => ⟨seqF_sign hj, (hF j (by omega)).1, (hF j (by omega)).2⟩)
    subst hn62 hv
    clear HZ HV hF a0 a1
    go_wp2_with fail
    refine (HS.out _).mono ?_
    rintro e w3 ⟨v3, rfl, A3, c3, rfl, hc3, hI3, hb3⟩
    have hI4 := (HI.out.below hB2).below hb3
    go_wp2_with (go_at_call 40; refine (HC.out _ _ _ (hI3.weak (Nat.zero_le _)) hI4).mono ?_; rintro e w' ⟨rfl, rfl⟩)
    go_ret2
    exact ⟨by rw [HVV.out]; rfl, hB2.trans (hb3.mono hB2.size)⟩
  · have HVV := hide (HV.out.trans (if_neg hv))
    have t1 : (v != 0) = true := by simpa using hv
    clear hv HZ HV
    go_wp2_with fail
    go_ret2
    exact ⟨by rw [HVV.out]; rfl, hB2⟩
set_option maxHeartbeats 2000000 in
theorem Shifts_right (i : Nat) (w : World) (hi : i < 1008) :
    Calls Try.prog 7 #[.int .i64 (i : Int)] w fun e w' => e = .returned (.tuple #[.agg #[.int .i64 ((10 * (i % 3) : Nat) : Int), .int .i64 ((i / 3 % 31 : Nat) : Int), .int .i64 ((i / 3 / 31 : Nat) : Int)], .int .i64 0]) ∧ Below w.heap.size w w' := by
  have HS := hide (fun W => shiftsOf_any i W (by omega))
  have HE := hide (show unI (withinB (i : Int) 0 1007) 2 = 0 from by rw [show withinB (i : Int) 0 1007 = true from by simp [withinB]; omega]; rfl)
  generalize 10 * (i % 3) = s0 at *
  generalize i / 3 % 31 = s1 at *
  generalize i / 3 / 31 = s2 at *
  clear hi
  go_enter Try.func7, Try.ntmps7
  go_upto_region 1 with fail
  obtain ⟨W, hW⟩ : ∃ q : World, q = w.alloc (.cells #[.int .i64 0, .int .i64 0, .int .i64 0] 24) := ⟨_, rfl⟩
  rw [← hW]
  have b0 : Box W w.heap.size 24 #[.int .i64 0, .int .i64 0, .int .i64 0] := by rw [hW]; exact Box.made rfl
  have hB : Below w.heap.size w W := by rw [hW]; (repeat (first | (with_reducible exact Below.refl _ _) | (with_reducible refine Go.below_drewN ?_ _) | (with_reducible refine Below.drew ?_) | (with_reducible refine Below.alloc ?_ (by first | exact Nat.le_refl _ | (simp; done) | (simp; omega) | omega) _) | (with_reducible refine Below.setCell ?_ (by first | exact Nat.le_refl _ | (simp; done) | (simp; omega) | omega) _)))
  clear hW
  go_wp2_with (go_at_call 34; refine (identityError_any _ _).mono ?_; rintro e w' ⟨rfl, rfl⟩; rw [HE.out])
  refine (HS.out _).mono ?_
  rintro e w1 ⟨rfl, hb1⟩
  replace b0 := b0.below hb1
  have hB1 := hB.trans (hb1.mono hB.size)
  clear hb1 hB
  have h0 := b0.at_ 0
  have h1 := b0.at_ 1
  have h2 := b0.at_ 2
  simp only [List.getElem?_toArray] at h0 h1 h2
  have f0 := b0.free 0
  have f1 := b0.free 1
  have f2 := b0.free 2
  have hlt := b0.lt
  have HC := hide (((b0.set_ 0 (.int .i64 (s0 : Int))).set_ 1 (.int .i64 (s1 : Int))).set_ 2 (.int .i64 (s2 : Int)))
  have HL := hide (((hB1.setCell (p := ⟨w.heap.size, 0, none⟩) (Nat.le_refl _) (.int .i64 (s0 : Int))).setCell (p := ⟨w.heap.size, 1, none⟩) (Nat.le_refl _) (.int .i64 (s1 : Int))).setCell (p := ⟨w.heap.size, 2, none⟩) (Nat.le_refl _) (.int .i64 (s2 : Int)))
  clear b0 hB1
  go_wp2_with fail
  clear h0 h1 h2
  have h0 := HC.out.at_ 0
  have h1 := HC.out.at_ 1
  have h2 := HC.out.at_ 2
  simp only [Array.getElem?_setIfInBounds, List.setIfInBounds_toArray, List.getElem?_toArray] at h0 h1 h2
  refine bodyPost_ret (v := .tuple #[.agg #[.int .i64 (s0 : Int), .int .i64 (s1 : Int), .int .i64 (s2 : Int)], .int .i64 0]) ?_ rfl ⟨rfl, HL.out⟩
  simp [results, Try.results7, go_sem, h0, h1, h2]
set_option maxHeartbeats 2000000 in
theorem Shifts_wrong (a : Int) (w : World) (ha : withinB a 0 1007 = false) :
    Calls Try.prog 7 #[.int .i64 a] w fun e w' => e = .returned (.tuple #[.agg #[.int .i64 0, .int .i64 0, .int .i64 0], .int .i64 2]) ∧ Below w.heap.size w w' := by
  have HE := hide (show unI (withinB a 0 1007) 2 = 2 from by rw [ha]; rfl)
  clear ha
  go_enter Try.func7, Try.ntmps7
  go_upto_region 1 with fail
  obtain ⟨W, hW⟩ : ∃ q : World, q = w.alloc (.cells #[.int .i64 0, .int .i64 0, .int .i64 0] 24) := ⟨_, rfl⟩
  rw [← hW]
  have b0 : Box W w.heap.size 24 #[.int .i64 0, .int .i64 0, .int .i64 0] := by rw [hW]; exact Box.made rfl
  have hB1 : Below w.heap.size w W := by rw [hW]; (repeat (first | (with_reducible exact Below.refl _ _) | (with_reducible refine Go.below_drewN ?_ _) | (with_reducible refine Below.drew ?_) | (with_reducible refine Below.alloc ?_ (by first | exact Nat.le_refl _ | (simp; done) | (simp; omega) | omega) _) | (with_reducible refine Below.setCell ?_ (by first | exact Nat.le_refl _ | (simp; done) | (simp; omega) | omega) _)))
  clear hW
  have h0 := b0.at_ 0
  have h1 := b0.at_ 1
  have h2 := b0.at_ 2
  simp only [List.getElem?_toArray] at h0 h1 h2
  have f0 := b0.free 0
  have f1 := b0.free 1
  have f2 := b0.free 2
  have hlt := b0.lt
  have HC := hide (((b0.set_ 0 (.int .i64 0)).set_ 1 (.int .i64 0)).set_ 2 (.int .i64 0))
  have HL := hide (((hB1.setCell (p := ⟨w.heap.size, 0, none⟩) (Nat.le_refl _) (.int .i64 0)).setCell (p := ⟨w.heap.size, 1, none⟩) (Nat.le_refl _) (.int .i64 0)).setCell (p := ⟨w.heap.size, 2, none⟩) (Nat.le_refl _) (.int .i64 0))
  clear b0 hB1
  go_wp2_with (go_at_call 34; refine (identityError_any _ _).mono ?_; rintro e w' ⟨rfl, rfl⟩; rw [HE.out])
  clear h0 h1 h2
  have h0 := HC.out.at_ 0
  have h1 := HC.out.at_ 1
  have h2 := HC.out.at_ 2
  simp only [Array.getElem?_setIfInBounds, List.setIfInBounds_toArray, List.getElem?_toArray] at h0 h1 h2
  refine bodyPost_ret (v := .tuple #[.agg #[.int .i64 0, .int .i64 0, .int .i64 0], .int .i64 2]) ?_ rfl ⟨rfl, HL.out⟩
  simp [results, Try.results7, go_sem, h0, h1, h2]
set_option maxHeartbeats 2000000 in
theorem ShiftsR_any (i : Nat) (w : World) (hi : i < 1008) :
    Calls Try.prog 12 #[.int .i64 (i : Int)] w fun e w' => e = .returned (.agg #[.int .i64 ((10 * (i % 3) : Nat) : Int), .int .i64 ((i / 3 % 31 : Nat) : Int), .int .i64 ((i / 3 / 31 : Nat) : Int)]) ∧ Below w.heap.size w w' := by
  have q1 : IntKind.i64.wrap (10 * ((i : Int) % 3)) = 10 * ((i : Int) % 3) := IntWalk.i64_in _ (by omega)
  go_enter Try.func12, Try.ntmps12
  go_wp2_with fail
  have hb : Box (w.alloc (.cells #[.int .i64 (10 * ((i : Int) % 3)), .int .i64 ((i : Int) / 3 % 31), .int .i64 ((i : Int) / 3 / 31)] 24)) w.heap.size 24 #[.int .i64 (10 * ((i : Int) % 3)), .int .i64 ((i : Int) / 3 % 31), .int .i64 ((i : Int) / 3 / 31)] := Box.made rfl
  have h0 := hb.at_ 0
  have h1 := hb.at_ 1
  have h2 := hb.at_ 2
  simp only [List.getElem?_toArray] at h0 h1 h2
  refine bodyPost_ret (v := .agg #[.int .i64 (10 * ((i : Int) % 3)), .int .i64 ((i : Int) / 3 % 31), .int .i64 ((i : Int) / 3 / 31)]) ?_ rfl ⟨by simp, by (repeat (first | (with_reducible exact Below.refl _ _) | (with_reducible refine Go.below_drewN ?_ _) | (with_reducible refine Below.drew ?_) | (with_reducible refine Below.alloc ?_ (by first | exact Nat.le_refl _ | (simp; done) | (simp; omega) | omega) _) | (with_reducible refine Below.setCell ?_ (by first | exact Nat.le_refl _ | (simp; done) | (simp; omega) | omega) _)))⟩
  simp [results, Try.results12, go_sem, h0, h1, h2]
def vE (n : Nat) (F : Nat → Int) : Int := if 120 < n then 8 else valsE n F
set_option maxHeartbeats 2000000 in
theorem valuesErr_any (A : Option Addr) (n c : Nat) (F : Nat → Int) (w : World) (hI : IntsAt w 0 A n F) (hn9 : n ≤ 100000) :
    Calls Try.prog 15 #[.slice A n c] w fun e w' => e = .returned (.int .i64 (vE n F)) ∧ w = w' := by
  have HI := hide hI
  clear hI
  by_cases hn : 120 < n
  · have hnz : (n : Int) > 120 := by omega
    have HV := hide (show vE n F = 8 from if_pos hn)
    generalize vE n F = v at *
    clear hn
    go_enter Try.func15, Try.ntmps15
    go_wp2_with fail
    go_ret
    exact ⟨by rw [HV.out]; rfl, rfl⟩
  · have hnz : ¬ (n : Int) > 120 := by omega
    have HV := hide (show vE n F = badE (fun j => valE (F j)) n from if_neg hn)
    generalize vE n F = v at *
    have hn' : n ≤ 120 := by omega
    clear hn
    go_enter Try.func15, Try.ntmps15
    go_wp2_with fail
    go_loopw [3] (fun i wr => ∃ k : Nat, k ≤ n ∧ i = .int .i64 (k : Int) ∧ Hid (badE (fun j => valE (F j)) k = 0) ∧ w = wr) (fun i _ => n - (Go.RowKit.intOf i).toNat)
    case atStart => exact ⟨0, Nat.zero_le _, rfl, hide rfl, rfl⟩
    case round =>
      obtain ⟨k, hk, rfl, HZ, rfl⟩ := hrel
      by_cases hlt : k < n
      · have hltz : (k : Int) < (n : Int) := by omega
        obtain ⟨b, o, rfl, -, hb, hcell⟩ := HI.out k hlt
        cases hw : withinB (F k) (-100000) 100000
        · have HQ := hide (show v = 2 from by
            have h1 : valE (F k) = 2 := by unfold valE; rw [hw]; rfl
            rw [HV.out]
            have h2 := badE_at (g := fun j => valE (F j)) HZ.out (by show valE (F k) ≠ 0; rw [h1]; decide) n hlt
            exact h2.trans h1)
          go_wp2_with fail
          refine (within_any _ _ _ _).mono ?_
          rintro e w' ⟨rfl, rfl⟩
          rw [hw]
          go_wp2_with fail
          go_ret
          exact ⟨by rw [HQ.out]; rfl, rfl⟩
        · have HN := hide (show badE (fun j => valE (F j)) (k + 1) = 0 from by
            rw [badE_succ HZ.out]
            show valE (F k) = 0
            unfold valE
            rw [hw]; rfl)
          go_wp2_with fail
          refine (within_any _ _ _ _).mono ?_
          rintro e w' ⟨rfl, rfl⟩
          rw [hw]
          go_wp2_with fail
          go_roundw
          case rel => exact ⟨k + 1, by omega, by go_num, HN, by first | rfl | trivial⟩
          case measure => simp [Go.RowKit.intOf]; omega
      · obtain rfl : k = n := by omega
        go_wp2_with fail
        go_ret
        exact ⟨by rw [HV.out, HZ.out]; rfl, rfl⟩
end Go.Proofs.Ytmncomcdddnnhaa
/- bits and SequenceOf of the reference. -/
namespace Go.Proofs.Ytmncomcdddnnhaa
open Go.RowKit
theorem OwnInts.lit5 (w : World) (base g : Nat) (p q r s t : Int) (F : Nat → Int) (hb : base ≤ w.heap.size) (hg : g = w.heap.size) (h0 : F 0 = p) (h1 : F 1 = q) (h2 : F 2 = r) (h3 : F 3 = s) (h4 : F 4 = t) :
    OwnInts (w.alloc (.cells #[.int .i64 p, .int .i64 q, .int .i64 r, .int .i64 s, .int .i64 t] 3)) base (.slice (some ⟨g, 0, none⟩) 5 5) 5 F :=
  hg ▸ ⟨by simp [intCells], .inr ⟨w.heap.size, 5, #[.int .i64 p, .int .i64 q, .int .i64 r, .int .i64 s, .int .i64 t], rfl, hb, heap_alloc_new w _, Nat.le_refl _, by decide, rfl, by simp [intCells, List.range_succ, h0, h1, h2, h3, h4]⟩⟩
/-- The sum of the bits at the first i places, from place k on. -/
def btS (T : Nat → Nat) (B : Nat → Int) (k : Nat) : Nat → Int
  | 0 => 0
  | i + 1 => btS T B k i + B (k + T i)
def btA (T : Nat → Nat) (m : Nat) : Nat → Nat → Int
  | 0, j => if j = 0 then 1 else 0
  | k + 1, j => if j = k + 5 then btS T (btA T m k) k m % 2 else btA T m k j
def Bit (x : Int) : Prop := x = 0 ∨ x = 1
theorem btS_le {T : Nat → Nat} {B : Nat → Int} {k m : Nat} (hT : ∀ i, i < m → T i < 5) (hB : ∀ j, j < k + 5 → Bit (B j)) : ∀ i, i ≤ m → 0 ≤ btS T B k i ∧ btS T B k i ≤ i
  | 0, _ => ⟨Int.le_refl _, Int.le_refl _⟩
  | i + 1, h => by
    have h1 := btS_le hT hB i (by omega)
    have h2 := hB (k + T i) (by have := hT i (by omega); omega)
    show 0 ≤ btS T B k i + B (k + T i) ∧ btS T B k i + B (k + T i) ≤ ((i + 1 : Nat) : Int)
    rcases h2 with e | e <;> rw [e] <;> omega
theorem btA_bit {T : Nat → Nat} {m : Nat} : ∀ k j, Bit (btA T m k j)
  | 0, j => by
    unfold btA
    split
    · exact .inr rfl
    · exact .inl rfl
  | k + 1, j => by
    unfold btA
    split
    · have := Int.emod_nonneg (btS T (btA T m k) k m) (show (2 : Int) ≠ 0 by decide)
      have := Int.emod_lt_of_pos (btS T (btA T m k) k m) (show (0 : Int) < 2 by decide)
      unfold Bit
      omega
    · exact btA_bit k j
/-- Bits and signs. -/
theorem sign_of_sum {T : Nat → Nat} {B S : Nat → Int} {k m : Nat} (hT : ∀ i, i < m → T i < 5) (hB : ∀ j, j < k + 5 → Bit (B j)) (h : ∀ j, j < k + 5 → 1 - 2 * B j = S j) : ∀ i, i ≤ m → 1 - 2 * (btS T B k i % 2) = tapP T S k i
  | 0, _ => rfl
  | i + 1, hi => by
    have h1 := sign_of_sum hT hB h i (by omega)
    have hj : k + T i < k + 5 := by have := hT i (by omega); omega
    have h2 := hB _ hj
    have h3 := h _ hj
    show 1 - 2 * ((btS T B k i + B (k + T i)) % 2) = tapP T S k i * S (k + T i)
    rw [← h1, ← h3]
    have := Int.emod_nonneg (btS T B k i) (show (2 : Int) ≠ 0 by decide)
    have := Int.emod_lt_of_pos (btS T B k i) (show (0 : Int) < 2 by decide)
    rcases h2 with e | e <;> rw [e]
    · rw [Int.add_zero]; omega
    · omega
theorem btA_sign {T : Nat → Nat} {m : Nat} (hT : ∀ i, i < m → T i < 5) : ∀ k j, j < k + 5 → 1 - 2 * btA T m k j = sgA T m k j
  | 0, j, hj => by
    show 1 - 2 * (if j = 0 then (1 : Int) else 0) = if j = 0 then -1 else if j < 5 then 1 else 0
    by_cases h : j = 0
    · rw [if_pos h, if_pos h]; rfl
    · rw [if_neg h, if_neg h, if_pos (by omega)]; rfl
  | k + 1, j, hj => by
    show 1 - 2 * (if j = k + 5 then btS T (btA T m k) k m % 2 else btA T m k j) = if j = k + 5 then tapP T (sgA T m k) k m else sgA T m k j
    by_cases h : j = k + 5
    · rw [if_pos h, if_pos h]
      exact sign_of_sum hT (fun q _ => btA_bit k q) (fun q hq => btA_sign hT k q hq) m (Nat.le_refl m)
    · rw [if_neg h, if_neg h]
      exact btA_sign hT k j (by omega)
def R2 (i : Nat) : Nat := if i = 0 then 0 else 2
def R4 (i : Nat) : Nat := if i = 0 then 0 else if i = 1 then 2 else if i = 2 then 3 else 4
theorem R2_lt (i : Nat) : R2 i < 5 := by unfold R2; split <;> decide
theorem R4_lt (i : Nat) : R4 i < 5 := by unfold R4; (repeat' split) <;> decide
def btR (T : Nat → Nat) (m : Nat) : Nat → Int := btA T m 26
theorem bitS {j : Nat} (hj : j < 31) : 1 - 2 * btR R2 2 j = tS j := by
  unfold btR
  rw [btA_sign (fun i _ => R2_lt i) 26 j (by omega)]
  exact sgF_table R2 2 (fun i _ => R2_lt i) tS (by decide) (by decide) (j + 1) j (Nat.lt_succ_self j) hj
theorem bitV {j : Nat} (hj : j < 31) : 1 - 2 * btR R4 4 j = tV j := by
  unfold btR
  rw [btA_sign (fun i _ => R4_lt i) 26 j (by omega)]
  exact sgF_table R4 4 (fun i _ => R4_lt i) tV (by decide) (by decide) (j + 1) j (Nat.lt_succ_self j) hj
set_option maxHeartbeats 4000000 in
set_option maxRecDepth 100000 in
theorem bitsR_any (A : Option Addr) (m c : Nat) (T : Nat → Nat) (w : World) (hm : m ≤ 31) (hT : ∀ i, i < m → T i < 5) (hI : IntsAt w 0 A m (fun i => (T i : Int))) :
    Calls Try.prog 42 #[.slice A m c] w fun e w' => ∃ v, e = .returned v ∧ GaveInts w 31 (btR T m) v w' := by
  have HI := hide hI
  have HT := hide hT
  have HR := hide (show btR T m = btA T m 26 from rfl)
  clear hI hT
  go_enter Try.func42, Try.ntmps42
  go_upto_region 2 with fail
  obtain ⟨W, hW⟩ : ∃ q : World, q = w.alloc (.cells #[.int .i64 1, .int .i64 0, .int .i64 0, .int .i64 0, .int .i64 0] 3) := ⟨_, rfl⟩
  rw [← hW]
  have ho : OwnInts W w.heap.size (.slice (some ⟨w.heap.size, 0, none⟩) 5 5) 5 (btA T m 0) := by rw [hW]; exact OwnInts.lit5 w _ _ _ _ _ _ _ _ (Nat.le_refl _) rfl rfl rfl rfl rfl rfl
  have hB : Below w.heap.size w W := by rw [hW]; (repeat (first | (with_reducible exact Below.refl _ _) | (with_reducible refine Go.below_drewN ?_ _) | (with_reducible refine Below.drew ?_) | (with_reducible refine Below.alloc ?_ (by first | exact Nat.le_refl _ | (simp; done) | (simp; omega) | omega) _) | (with_reducible refine Below.setCell ?_ (by first | exact Nat.le_refl _ | (simp; done) | (simp; omega) | omega) _)))
  clear hW
  go_wp2_with fail
  go_loopw [3, 4] (fun v x wr => ∃ k : Nat, k ≤ 26 ∧ x = .int .i64 (k : Int) ∧ OwnInts wr w.heap.size v (k + 5) (btA T m k) ∧ Below w.heap.size w wr) (fun _ x _ => 26 - (Go.RowKit.intOf x).toNat)
  case atStart => exact ⟨0, by decide, rfl, ho, hB⟩
  case round =>
    clear ho hB
    obtain ⟨k, hk, rfl, ho, hB⟩ := hrel
    obtain ⟨wA, rfl⟩ : ∃ x : World, x = wr := ⟨_, rfl⟩
    obtain ⟨D, d, rfl, hd, hD⟩ := ho.form
    have q0 : IntKind.i64.wrap ((k : Int) + 5) = (k : Int) + 5 := IntWalk.i64_in _ (by omega)
    have HNX := hide (fun j (hj : j < k + 5 + 1) => (show catF (k + 5) (btA T m k) (fun _ => btS T (btA T m k) k m % 2) j = btA T m (k + 1) j from by
      unfold catF
      show (if j < k + 5 then btA T m k j else btS T (btA T m k) k m % 2) = if j = k + 5 then btS T (btA T m k) k m % 2 else btA T m k j
      by_cases e : j = k + 5
      · rw [if_pos e, if_neg (by omega)]
      · rw [if_neg e, if_pos (by omega)]))
    have HBT := hide (show ∀ j, j < k + 5 → Bit (btA T m k j) from fun j _ => btA_bit k j)
    by_cases hlt : k < 26
    · have hlt2 : (k : Int) + 5 < 31 := by omega
      obtain ⟨B, hBB⟩ : ∃ B, B = btA T m k := ⟨_, rfl⟩
      rw [← hBB] at ho hD HNX HBT
      clear hBB
      have HO := hide ho
      have HDD := hide hD
      have HBW := hide hB
      clear ho hD hB
      go_wp2_with fail
      go_loopw [5, 6] (fun s x wr => ∃ i : Nat, i ≤ m ∧ s = .int .i64 (btS T B k i) ∧ x = .int .i64 (i : Int) ∧ wA = wr) (fun _ x _ => m - (Go.RowKit.intOf x).toNat)
      case atStart => exact ⟨0, Nat.zero_le _, rfl, rfl, rfl⟩
      case round =>
        obtain ⟨i, hi, rfl, rfl, rfl⟩ := hrel
        have hsl := btS_le (T := T) (B := B) (k := k) (m := m) HT.out HBT.out i hi
        have HS := hide (show btS T B k (i + 1) = btS T B k i + B (k + T i) from rfl)
        obtain ⟨s, hs⟩ : ∃ s, s = btS T B k i := ⟨_, rfl⟩
        rw [← hs] at hsl HS
        by_cases hlt3 : i < m
        · rw [← hs]
          have hlz : (i : Int) < (m : Int) := by omega
          obtain ⟨b0, o0, rfl, -, -, c0⟩ := (HI.out.below HBW.out) i hlt3
          replace c0 : wA.cell? ⟨b0, o0 + i, none⟩ = some (.int .i64 (T i : Int)) := c0
          have ht := HT.out i hlt3
          obtain ⟨t, htt⟩ : ∃ t, t = T i := ⟨_, rfl⟩
          rw [← htt] at c0 ht HS
          obtain ⟨p, hp⟩ : ∃ p, p = k + t := ⟨_, rfl⟩
          rw [← hp] at HS
          have hpd : (p : Int) < ((k + 5 : Nat) : Int) := by omega
          have hpd2 : (p : Int) < (k : Int) + 5 := by omega
          have q1 : IntKind.i64.wrap ((k : Int) + (t : Int)) = (p : Int) := by rw [IntWalk.i64_in _ (by omega)]; omega
          obtain ⟨b1, o1, rfl, -, -, c1⟩ := HDD.out p (by omega)
          have hbp := HBT.out p (by omega)
          obtain ⟨x, hx⟩ : ∃ x, x = B p := ⟨_, rfl⟩
          rw [← hx] at c1 hbp HS
          have q2 : IntKind.i64.wrap (s + x) = s + x := IntWalk.i64_in _ (by rcases hbp with e | e <;> rw [e] <;> omega)
          clear hs htt hp hx hbp hsl
          go_wp2_with fail
          go_roundw
          case rel => exact ⟨i + 1, by omega, by rw [HS.out], by go_num, by first | rfl | trivial⟩
          case measure => simp [Go.RowKit.intOf]; omega
        · obtain rfl : i = m := by omega
          have q3 : (btS T B k i).tmod 2 = btS T B k i % 2 := Int.tmod_eq_emod_of_nonneg (by rw [← hs]; exact hsl.1)
          rw [← hs] at q3 HNX
          rw [← hs]
          obtain ⟨r, hr⟩ : ∃ r, r = s % 2 := ⟨_, rfl⟩
          rw [← hr] at q3 HNX
          have hBs := HBW.out.size
          clear hr hs hsl
          go_wp2_with (at_builtin; refine wpList_append_ints _ rfl (.tmp 30) (.tmp 33) rfl w.heap.size 0 (.slice D (k + 5) d) (k + 5) _ rfl (HO.out.alloc _) (some ⟨_, 0, none⟩) 1 1 (fun _ => r) rfl (IntsAt.one _ 0 r 3 (Nat.zero_le _)) (by omega) (by simp; omega) ?_; intro v' w' h1 hb3)
          go_roundw
          case rel => exact ⟨k + 1, by omega, by go_num, by rw [show k + 1 + 5 = k + 5 + 1 by omega]; exact h1.congr HNX.out, (HBW.out.alloc hBs _).trans hb3⟩
          case measure => simp [Go.RowKit.intOf]; omega
    · obtain rfl : k = 26 := by omega
      go_wp2_with fail
      go_ret
      exact ⟨_, rfl, by rw [HR.out]; exact ho.gave hB⟩
end Go.Proofs.Ytmncomcdddnnhaa
/- SequenceOf and CorrelationOf of the reference. -/
namespace Go.Proofs.Ytmncomcdddnnhaa
open Go.RowKit
theorem half_of {s n : Nat} (hs : s < 1000) (hn : n < 31) : ((n : Int) + (s : Int)).tmod 31 = (((n + s) % 31 : Nat) : Int) := by
  rw [Int.tmod_eq_emod_of_nonneg (by omega)]; omega
theorem halfA_bit {i n : Nat} : halfA i n = 1 - 2 * btR R2 2 ((n + 10 * (i % 3)) % 31) := by rw [halfA_table, bitS (Nat.mod_lt _ (by decide))]
theorem halfB_bit {i n : Nat} : halfB i n = (1 - 2 * btR R2 2 ((n + i / 3 % 31) % 31)) * (1 - 2 * btR R4 4 ((n + i / 3 / 31) % 31)) := by rw [halfB_table, bitS (Nat.mod_lt _ (by decide)), bitV (Nat.mod_lt _ (by decide))]
set_option maxHeartbeats 8000000 in
set_option maxRecDepth 100000 in
theorem SequenceOfR_any (i : Nat) (w : World) (hi : i < 1008) :
    Calls Try.prog 14 #[.int .i64 (i : Int)] w fun e w' => ∃ v, e = .returned v ∧ GaveInts w 62 (seqF i) v w' := by
  have HH := hide (show seqF i = catF 31 (halfA i) (halfB i) from rfl)
  have HAB := hide (fun n => halfA_bit (i := i) (n := n))
  have HBB := hide (fun n => halfB_bit (i := i) (n := n))
  have HS := hide (fun W => ShiftsR_any i W hi)
  have l0 : 10 * (i % 3) < 100 := by omega
  have l1 : i / 3 % 31 < 100 := by omega
  have l2 : i / 3 / 31 < 100 := by omega
  generalize 10 * (i % 3) = s0 at *
  generalize i / 3 % 31 = s1 at *
  generalize i / 3 / 31 = s2 at *
  generalize halfA i = HA at *
  generalize halfB i = HB at *
  generalize seqF i = SQ at *
  clear hi
  go_enter Try.func14, Try.ntmps14
  go_wp2_with fail
  refine (bitsR_any (some ⟨w.heap.size, 0, none⟩) 2 2 R2 _ (by decide) (fun i _ => R2_lt i) ((IntsAt.of_list [0, 2] 2 rfl (Box.made rfl) (Nat.zero_le _)).congr (fun i hi => by match i, hi with | 0, _ => rfl | 1, _ => rfl))).mono ?_
  rintro e w1 ⟨v1, rfl, A1, c1, rfl, hc1, hI1, hb1⟩
  replace hI1 := hI1.weak (Nat.zero_le _)
  have hB1 : Below w.heap.size w w1 := below_behind hb1
  clear hb1
  go_wp2_with fail
  refine (bitsR_any (some ⟨w1.heap.size, 0, none⟩) 4 4 R4 _ (by decide) (fun i _ => R4_lt i) ((IntsAt.of_list [0, 2, 3, 4] 4 rfl (Box.made rfl) (Nat.zero_le _)).congr (fun i hi => by match i, hi with | 0, _ => rfl | 1, _ => rfl | 2, _ => rfl | 3, _ => rfl))).mono ?_
  rintro e w2 ⟨v2, rfl, A2, c2, rfl, hc2, hI2, hb2⟩
  replace hI2 := hI2.weak (Nat.zero_le _)
  replace hI1 := hI1.below (below_behind hb2)
  have hB2 : Below w.heap.size w w2 := hB1.trans ((below_behind hb2).mono hB1.size)
  clear hb2 hB1
  go_wp2_with fail
  refine (HS.out _).mono ?_
  rintro e w3 ⟨rfl, hb3⟩
  replace hI1 := hI1.below hb3
  replace hI2 := hI2.below hb3
  have hB3 := hB2.trans (hb3.mono hB2.size)
  clear hb3 hB2 hc1 hc2
  go_upto_region 3 with fail
  obtain ⟨W, hW⟩ : ∃ q : World, q = w3.alloc (.cells #[.int .i64 (s0 : Int), .int .i64 (s1 : Int), .int .i64 (s2 : Int)] 24) := ⟨_, rfl⟩
  rw [← hW]
  obtain ⟨g5, hg5⟩ : ∃ g, g = w3.heap.size := ⟨_, rfl⟩
  have b5 : Box W g5 24 #[.int .i64 (s0 : Int), .int .i64 (s1 : Int), .int .i64 (s2 : Int)] := by rw [hW]; exact Box.made hg5
  rw [← hg5]
  replace hI1 : IntsAt W 0 A1 31 (btR R2 2) := by rw [hW]; exact hI1.alloc _
  replace hI2 : IntsAt W 0 A2 31 (btR R4 4) := by rw [hW]; exact hI2.alloc _
  have hBW : Below w.heap.size w W := by rw [hW]; exact hB3.alloc hB3.size _
  clear hW hg5 hB3
  have HI1 := hide hI1
  have HI2 := hide hI2
  have HB5 := hide b5
  have HBW := hide hBW
  clear hI1 hI2 b5 hBW
  go_wp2_with fail
  go_loopw [6, 7] (fun v x wr => ∃ n : Nat, n ≤ 31 ∧ x = .int .i64 (n : Int) ∧ OwnInts wr W.heap.size v n HA ∧ Below W.heap.size W wr) (fun _ x _ => 31 - (Go.RowKit.intOf x).toNat)
  case atStart => exact ⟨0, by decide, rfl, OwnInts.nil_ _ _ _, Below.refl _ _⟩
  case round =>
    obtain ⟨n, hn, rfl, ho, hB⟩ := hrel
    obtain ⟨wA, rfl⟩ : ∃ x : World, x = wr := ⟨_, rfl⟩
    obtain ⟨D, d, rfl, -, -⟩ := ho.form
    have hBs := hB.size
    by_cases hlt : n < 31
    · have hlz : (n : Int) < 31 := by omega
      have HAn := hide (HAB.out n)
      have y0 := (HB5.out.below hB).at_ 0
      simp only [List.getElem?_toArray] at y0
      have q1 : IntKind.i64.wrap ((n : Int) + (s0 : Int)) = (n : Int) + (s0 : Int) := IntWalk.i64_in _ (by omega)
      have q2 := half_of (s := s0) (by omega) hlt
      have hp31 : (n + s0) % 31 < 31 := Nat.mod_lt _ (by decide)
      obtain ⟨p, hp⟩ : ∃ p, p = (n + s0) % 31 := ⟨_, rfl⟩
      rw [← hp] at q2 hp31 HAn
      have hpz : (p : Int) < 31 := by omega
      obtain ⟨b1, o1, rfl, -, -, x1⟩ := (HI1.out.below hB) p hp31
      have hbit := btA_bit (T := R2) (m := 2) 26 p
      obtain ⟨x, hx⟩ : ∃ x, x = btR R2 2 p := ⟨_, rfl⟩
      rw [← hx] at x1 HAn
      replace hbit : Bit x := by rw [hx]; exact hbit
      have q3 : IntKind.i64.wrap (2 * x) = 2 * x := IntWalk.i64_in _ (by rcases hbit with e | e <;> rw [e] <;> decide)
      obtain ⟨y, hy⟩ : ∃ y, y = 1 - 2 * x := ⟨_, rfl⟩
      have q4 : IntKind.i64.wrap (1 - 2 * x) = y := by rw [hy]; exact IntWalk.i64_in _ (by rcases hbit with e | e <;> rw [e] <;> decide)
      rw [← hy] at HAn
      have HO := hide ho
      have HBB' := hide hB
      clear hy hx hp hbit ho hB
      go_wp2_with (at_builtin; refine wpList_append_ints _ rfl (.tmp 19) (.tmp 30) rfl W.heap.size 0 (.slice D n d) n _ rfl (HO.out.alloc _) (some ⟨_, 0, none⟩) 1 1 (fun _ => y) rfl (IntsAt.one _ 0 y 3 (Nat.zero_le _)) (by omega) (by simp; omega) ?_; intro v' w' h1 hb4)
      go_roundw
      case rel =>
        refine ⟨n + 1, by omega, by go_num, h1.congr fun j hj => ?_, (HBB'.out.alloc hBs _).trans hb4⟩
        unfold catF
        by_cases e : j < n
        · rw [if_pos e]
        · obtain rfl : j = n := by omega
          rw [if_neg e, HAn.out]
      case measure => simp [Go.RowKit.intOf]; omega
    · have hn31 : n = 31 := by omega
      have hlz : ¬ ((n : Int) < 31) := by omega
      have HO := hide (show OwnInts wA W.heap.size (.slice D n d) 31 (catF 31 HA HB) from OwnInts.congr (F := HA) (by rw [← hn31]; exact ho) fun j hj => by unfold catF; rw [if_pos hj])
      have HB0 := hide hB
      clear ho hB hn31 hlt
      go_wp2_with fail
      go_loopw [6, 8] (fun v x wr => ∃ n : Nat, n ≤ 31 ∧ x = .int .i64 (n : Int) ∧ OwnInts wr W.heap.size v (31 + n) (catF 31 HA HB) ∧ Below W.heap.size W wr) (fun _ x _ => 31 - (Go.RowKit.intOf x).toNat)
      case atStart => exact ⟨0, by decide, rfl, HO.out, HB0.out⟩
      case round =>
        clear HO HB0
        obtain ⟨n, hn, rfl, ho, hB⟩ := hrel
        obtain ⟨wB, rfl⟩ : ∃ x : World, x = wr := ⟨_, rfl⟩
        obtain ⟨D, d, rfl, -, -⟩ := ho.form
        have hBs := hB.size
        by_cases hlt2 : n < 31
        · have hlz : (n : Int) < 31 := by omega
          have HBn := hide (HBB.out n)
          have y1 := (HB5.out.below hB).at_ 1
          have y2 := (HB5.out.below hB).at_ 2
          simp only [List.getElem?_toArray] at y1 y2
          have q1 : IntKind.i64.wrap ((n : Int) + (s1 : Int)) = (n : Int) + (s1 : Int) := IntWalk.i64_in _ (by omega)
          have q2 := half_of (s := s1) (by omega) hlt2
          have q1' : IntKind.i64.wrap ((n : Int) + (s2 : Int)) = (n : Int) + (s2 : Int) := IntWalk.i64_in _ (by omega)
          have q2' := half_of (s := s2) (by omega) hlt2
          have hp31 : (n + s1) % 31 < 31 := Nat.mod_lt _ (by decide)
          have hr31 : (n + s2) % 31 < 31 := Nat.mod_lt _ (by decide)
          obtain ⟨p, hp⟩ : ∃ p, p = (n + s1) % 31 := ⟨_, rfl⟩
          obtain ⟨r, hr⟩ : ∃ r, r = (n + s2) % 31 := ⟨_, rfl⟩
          rw [← hp] at q2 hp31 HBn
          rw [← hr] at q2' hr31 HBn
          have hpz : (p : Int) < 31 := by omega
          have hrz : (r : Int) < 31 := by omega
          obtain ⟨b1, o1, rfl, -, -, x1⟩ := (HI1.out.below hB) p hp31
          obtain ⟨b2, o2, rfl, -, -, x2⟩ := (HI2.out.below hB) r hr31
          have hbit := btA_bit (T := R2) (m := 2) 26 p
          have hbit2 := btA_bit (T := R4) (m := 4) 26 r
          obtain ⟨x, hx⟩ : ∃ x, x = btR R2 2 p := ⟨_, rfl⟩
          obtain ⟨z, hz⟩ : ∃ z, z = btR R4 4 r := ⟨_, rfl⟩
          rw [← hx] at x1 HBn
          rw [← hz] at x2 HBn
          replace hbit : Bit x := by rw [hx]; exact hbit
          replace hbit2 : Bit z := by rw [hz]; exact hbit2
          have q3 : IntKind.i64.wrap (2 * x) = 2 * x := IntWalk.i64_in _ (by rcases hbit with e | e <;> rw [e] <;> decide)
          have q5 : IntKind.i64.wrap (2 * z) = 2 * z := IntWalk.i64_in _ (by rcases hbit2 with e | e <;> rw [e] <;> decide)
          obtain ⟨y, hy⟩ : ∃ y, y = 1 - 2 * x := ⟨_, rfl⟩
          obtain ⟨u, hu⟩ : ∃ u, u = 1 - 2 * z := ⟨_, rfl⟩
          have q4 : IntKind.i64.wrap (1 - 2 * x) = y := by rw [hy]; exact IntWalk.i64_in _ (by rcases hbit with e | e <;> rw [e] <;> decide)
          have q6 : IntKind.i64.wrap (1 - 2 * z) = u := by rw [hu]; exact IntWalk.i64_in _ (by rcases hbit2 with e | e <;> rw [e] <;> decide)
          rw [← hy, ← hu] at HBn
          obtain ⟨t, ht⟩ : ∃ t, t = y * u := ⟨_, rfl⟩
          have q7 : IntKind.i64.wrap (y * u) = t := by rw [ht, hy, hu]; exact IntWalk.i64_in _ (by rcases hbit with e | e <;> rcases hbit2 with f | f <;> rw [e, f] <;> decide)
          rw [← ht] at HBn
          have HO := hide ho
          have HBB' := hide hB
          clear ht hy hu hx hz hp hr hbit hbit2 ho hB
          go_upto_region 11 with fail
          refine wp_region_held_drew (S := fun w' => w'.cell? ⟨g5, 1, none⟩ = some (.int .i64 (s1 : Int)) ∧ w'.cell? ⟨g5, 2, none⟩ = some (.int .i64 (s2 : Int)) ∧ w'.cell? ⟨b1, o1 + p, none⟩ = some (.int .i64 x) ∧ w'.cell? ⟨b2, o2 + r, none⟩ = some (.int .i64 z)) (by kernel_rfl) ⟨y1, y2, x1, x2⟩ (fun hHeld => ?_)
          refine wpAnyH_take (i := 0) (oi := ⟨some 36, _, _, _, _, _⟩) (v := ?_) rfl (by kernel_rfl) (by kernel_rfl) (by kernel_rfl) (fun _ _ _ h => h) (Or.inl ⟨by rfl, ?_⟩) (by assumption) ?_
          rotate_left
          · (intro w' hSw; (try dsimp only at hSw); go_simp <;> (with_reducible rfl))
          try simp only [Act.put, List.setIfInBounds_toArray, List.set_cons_zero, List.set_cons_succ]
          refine wpAnyH_take (i := 1) (oi := ⟨some 37, _, _, _, _, _⟩) (v := ?_) rfl (by kernel_rfl) (by kernel_rfl) (by kernel_rfl) (fun _ _ _ h => h) (Or.inl ⟨by rfl, ?_⟩) (by assumption) ?_
          rotate_left
          · (intro w' hSw; (try dsimp only at hSw); go_simp <;> (with_reducible rfl))
          try simp only [Act.put, List.setIfInBounds_toArray, List.set_cons_zero, List.set_cons_succ]
          refine wpAnyH_take (i := 2) (oi := ⟨some 38, _, _, _, _, _⟩) (v := ?_) rfl (by kernel_rfl) (by kernel_rfl) (by kernel_rfl) (fun _ _ _ h => h) (Or.inl ⟨by rfl, ?_⟩) (by assumption) ?_
          rotate_left
          · (intro w' hSw; (try dsimp only at hSw); go_simp <;> (with_reducible rfl))
          try simp only [Act.put, List.setIfInBounds_toArray, List.set_cons_zero, List.set_cons_succ]
          refine wpAnyH_take (i := 3) (oi := ⟨some 39, _, _, _, _, _⟩) (v := ?_) rfl (by kernel_rfl) (by kernel_rfl) (by kernel_rfl) (fun _ _ _ h => h) (Or.inl ⟨by rfl, ?_⟩) (by assumption) ?_
          rotate_left
          · (intro w' hSw; (try dsimp only at hSw); go_simp <;> (with_reducible rfl))
          try simp only [Act.put, List.setIfInBounds_toArray, List.set_cons_zero, List.set_cons_succ]
          refine wpAnyH_take (i := 4) (oi := ⟨some 40, _, _, _, _, _⟩) (v := ?_) rfl (by kernel_rfl) (by kernel_rfl) (by kernel_rfl) (fun _ _ _ h => h) (Or.inl ⟨by rfl, ?_⟩) (by assumption) ?_
          rotate_left
          · (intro w' hSw; (try dsimp only at hSw); go_simp <;> (with_reducible rfl))
          try simp only [Act.put, List.setIfInBounds_toArray, List.set_cons_zero, List.set_cons_succ]
          refine wpAnyH_take (i := 5) (oi := ⟨some 41, _, _, _, _, _⟩) (v := ?_) rfl (by kernel_rfl) (by kernel_rfl) (by kernel_rfl) (fun _ _ _ h => h) (Or.inl ⟨by rfl, ?_⟩) (by assumption) ?_
          rotate_left
          · (intro w' hSw; (try dsimp only at hSw); go_simp <;> (with_reducible rfl))
          try simp only [Act.put, List.setIfInBounds_toArray, List.set_cons_zero, List.set_cons_succ]
          refine wpAnyH_take (i := 6) (oi := ⟨some 42, _, _, _, _, _⟩) (v := ?_) rfl (by kernel_rfl) (by kernel_rfl) (by kernel_rfl) (fun _ _ _ h => h) (Or.inl ⟨by rfl, ?_⟩) (by assumption) ?_
          rotate_left
          · (intro w' hSw; (try dsimp only at hSw); go_simp <;> (with_reducible rfl))
          try simp only [Act.put, List.setIfInBounds_toArray, List.set_cons_zero, List.set_cons_succ]
          refine wpAnyH_take (i := 7) (oi := ⟨some 43, _, _, _, _, _⟩) (v := ?_) rfl (by kernel_rfl) (by kernel_rfl) (by kernel_rfl) (fun _ _ _ h => h) (Or.inl ⟨by rfl, ?_⟩) (by assumption) ?_
          rotate_left
          · (intro w' hSw; (try dsimp only at hSw); go_simp <;> (with_reducible rfl))
          try simp only [Act.put, List.setIfInBounds_toArray, List.set_cons_zero, List.set_cons_succ]
          refine wpAnyH_take (i := 8) (oi := ⟨some 44, _, _, _, _, _⟩) (v := ?_) rfl (by kernel_rfl) (by kernel_rfl) (by kernel_rfl) (fun _ _ _ h => h) (Or.inl ⟨by rfl, ?_⟩) (by assumption) ?_
          rotate_left
          · (intro w' hSw; (try dsimp only at hSw); go_simp <;> (with_reducible rfl))
          try simp only [Act.put, List.setIfInBounds_toArray, List.set_cons_zero, List.set_cons_succ]
          refine wpAnyH_take (i := 9) (oi := ⟨some 45, _, _, _, _, _⟩) (v := ?_) rfl (by kernel_rfl) (by kernel_rfl) (by kernel_rfl) (fun _ _ _ h => h) (Or.inl ⟨by rfl, ?_⟩) (by assumption) ?_
          rotate_left
          · (intro w' hSw; (try dsimp only at hSw); go_simp <;> (with_reducible rfl))
          try simp only [Act.put, List.setIfInBounds_toArray, List.set_cons_zero, List.set_cons_succ]
          refine wpAnyH_take (i := 10) (oi := ⟨some 46, _, _, _, _, _⟩) (v := ?_) rfl (by kernel_rfl) (by kernel_rfl) (by kernel_rfl) (fun _ _ _ h => h) (Or.inl ⟨by rfl, ?_⟩) (by assumption) ?_
          rotate_left
          · (intro w' hSw; (try dsimp only at hSw); go_simp <;> (with_reducible rfl))
          try simp only [Act.put, List.setIfInBounds_toArray, List.set_cons_zero, List.set_cons_succ]
          refine wpAnyH_take (i := 11) (oi := ⟨some 47, _, _, _, _, _⟩) (v := ?_) rfl (by kernel_rfl) (by kernel_rfl) (by kernel_rfl) (fun _ _ _ h => h) (Or.inl ⟨by rfl, ?_⟩) (by assumption) ?_
          rotate_left
          · (intro w' hSw; (try dsimp only at hSw); go_simp <;> (with_reducible rfl))
          try simp only [Act.put, List.setIfInBounds_toArray, List.set_cons_zero, List.set_cons_succ]
          refine wpAnyH_take (i := 12) (oi := ⟨some 48, _, _, _, _, _⟩) (v := ?_) rfl (by kernel_rfl) (by kernel_rfl) (by kernel_rfl) (fun _ _ _ h => h) (Or.inl ⟨by rfl, ?_⟩) (by assumption) ?_
          rotate_left
          · (intro w' hSw; (try dsimp only at hSw); go_simp <;> (with_reducible rfl))
          try simp only [Act.put, List.setIfInBounds_toArray, List.set_cons_zero, List.set_cons_succ]
          refine wpAnyH_take (i := 13) (oi := ⟨some 49, _, _, _, _, _⟩) (v := ?_) rfl (by kernel_rfl) (by kernel_rfl) (by kernel_rfl) (fun _ _ _ h => h) (Or.inl ⟨by rfl, ?_⟩) (by assumption) ?_
          rotate_left
          · (intro w' hSw; (try dsimp only at hSw); go_simp <;> (with_reducible rfl))
          try simp only [Act.put, List.setIfInBounds_toArray, List.set_cons_zero, List.set_cons_succ]
          refine wpAnyH_take (i := 14) (oi := ⟨some 50, _, _, _, _, _⟩) (v := ?_) rfl (by kernel_rfl) (by kernel_rfl) (by kernel_rfl) (fun _ _ _ h => h) (Or.inl ⟨by rfl, ?_⟩) (by assumption) ?_
          rotate_left
          · (intro w' hSw; (try dsimp only at hSw); go_simp <;> (with_reducible rfl))
          try simp only [Act.put, List.setIfInBounds_toArray, List.set_cons_zero, List.set_cons_succ]
          refine wpAnyH_take (i := 15) (oi := ⟨some 51, _, _, _, _, _⟩) (v := ?_) rfl (by kernel_rfl) (by kernel_rfl) (by kernel_rfl) (fun _ _ _ h => h) (Or.inl ⟨by rfl, ?_⟩) (by assumption) ?_
          rotate_left
          · (intro w' hSw; (try dsimp only at hSw); go_simp <;> (with_reducible rfl))
          try simp only [Act.put, List.setIfInBounds_toArray, List.set_cons_zero, List.set_cons_succ]
          refine wpAnyH_take (i := 16) (oi := ⟨some 52, _, _, _, _, _⟩) (v := ?_) rfl (by kernel_rfl) (by kernel_rfl) (by kernel_rfl) (fun _ _ _ h => h) (Or.inl ⟨by rfl, ?_⟩) (by assumption) ?_
          rotate_left
          · (intro w' hSw; (try dsimp only at hSw); go_simp <;> (with_reducible rfl))
          try simp only [Act.put, List.setIfInBounds_toArray, List.set_cons_zero, List.set_cons_succ]
          refine wpAnyH_take (i := 17) (oi := ⟨some 53, _, _, _, _, _⟩) (v := ?_) rfl (by kernel_rfl) (by kernel_rfl) (by kernel_rfl) (fun _ _ _ h => h) (Or.inl ⟨by rfl, ?_⟩) (by assumption) ?_
          rotate_left
          · (intro w' hSw; (try dsimp only at hSw); go_simp <;> (with_reducible rfl))
          try simp only [Act.put, List.setIfInBounds_toArray, List.set_cons_zero, List.set_cons_succ]
          refine wpAnyH_take (i := 18) (oi := ⟨some 54, _, _, _, _, _⟩) (v := ?_) rfl (by kernel_rfl) (by kernel_rfl) (by kernel_rfl) (fun _ _ _ h => h) (Or.inl ⟨by rfl, ?_⟩) (by assumption) ?_
          rotate_left
          · (intro w' hSw; (try dsimp only at hSw); go_simp <;> (with_reducible rfl))
          try simp only [Act.put, List.setIfInBounds_toArray, List.set_cons_zero, List.set_cons_succ]
          refine wpAnyH_take (i := 19) (oi := ⟨some 55, _, _, _, _, _⟩) (v := ?_) rfl (by kernel_rfl) (by kernel_rfl) (by kernel_rfl) (fun _ _ _ h => h) (Or.inl ⟨by rfl, ?_⟩) (by assumption) ?_
          rotate_left
          · (intro w' hSw; (try dsimp only at hSw); go_simp <;> (with_reducible rfl))
          try simp only [Act.put, List.setIfInBounds_toArray, List.set_cons_zero, List.set_cons_succ]
          refine wpAnyH_take (i := 20) (oi := ⟨some 56, _, _, _, _, _⟩) (v := ?_) rfl (by kernel_rfl) (by kernel_rfl) (by kernel_rfl) (fun _ _ _ h => h) (Or.inl ⟨by rfl, ?_⟩) (by assumption) ?_
          rotate_left
          · (intro w' hSw; (try dsimp only at hSw); go_simp <;> (with_reducible rfl))
          try simp only [Act.put, List.setIfInBounds_toArray, List.set_cons_zero, List.set_cons_succ]
          refine wpAnyH_take (i := 21) (oi := ⟨some 57, _, _, _, _, _⟩) (v := ?_) rfl (by kernel_rfl) (by kernel_rfl) (by kernel_rfl) (fun _ _ _ h => h) (Or.inl ⟨by rfl, ?_⟩) (by assumption) ?_
          rotate_left
          · (intro w' hSw; (try dsimp only at hSw); go_simp <;> (with_reducible rfl))
          try simp only [Act.put, List.setIfInBounds_toArray, List.set_cons_zero, List.set_cons_succ]
          refine wpAnyH_ready (rs := [22]) (by kernel_rfl) (by simp) ?_
          refine AllReadyH.cons (o := ⟨some 58, _, _, _, _, _⟩) rfl (fun K' hK => ?_) AllReadyH.nil
          go_simp
          have hlb1 : b1 < W.heap.size := by obtain ⟨b', o', e, -, hl, -⟩ := HI1.out p hp31; injection e with e; injection e with e1 e2; subst e1; exact hl
          have hlb2 : b2 < W.heap.size := by obtain ⟨b', o', e, -, hl, -⟩ := HI2.out r hr31; injection e with e; injection e with e1 e2; subst e1; exact hl
          have hlb5 : g5 < W.heap.size := HB5.out.lt
          have HC := hide (fun (W' : World) (h : Below W.heap.size wB W') => (⟨(h.cell (p := ⟨g5, 1, none⟩) hlb5).trans y1, (h.cell (p := ⟨g5, 2, none⟩) hlb5).trans y2, (h.cell (p := ⟨b1, o1 + p, none⟩) hlb1).trans x1, (h.cell (p := ⟨b2, o2 + r, none⟩) hlb2).trans x2⟩ : W'.cell? ⟨g5, 1, none⟩ = some (.int .i64 (s1 : Int)) ∧ W'.cell? ⟨g5, 2, none⟩ = some (.int .i64 (s2 : Int)) ∧ W'.cell? ⟨b1, o1 + p, none⟩ = some (.int .i64 x) ∧ W'.cell? ⟨b2, o2 + r, none⟩ = some (.int .i64 z)))
          have hAL : Below W.heap.size wB (wB.drew.alloc (.cells #[.int .i64 t] 3)) := ((Below.refl _ _).drew.alloc hBs _)
          refine hK.out _ _ (HC.out _ hAL) (fun hHeld => ?_)
          clear hK K'
          try simp only [Act.put, List.setIfInBounds_toArray, List.set_cons_zero, List.set_cons_succ]
          refine wpAnyH_ready (rs := [23]) (by kernel_rfl) (by simp) ?_
          refine AllReadyH.cons (o := ⟨some 59, _, _, _, _, _⟩) rfl (fun K' hK => ?_) AllReadyH.nil
          refine step_append_ints _ rfl (.tmp 36) (.tmp 58) rfl W.heap.size 0 (.slice D (31 + n) d) (31 + n) _ rfl (HO.out.alloc _) (some ⟨_, 0, none⟩) 1 1 (fun _ => t) rfl (IntsAt.one _ 0 t 3 (Nat.zero_le _)) (by omega) (by simp; omega) ?_
          intro v' w' h1 hb4
          have hc4 : Below W.heap.size wB w' := hAL.trans ⟨hb4.os, hb4.tape, hb4.output, hb4.size, hb4.block⟩
          refine hK.out _ _ (HC.out _ hc4) (fun hHeld => ?_)
          clear hK K'
          try simp only [Act.put, List.setIfInBounds_toArray, List.set_cons_zero, List.set_cons_succ]
          refine wpAnyH_ready (rs := [24]) (by kernel_rfl) (by simp) ?_
          refine AllReadyH.cons (o := ⟨some 6, _, _, _, _, _⟩) rfl (fun K' hK => ?_) AllReadyH.nil
          go_simp
          refine hK.out _ _ (HC.out _ hc4) (fun hHeld => ?_)
          clear hK K'
          try simp only [Act.put, List.setIfInBounds_toArray, List.set_cons_zero, List.set_cons_succ]
          refine wpAnyH_done (by kernel_rfl) ?_ _
          go_wp2_with fail
          go_roundw
          case rel =>
            refine ⟨n + 1, by omega, by go_num, ?_, HBB'.out.trans hc4⟩
            rw [show 31 + (n + 1) = 31 + n + 1 by omega]
            refine OwnInts.congr h1 fun j hj => ?_
            unfold catF
            by_cases e : j < 31 + n
            · rw [if_pos e]
            · obtain rfl : j = 31 + n := by omega
              rw [if_neg e, if_neg (show ¬ 31 + n < 31 by omega), show 31 + n - 31 = n by omega, HBn.out]
          case measure => simp [Go.RowKit.intOf]; omega
        · obtain rfl : n = 31 := by omega
          have hBF := HBW.out.trans (hB.mono HBW.out.size)
          have hG := ho.form
          go_wp2_with fail
          go_ret
          obtain ⟨D', d', e, hd, hI⟩ := ho.form
          exact ⟨_, rfl, D', d', e, hd, by rw [HH.out]; exact hI.weak HBW.out.size, hBF⟩
set_option maxHeartbeats 2000000 in
theorem CorrelationOfR_any (i : Nat) (A : Option Addr) (n c : Nat) (F : Nat → Int) (w : World) (hi : i < 1008) (hn : n = 62) (hI : IntsAt w 0 A n F) (hF : ∀ j, j < n → -100000 ≤ F j ∧ F j ≤ 100000) :
    Calls Try.prog 16 #[.int .i64 (i : Int), .slice A n c] w fun e w' => e = .returned (.int .i64 (corS (seqF i) F 62)) ∧ Below w.heap.size w w' := by
  subst hn
  have HI := hide hI
  have HF := hide hF
  have HS := hide (fun W => SequenceOfR_any i W hi)
  have HG := hide (show ∀ j, j < 62 → IsSign (seqF i j) from fun j hj => seqF_sign hj)
  clear hI hF hi
  generalize seqF i = G at *
  go_enter Try.func16, Try.ntmps16
  go_wp2_with fail
  refine (HS.out _).mono ?_
  rintro e w1 ⟨v, rfl, B, b, rfl, hb, hJ, hb1⟩
  have hJ0 := hJ.weak (Nat.zero_le _)
  have HJ := hide hJ0
  have HI1 := hide (HI.out.below hb1)
  clear hJ hJ0
  go_wp2_with fail
  go_loopw [6, 7] (fun s x wr => ∃ k : Nat, k ≤ 62 ∧ s = .int .i64 (corS G F k) ∧ x = .int .i64 (k : Int) ∧ Below w1.heap.size w1 wr) (fun _ x _ => 62 - (Go.RowKit.intOf x).toNat)
  case atStart => exact ⟨0, Nat.zero_le _, rfl, rfl, Below.refl _ _⟩
  case round =>
    obtain ⟨k, hk, rfl, rfl, hB⟩ := hrel
    obtain ⟨wA, rfl⟩ : ∃ x : World, x = wr := ⟨_, rfl⟩
    have hs := corS_le (F := G) (G := F) (k := k) fun j hj => ⟨HG.out j (by omega), HF.out j (by omega)⟩
    have HSS := hide (show corS G F (k + 1) = corS G F k + G k * F k from rfl)
    obtain ⟨s, hs'⟩ : ∃ s, s = corS G F k := ⟨_, rfl⟩
    rw [← hs'] at hs HSS
    rw [← hs']
    by_cases hlt : k < 62
    · have hltz : (k : Int) < 62 := by omega
      obtain ⟨b0, o0, rfl, -, -, x0⟩ := (HI1.out.below hB) k hlt
      obtain ⟨b', o', rfl, -, -, y0⟩ := (HJ.out.below hB) k hlt
      have hf := HG.out k hlt
      have hg := HF.out k hlt
      generalize F k = p at *
      generalize G k = q at *
      have hpq : -100000 ≤ q * p ∧ q * p ≤ 100000 := by rcases hf with e | e <;> rw [e] <;> omega
      obtain ⟨r, hr⟩ : ∃ r, r = q * p := ⟨_, rfl⟩
      have q1 : IntKind.i64.wrap (q * p) = r := by rw [IntWalk.i64_in _ (by omega), hr]
      rw [← hr] at HSS hpq
      have q2 : IntKind.i64.wrap (s + r) = s + r := IntWalk.i64_in _ (by omega)
      clear hf hg hpq hr hs hs'
      go_wp2_with fail
      go_quiet (fail)
      go_wp2_with fail
      go_roundw
      case rel => exact ⟨k + 1, by omega, by rw [HSS.out], by go_num, ⟨hB.os, hB.tape, hB.output, hB.size, hB.block⟩⟩
      case measure => simp [Go.RowKit.intOf]; omega
    · obtain rfl : k = 62 := by omega
      go_wp2_with fail
      go_ret
      exact ⟨by rw [← hs']; rfl, hb1.trans (hB.mono hb1.size)⟩
end Go.Proofs.Ytmncomcdddnnhaa
/- Two arrays of three equal numbers are equal. -/
namespace Go.Proofs.Ytmncomcdddnnhaa
open Go.RowKit
theorem equal3_same (a b c : Int) (w : World) : (Op.equalIn 10000 24 (.agg #[.int .i64 a, .int .i64 b, .int .i64 c]) (.agg #[.int .i64 a, .int .i64 b, .int .i64 c])).run Try.prog w = .ok true w := by
  obtain ⟨i0, hi, hz0, hz1, hz2⟩ := info_parts intInfo
  have h1 : Try.prog.cellsOf 3 = 1 := by kernel_rfl
  have h := run_equalIn_array (P := Try.prog) (w := w) 9999 (n := 3) #[.int .i64 a, .int .i64 b, .int .i64 c] #[.int .i64 a, .int .i64 b, .int .i64 c] Try.underlying24 hi
  refine h.trans ?_
  rw [h1]
  simp [Op.eqItems, List.range_succ, go_sem]
end Go.Proofs.Ytmncomcdddnnhaa
/- The walk of WaveSequences. -/
namespace Go.Proofs.Ytmncomcdddnnhaa
open Go.RowKit
theorem ccE_two {a : Int} {n : Nat} {F : Nat → Int} (h : withinB a 0 1007 = false) : ccE a n F = 2 := by
  unfold ccE unI; rw [h]; rfl
theorem ccE_ten {a : Int} {n : Nat} {F : Nat → Int} (h : withinB a 0 1007 = true) (hn : n ≠ 62) : ccE a n F = 10 := by
  have e : ((n : Int) == 62) = false := by simp; omega
  unfold ccE unI
  rw [h, e]
  rfl
theorem ccE_vals {a : Int} {F : Nat → Int} (h : withinB a 0 1007 = true) : ccE a 62 F = valsE 62 F := by
  have e : recE 62 F = valsE 62 F := by
    show (if (0 : Int) = 0 then (if valsE 62 F = 0 then 0 else valsE 62 F) else 0) = valsE 62 F
    rw [if_pos rfl]
    split
    · rename_i h; exact h.symm
    · rfl
  have e2 : ccE a 62 F = if recE 62 F = 0 then 0 else recE 62 F := by unfold ccE unI; rw [h]; rfl
  rw [e2, e]
  split
  · rename_i h; exact h.symm
  · rfl
set_option maxHeartbeats 16000000 in
set_option maxRecDepth 100000 in
theorem waveSequences_walk (a : Int) (A : Option Addr) (n c : Nat) (F : Nat → Int) (w : World) (hn9 : n ≤ 9223372036854775807) (hI : IntsAt w 0 A n F) :
    Calls Try.prog 3 #[.int .i64 a, .slice A n c] w fun e w' => e = .returned (.bool true) ∧ Below w.heap.size w w' := by
  have HAW := hide (fun W => awake_any W)
  have HI := hide hI
  clear hI
  by_cases hn : 122 < n
  · have hnz : (n : Int) > 122 := by omega
    clear hn
    go_enter Try.func3, Try.ntmps3
    go_wp2_with fail
    refine (HAW.out _).mono ?_
    rintro e w1 ⟨rfl, hb1⟩
    go_wp2_with fail
    go_ret
    exact ⟨rfl, hb1⟩
  have hnz : ¬ (n : Int) > 122 := by omega
  have hn5 : n ≤ 100000 := by omega
  have HCP := hide (fun W (h : IntsAt W 0 A n F) => copyInts_any A n c F W (by omega) h)
  have HCC := hide (fun D d W (h : IntsAt W 0 D n F) => CorrelationOf_any a D n d F W hn5 h)
  clear hn
  cases hza : withinB a 0 1007
  · have HSH := hide (fun W => Shifts_wrong a W hza)
    have HSQ := hide (fun W => SequenceOf_wrong a W hza)
    have HIE := hide (fun W => identityErr_any a W)
    rw [hza] at HIE
    replace HIE : Hid (∀ W, Calls Try.prog 11 #[.int .i64 a] W fun e w' => e = .returned (.int .i64 2) ∧ W = w') := HIE
    have e1 : ccE a n F = 2 := ccE_two hza
    have e2 : ccV a n F = 0 := by unfold ccV; rw [e1]; rfl
    rw [e1, e2] at HCC
    clear e1 e2 hza
    go_enter Try.func3, Try.ntmps3
    go_wp2_with fail
    refine (HAW.out _).mono ?_
    rintro e w1 ⟨rfl, hB1⟩
    go_wp2_with fail
    refine (HSH.out _).mono ?_
    rintro e w2 ⟨rfl, hb2⟩
    have hB2 := hB1.trans (hb2.mono hB1.size)
    clear hb2 hB1
    go_upto_region 6 with fail
    obtain ⟨W, hW⟩ : ∃ q : World, q = w2.alloc (.cells #[.int .i64 0, .int .i64 0, .int .i64 0] 24) := ⟨_, rfl⟩
    rw [← hW]
    obtain ⟨g5, hg5⟩ : ∃ g, g = w2.heap.size := ⟨_, rfl⟩
    have b5 : Box W g5 24 #[.int .i64 0, .int .i64 0, .int .i64 0] := by rw [hW]; exact Box.made hg5
    have hBW : Below w.heap.size w W := by rw [hW]; exact hB2.alloc hB2.size _
    rw [← hg5]
    clear hW hg5 hB2
    go_wp2_with (go_at_call 8; refine (HSQ.out _).mono ?_; rintro e w' ⟨rfl, rfl⟩)
    refine (HCP.out _ (HI.out.below hBW)).mono ?_
    rintro e w3 ⟨v3, rfl, D, d, rfl, hd, hD, hb3⟩
    replace b5 := b5.below hb3
    have hB3 := hBW.trans (hb3.mono hBW.size)
    clear hb3 hBW
    go_wp2_with fail
    refine (HCC.out _ _ _ (hD.weak (Nat.zero_le _))).mono ?_
    rintro e w4 ⟨rfl, hb4⟩
    replace b5 := b5.below hb4
    have hB4 := hB3.trans (hb4.mono hB3.size)
    clear hb4 hB3 hD
    have x0 := b5.at_ 0
    have x1 := b5.at_ 1
    have x2 := b5.at_ 2
    simp only [List.getElem?_toArray] at x0 x1 x2
    have hl5 := b5.lt
    have EQ0 := fun W => equal3_same 0 0 0 W
    go_wp2_with (go_at_call 11; refine (HIE.out _).mono ?_; rintro e w' ⟨rfl, rfl⟩)
    go_ret
    exact ⟨rfl, hB4⟩
  obtain ⟨a0, a1⟩ := withinB_iff.1 hza
  obtain ⟨i, rfl⟩ : ∃ i : Nat, a = (i : Int) := ⟨a.toNat, by omega⟩
  have hi : i < 1008 := by omega
  have HSH := hide (fun W => Shifts_right i W hi)
  have HSQ := hide (fun W => SequenceOf_right i W hi)
  have HSR := hide (fun W => ShiftsR_any i W hi)
  have HQR := hide (fun W => SequenceOfR_any i W hi)
  have HTT := hide (show intsB 62 (seqF i) 62 (seqF i) = true from intsB_iff.2 ⟨rfl, fun _ _ => rfl⟩)
  have HIE := hide (fun W => identityErr_any (i : Int) W)
  rw [hza] at HIE
  replace HIE : Hid (∀ W, Calls Try.prog 11 #[.int .i64 (i : Int)] W fun e w' => e = .returned (.int .i64 0) ∧ W = w') := HIE
  have HE1 := hide (fun (h : n ≠ 62) => ccE_ten (F := F) hza h)
  have HE2 := hide (fun (h : n = 62) => (show ccE (i : Int) n F = valsE n F from by rw [h]; exact ccE_vals hza))
  have HV := hide (show ccV (i : Int) n F = if ccE (i : Int) n F = 0 then corS (seqF i) F 62 else 0 from rfl)
  have HVE := hide (fun W (h : IntsAt W 0 A n F) => valuesErr_any A n c F W h hn5)
  have HVV := hide (fun (h : n = 62) => (show vE n F = valsE n F from if_neg (by omega)))
  have HCR := hide (fun (h : n = 62) (hv : valsE n F = 0) W (k : IntsAt W 0 A n F) => CorrelationOfR_any i A n c F W hi h k fun j hj => valE_zero (badE_zero hv j hj))
  generalize 10 * (i % 3) = s0 at *
  generalize i / 3 % 31 = s1 at *
  generalize i / 3 / 31 = s2 at *
  generalize vE n F = ve at *
  generalize ccE (i : Int) n F = ce at *
  generalize ccV (i : Int) n F = cv at *
  clear hza a0 a1
  go_enter Try.func3, Try.ntmps3
  go_wp2_with fail
  refine (HAW.out _).mono ?_
  rintro e w1 ⟨rfl, hB1⟩
  go_wp2_with fail
  refine (HSH.out _).mono ?_
  rintro e w2 ⟨rfl, hb2⟩
  have hB2 := hB1.trans (hb2.mono hB1.size)
  clear hb2 hB1
  go_upto_region 6 with fail
  obtain ⟨W, hW⟩ : ∃ q : World, q = w2.alloc (.cells #[.int .i64 (s0 : Int), .int .i64 (s1 : Int), .int .i64 (s2 : Int)] 24) := ⟨_, rfl⟩
  rw [← hW]
  obtain ⟨g5, hg5⟩ : ∃ g, g = w2.heap.size := ⟨_, rfl⟩
  have b5 : Box W g5 24 #[.int .i64 (s0 : Int), .int .i64 (s1 : Int), .int .i64 (s2 : Int)] := by rw [hW]; exact Box.made hg5
  have hBW : Below w.heap.size w W := by rw [hW]; exact hB2.alloc hB2.size _
  rw [← hg5]
  clear hW hg5 hB2
  go_wp2_with fail
  refine (HSQ.out _).mono ?_
  rintro e wq ⟨L, lc, rfl, hlc, hL, hbq⟩
  replace b5 := b5.below hbq
  replace hL := hL.weak (Nat.zero_le _)
  have hBq := hBW.trans (hbq.mono hBW.size)
  clear hbq hBW
  go_wp2_with fail
  refine (HCP.out _ (HI.out.below hBq)).mono ?_
  rintro e w3 ⟨v3, rfl, D, d, rfl, hd, hD, hb3⟩
  replace b5 := b5.below hb3
  replace hL := hL.below hb3
  have hB3 := hBq.trans (hb3.mono hBq.size)
  clear hb3 hBq
  go_wp2_with fail
  refine (HCC.out _ _ _ (hD.weak (Nat.zero_le _))).mono ?_
  rintro e w4 ⟨rfl, hb4⟩
  replace b5 := b5.below hb4
  replace hL := hL.below hb4
  have hB4 := hB3.trans (hb4.mono hB3.size)
  clear hb4 hB3 hD
  go_wp2_with (go_at_call 11; refine (HIE.out _).mono ?_; rintro e w' ⟨rfl, rfl⟩)
  have EQ3 := fun W => equal3_same (s0 : Int) (s1 : Int) (s2 : Int) W
  refine wp_region_held_drew (S := fun w' => Below w4.heap.size w4 w') (by kernel_rfl) (Below.refl _ _).drew (fun hHeld => ?_)
  refine wpAnyH_take (i := 0) (oi := ⟨some 66, _, _, _, _, _⟩) (v := ?_) rfl (by kernel_rfl) (by kernel_rfl) (by kernel_rfl) (fun _ _ _ h => h) (Or.inl ⟨by rfl, ?_⟩) (by assumption) ?_
  rotate_left
  · (intro w' hSw; (try dsimp only at hSw); go_simp <;> (with_reducible rfl))
  try simp only [Act.put, List.setIfInBounds_toArray, List.set_cons_zero, List.set_cons_succ]
  refine wpAnyH_take (i := 1) (oi := ⟨some 67, _, _, _, _, _⟩) (v := ?_) rfl (by kernel_rfl) (by kernel_rfl) (by kernel_rfl) (fun _ _ _ h => h) (Or.inl ⟨by rfl, ?_⟩) (by assumption) ?_
  rotate_left
  · (intro w' hSw; (try dsimp only at hSw); go_simp <;> (with_reducible rfl))
  try simp only [Act.put, List.setIfInBounds_toArray, List.set_cons_zero, List.set_cons_succ]
  refine wpAnyH_take (i := 2) (oi := ⟨some 68, _, _, _, _, _⟩) (v := ?_) rfl (by kernel_rfl) (by kernel_rfl) (by kernel_rfl) (fun _ _ _ h => h) (Or.inl ⟨by rfl, ?_⟩) (by assumption) ?_
  rotate_left
  · (intro w' hSw; (try dsimp only at hSw); go_simp <;> (with_reducible rfl))
  try simp only [Act.put, List.setIfInBounds_toArray, List.set_cons_zero, List.set_cons_succ]
  refine wpAnyH_take (i := 3) (oi := ⟨some 69, _, _, _, _, _⟩) (v := .agg #[.int .i64 (s0 : Int), .int .i64 (s1 : Int), .int .i64 (s2 : Int)]) rfl (by kernel_rfl) (by kernel_rfl) (by kernel_rfl) (fun _ _ _ h => h) (Or.inl ⟨by rfl, fun w' hSw => exec_box3 rfl (b5.below hSw)⟩) (by assumption) ?_
  try simp only [Act.put, List.setIfInBounds_toArray, List.set_cons_zero, List.set_cons_succ]
  refine wpAnyH_take (i := 4) (oi := ⟨some 70, _, _, _, _, _⟩) (v := ?_) rfl (by kernel_rfl) (by kernel_rfl) (by kernel_rfl) (fun _ _ _ h => h) (Or.inl ⟨by rfl, ?_⟩) (by assumption) ?_
  rotate_left
  · (intro w' hSw; (try dsimp only at hSw); go_simp <;> (with_reducible rfl))
  try simp only [Act.put, List.setIfInBounds_toArray, List.set_cons_zero, List.set_cons_succ]
  refine wpAnyH_ready (rs := [5]) (by kernel_rfl) (by simp) ?_
  refine AllReadyH.cons (o := ⟨some 71, _, _, _, _, _⟩) rfl (fun K' hK => ?_) AllReadyH.nil
  go_simp
  go_at_call 12
  refine (HSR.out _).mono ?_
  rintro e v1 ⟨rfl, hb1⟩
  have hC1 : Below w4.heap.size w4 v1 := by first | exact hb1 | exact below_of_drew hb1
  go_wp2_with fail
  refine hK.out _ _ hC1 (fun hHeld => ?_)
  clear hK K'
  try simp only [Act.put, List.setIfInBounds_toArray, List.set_cons_zero, List.set_cons_succ]
  refine wpAnyH_take (i := 6) (oi := ⟨some 72, _, _, _, _, _⟩) (v := ?_) rfl (by kernel_rfl) (by kernel_rfl) (by kernel_rfl) (fun _ _ _ h => h) (Or.inl ⟨by rfl, ?_⟩) (by assumption) ?_
  rotate_left
  · (intro w' hSw; (try dsimp only at hSw); go_simp <;> (with_reducible rfl))
  try simp only [Act.put, List.setIfInBounds_toArray, List.set_cons_zero, List.set_cons_succ]
  refine wpAnyH_take (i := 7) (oi := ⟨some 73, _, _, _, _, _⟩) (v := ?_) rfl (by kernel_rfl) (by kernel_rfl) (by kernel_rfl) (fun _ _ _ h => h) (Or.inl ⟨by rfl, ?_⟩) (by assumption) ?_
  rotate_left
  · (intro w' hSw; (try dsimp only at hSw); go_simp <;> (with_reducible rfl))
  try simp only [Act.put, List.setIfInBounds_toArray, List.set_cons_zero, List.set_cons_succ]
  refine wpAnyH_take (i := 8) (oi := ⟨some 74, _, _, _, _, _⟩) (v := ?_) rfl (by kernel_rfl) (by kernel_rfl) (by kernel_rfl) (fun _ _ _ h => h) (Or.inl ⟨by rfl, ?_⟩) (by assumption) ?_
  rotate_left
  · (intro w' hSw; (try dsimp only at hSw); go_simp <;> (with_reducible rfl))
  try simp only [Act.put, List.setIfInBounds_toArray, List.set_cons_zero, List.set_cons_succ]
  refine wpAnyH_take (i := 9) (oi := ⟨some 75, _, _, _, _, _⟩) (v := ?_) rfl (by kernel_rfl) (by kernel_rfl) (by kernel_rfl) (fun _ _ _ h => h) (Or.inl ⟨by rfl, ?_⟩) (by assumption) ?_
  rotate_left
  · (intro w' hSw; (try dsimp only at hSw); go_simp <;> (with_reducible rfl))
  try simp only [Act.put, List.setIfInBounds_toArray, List.set_cons_zero, List.set_cons_succ]
  refine wpAnyH_take (i := 10) (oi := ⟨some 76, _, _, _, _, _⟩) (v := ?_) rfl (by kernel_rfl) (by kernel_rfl) (by kernel_rfl) (fun _ _ _ h => h) (Or.inl ⟨by rfl, ?_⟩) (by assumption) ?_
  rotate_left
  · (intro w' hSw; (try dsimp only at hSw); go_simp <;> (with_reducible rfl))
  try simp only [Act.put, List.setIfInBounds_toArray, List.set_cons_zero, List.set_cons_succ]
  refine wpAnyH_take (i := 11) (oi := ⟨some 77, _, _, _, _, _⟩) (v := ?_) rfl (by kernel_rfl) (by kernel_rfl) (by kernel_rfl) (fun _ _ _ h => h) (Or.inl ⟨by rfl, ?_⟩) (by assumption) ?_
  rotate_left
  · (intro w' hSw; (try dsimp only at hSw); go_simp <;> (with_reducible rfl))
  try simp only [Act.put, List.setIfInBounds_toArray, List.set_cons_zero, List.set_cons_succ]
  refine wpAnyH_take (i := 12) (oi := ⟨some 78, _, _, _, _, _⟩) (v := ?_) rfl (by kernel_rfl) (by kernel_rfl) (by kernel_rfl) (fun _ _ _ h => h) (Or.inl ⟨by rfl, ?_⟩) (by assumption) ?_
  rotate_left
  · (intro w' hSw; (try dsimp only at hSw); go_simp <;> (with_reducible rfl))
  try simp only [Act.put, List.setIfInBounds_toArray, List.set_cons_zero, List.set_cons_succ]
  refine wpAnyH_take (i := 13) (oi := ⟨some 79, _, _, _, _, _⟩) (v := ?_) rfl (by kernel_rfl) (by kernel_rfl) (by kernel_rfl) (fun _ _ _ h => h) (Or.inl ⟨by rfl, ?_⟩) (by assumption) ?_
  rotate_left
  · (intro w' hSw; (try dsimp only at hSw); go_simp <;> (with_reducible rfl))
  try simp only [Act.put, List.setIfInBounds_toArray, List.set_cons_zero, List.set_cons_succ]
  refine wpAnyH_take (i := 14) (oi := ⟨some 80, _, _, _, _, _⟩) (v := ?_) rfl (by kernel_rfl) (by kernel_rfl) (by kernel_rfl) (fun _ _ _ h => h) (Or.inl ⟨by rfl, ?_⟩) (by assumption) ?_
  rotate_left
  · (intro w' hSw; (try dsimp only at hSw); go_simp <;> (with_reducible rfl))
  try simp only [Act.put, List.setIfInBounds_toArray, List.set_cons_zero, List.set_cons_succ]
  refine wpAnyH_ready (rs := [15]) (by kernel_rfl) (by simp) ?_
  refine AllReadyH.cons (o := ⟨some 81, _, _, _, _, _⟩) rfl (fun K' hK => ?_) AllReadyH.nil
  go_simp
  go_at_call 14
  refine (HQR.out _).mono ?_
  rintro e v2 ⟨u, rfl, B, b, rfl, hb, hJ, hb2⟩
  have hC2 := hC1.trans (hb2.mono hC1.size)
  go_wp2_with fail
  refine hK.out _ _ hC2 (fun hHeld => ?_)
  clear hK K'
  try simp only [Act.put, List.setIfInBounds_toArray, List.set_cons_zero, List.set_cons_succ]
  refine wpAnyH_ready (rs := [16]) (by kernel_rfl) (by simp) ?_
  refine AllReadyH.cons (o := ⟨some 82, _, _, _, _, _⟩) rfl (fun K' hK => ?_) AllReadyH.nil
  go_simp
  go_at_call 13
  refine (ints_any L B 62 62 lc b (seqF i) (seqF i) _ (by decide) (by decide) (hL.below hC2) (hJ.weak (Nat.zero_le _))).mono ?_
  rintro e v3 ⟨rfl, q, rfl⟩
  rw [HTT.out]
  have hC3 : Below w4.heap.size w4 (v2.drewN q) := by exact ⟨hC2.os, hC2.tape, hC2.output, hC2.size, hC2.block⟩
  go_wp2_with fail
  refine hK.out _ _ hC3 (fun hHeld => ?_)
  clear hK K'
  try simp only [Act.put, List.setIfInBounds_toArray, List.set_cons_zero, List.set_cons_succ]
  refine wpAnyH_take (i := 17) (oi := ⟨some 83, _, _, _, _, _⟩) (v := ?_) rfl (by kernel_rfl) (by kernel_rfl) (by kernel_rfl) (fun _ _ _ h => h) (Or.inl ⟨by rfl, ?_⟩) (by assumption) ?_
  rotate_left
  · (intro w' hSw; (try dsimp only at hSw); go_simp <;> (with_reducible rfl))
  try simp only [Act.put, List.setIfInBounds_toArray, List.set_cons_zero, List.set_cons_succ]
  refine wpAnyH_take (i := 18) (oi := ⟨some 84, _, _, _, _, _⟩) (v := ?_) rfl (by kernel_rfl) (by kernel_rfl) (by kernel_rfl) (fun _ _ _ h => h) (Or.inl ⟨by rfl, ?_⟩) (by assumption) ?_
  rotate_left
  · (intro w' hSw; (try dsimp only at hSw); go_simp <;> (with_reducible rfl))
  try simp only [Act.put, List.setIfInBounds_toArray, List.set_cons_zero, List.set_cons_succ]
  refine wpAnyH_done (by kernel_rfl) ?_ _
  have hB5 := hB4.trans (hC3.mono hB4.size)
  clear hC1 hC2 hJ hb1 hb2 hB4
  by_cases h62 : n = 62
  · have hE := HE2.out h62
    have hVV := HVV.out h62
    have t62 : ((n : Int) != 62) = false := by simp; omega
    by_cases hv : valsE n F = 0
    · have hce : ce = 0 := hE.trans hv
      have hve : ve = 0 := hVV.trans hv
      have hcv : cv = corS (seqF i) F 62 := by rw [HV.out, hce]; rfl
      have HCQ := hide (fun W k => HCR.out h62 hv W k)
      rw [← hcv] at HCQ
      subst hce hve
      clear hE hVV hv hcv HV HVV HE1 HE2 HCR h62
      go_wp2_with (go_at_call 15; refine (HVE.out _ (HI.out.below hB5)).mono ?_; rintro e w' ⟨rfl, rfl⟩)
      refine (HCQ.out _ (HI.out.below hB5)).mono ?_
      rintro e w6 ⟨rfl, hb6⟩
      go_wp2_with fail
      go_ret
      exact ⟨rfl, hB5.trans (hb6.mono hB5.size)⟩
    · have hce : ce = ve := hE.trans hVV.symm
      have hne : ve ≠ 0 := by rw [hVV]; exact hv
      have hcv : cv = 0 := by rw [HV.out, hce, if_neg hne]
      have t1 : (ve != 0) = true := by simpa using hne
      subst hce hcv
      clear hE hVV hv HV HVV HE1 HE2 HCR h62 hne
      go_wp2_with (go_at_call 15; refine (HVE.out _ (HI.out.below hB5)).mono ?_; rintro e w' ⟨rfl, rfl⟩)
      go_ret
      exact ⟨rfl, hB5⟩
  · have hce := HE1.out h62
    have hcv : cv = 0 := by rw [HV.out, hce]; rfl
    have t62 : ((n : Int) != 62) = true := by simp; omega
    subst hce hcv
    clear HV HVV HE1 HE2 HCR h62
    go_wp2_with fail
    go_ret
    exact ⟨rfl, hB5⟩
end Go.Proofs.Ytmncomcdddnnhaa
