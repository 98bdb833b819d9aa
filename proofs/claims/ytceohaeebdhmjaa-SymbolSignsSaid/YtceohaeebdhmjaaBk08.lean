/- Lemmas: S26, S32, F1. -/
import Derived.Shelf.Abstract
import Derived.Test.YtceohaeebdhmjaaRows
import Derived.Laws.ComplexArith
import Derived.Laws.Cover2
import Derived.Test.YtceohaeebdhmjaaBk06
import Derived.Test.YtceohaeebdhmjaaBk07
set_option linter.unusedVariables false
set_option linter.unusedSimpArgs false
/- Gausses of base and SameAll of the reference: are two lists (of lists) alike? -/
namespace Go.Proofs.Ytceohaeebdhmjaa
open Go.RowKit Go.Shelf
def Gau.eqB (x y : Gau) : Bool := x.re == y.re && x.im == y.im
theorem Gau.eqB_iff {x y : Gau} : x.eqB y = true ↔ x = y := by
  unfold Gau.eqB
  constructor
  · intro h
    simp at h
    exact Gau.same h.1 h.2
  · rintro rfl
    simp
def gausB (n : Nat) (F : Nat → Gau) (m : Nat) (G : Nat → Gau) : Bool := n == m && (List.range n).all fun k => (F k).eqB (G k)
theorem gausB_iff {n m : Nat} {F G : Nat → Gau} : gausB n F m G = true ↔ n = m ∧ ∀ k, k < n → F k = G k := by simp [gausB, Gau.eqB_iff]
theorem quietG {P : Program} {f : FuncId} {args : Array Value} {w : World} {a n : Nat} {v : Value}
    (h : Calls P f args (w.drewN (a + n)) fun e w' => e = .returned v ∧ ∃ q, w' = (w.drewN (a + n)).drewN q) :
    Calls P f args (w.drewN (a + n)) fun e w'' => e = .returned v ∧ ∃ m, w'' = w.drewN (a + m) :=
  h.mono fun _ _ ⟨he, q, hq⟩ => ⟨he, n + q, by rw [hq, World.drewN_drewN, Nat.add_assoc]⟩
set_option maxHeartbeats 2000000 in
set_option maxRecDepth 100000 in
theorem gausses_any (A C : Option Addr) (n m c d : Nat) (F G : Nat → Gau) (w : World) (hn : n ≤ 100000) (hm : m ≤ 100000) (hF : GausAt w 0 A n F) (hG : GausAt w 0 C m G) :
    Calls Try.prog 15 #[.slice A n c, .slice C m d] w fun e w' => e = .returned (.bool (gausB n F m G)) ∧ ∃ q, w' = w.drewN q := by
  by_cases hnm : n = m
  · subst hnm
    have HF := hide hF
    have HG := hide hG
    have t1 : ((n : Int) != (n : Int)) = false := by simp
    clear hF hG
    go_enter Try.func15, Try.ntmps15
    go_wp2_with fail
    go_loopw [5] (fun i wr => ∃ k q : Nat, k ≤ n ∧ i = .int .i64 k ∧ wr = w.drewN q ∧ Hid (∀ j, j < k → F j = G j)) (fun i _ => n - (Go.RowKit.intOf i).toNat)
    case atStart => exact ⟨0, 0, Nat.zero_le _, rfl, rfl, hide fun j h => absurd h (Nat.not_lt_zero _)⟩
    case round =>
      obtain ⟨k, q, hk, rfl, rfl, HZ⟩ := hrel
      by_cases hlt : k < n
      · obtain ⟨b, o, rfl, -, hb, c0, c1⟩ := HF.out k hlt
        obtain ⟨b', o', rfl, -, hb', d0, d1⟩ := HG.out k hlt
        have hltz : (k : Int) < (n : Int) := by omega
        by_cases he : F k = G k
        · have HE := hide he
          rw [he] at c0 c1
          clear he
          obtain ⟨y0, hy0⟩ : ∃ z, (G k).re = z := ⟨_, rfl⟩
          obtain ⟨y1, hy1⟩ : ∃ z, (G k).im = z := ⟨_, rfl⟩
          rw [hy0] at c0 d0
          rw [hy1] at c1 d1
          clear hy0 hy1
          go_wp2_with fail
          go_quiet (fail)
          go_wp2_with fail
          go_roundw
          case rel =>
            exact ⟨k + 1, _, by omega, by go_num, rfl, hide fun j hj => by
              rcases Nat.lt_or_ge j k with h | h
              · exact HZ.out j h
              · obtain rfl : j = k := by omega
                exact HE.out⟩
          case measure => simp [Go.RowKit.intOf]; omega
        · have HE := hide (show gausB n F n G = false from by
            rw [← Bool.not_eq_true, gausB_iff]
            exact fun h => he (h.2 k hlt))
          by_cases hre : (F k).re = (G k).re
          · have him : ¬ (F k).im = (G k).im := fun h => he (Gau.same hre h)
            rw [hre] at c0
            clear he HZ
            obtain ⟨y0, hy0⟩ : ∃ z, (G k).re = z := ⟨_, rfl⟩
            obtain ⟨y1, hy1⟩ : ∃ z, (G k).im = z := ⟨_, rfl⟩
            obtain ⟨x1, hx1⟩ : ∃ z, (F k).im = z := ⟨_, rfl⟩
            rw [hy0] at c0 d0
            rw [hy1] at d1 him
            rw [hx1] at c1 him
            clear hre hy0 hy1 hx1
            go_wp2_with fail
            go_quiet (fail)
            go_wp2_with fail
            go_ret
            exact ⟨ret_bool HE.out.symm, _, World.drewN_drewN _ _ _⟩
          · clear he HZ
            obtain ⟨y0, hy0⟩ : ∃ z, (G k).re = z := ⟨_, rfl⟩
            obtain ⟨y1, hy1⟩ : ∃ z, (G k).im = z := ⟨_, rfl⟩
            obtain ⟨x0, hx0⟩ : ∃ z, (F k).re = z := ⟨_, rfl⟩
            obtain ⟨x1, hx1⟩ : ∃ z, (F k).im = z := ⟨_, rfl⟩
            rw [hy0] at d0 hre
            rw [hy1] at d1
            rw [hx0] at c0 hre
            rw [hx1] at c1
            clear hy0 hy1 hx0 hx1
            go_wp2_with fail
            go_quiet (fail)
            go_wp2_with fail
            go_ret
            exact ⟨ret_bool HE.out.symm, _, World.drewN_drewN _ _ _⟩
      · obtain rfl : k = n := by omega
        go_wp2_with fail
        go_ret
        exact ⟨ret_bool (Eq.symm (gausB_iff.2 ⟨rfl, HZ.out⟩)), _, rfl⟩
  · have he' : ((n : Int) != (m : Int)) = true := by simp; omega
    have HE := hide (show gausB n F m G = false from by
      rw [← Bool.not_eq_true, gausB_iff]
      exact fun h => hnm h.1)
    clear hnm hF hG
    go_enter Try.func15, Try.ntmps15
    go_wp2_with fail
    go_ret
    exact ⟨ret_bool HE.out.symm, 0, rfl⟩
def matsB (n : Nat) (L : Nat → Nat) (F : Nat → Nat → Gau) (m : Nat) (M : Nat → Nat) (G : Nat → Nat → Gau) : Bool := n == m && (List.range n).all fun i => gausB (L i) (F i) (M i) (G i)
theorem matsB_iff {n m : Nat} {L M : Nat → Nat} {F G : Nat → Nat → Gau} : matsB n L F m M G = true ↔ n = m ∧ ∀ i, i < n → L i = M i ∧ ∀ k, k < L i → F i k = G i k := by simp [matsB, gausB_iff]
set_option maxHeartbeats 2000000 in
set_option maxRecDepth 100000 in
theorem sameAll_any (A C : Option Addr) (n m c d : Nat) (L M : Nat → Nat) (F G : Nat → Nat → Gau) (w : World) (hn : n ≤ 100000) (hm : m ≤ 100000) (hL : ∀ i, i < n → L i ≤ 100000) (hM : ∀ i, i < m → M i ≤ 100000) (hF : MatsAt w 0 A n L F) (hG : MatsAt w 0 C m M G) :
    Calls Try.prog 20 #[.slice A n c, .slice C m d] w fun e w' => e = .returned (.bool (matsB n L F m M G)) ∧ ∃ q, w' = w.drewN q := by
  by_cases hnm : n = m
  · subst hnm
    have HF := hide hF
    have HG := hide hG
    have HL := hide hL
    have HM := hide hM
    have t1 : ((n : Int) != (n : Int)) = false := by simp
    clear hF hG hL hM
    go_enter Try.func20, Try.ntmps20
    go_wp2_with fail
    go_loopw [5] (fun i wr => ∃ k q : Nat, k ≤ n ∧ i = .int .i64 k ∧ wr = w.drewN q ∧ Hid (∀ j, j < k → gausB (L j) (F j) (M j) (G j) = true)) (fun i _ => n - (Go.RowKit.intOf i).toNat)
    case atStart => exact ⟨0, 0, Nat.zero_le _, rfl, rfl, hide fun j h => absurd h (Nat.not_lt_zero _)⟩
    case round =>
      obtain ⟨k, q, hk, rfl, rfl, HZ⟩ := hrel
      by_cases hlt : k < n
      · have hltz : (k : Int) < (n : Int) := by omega
        obtain ⟨b, o, Ai, ci, rfl, -, hb, hcell, -, -, hIk⟩ := HF.out k hlt
        obtain ⟨b2, o2, Ci, di, rfl, -, hb2, hcell2, -, -, hJk⟩ := HG.out k hlt
        have hl9 := HL.out k hlt
        have hm9 := HM.out k hlt
        have HQ := hide (fun W hW1 hW2 => (gausses_any Ai Ci (L k) (M k) ci di (F k) (G k) W hl9 hm9 hW1 hW2))
        have HIk := hide hIk
        have HJk := hide hJk
        clear hIk hJk hl9 hm9
        by_cases he : gausB (L k) (F k) (M k) (G k) = true
        · rw [he] at HQ
          have HE := hide he
          clear he
          go_wp2_with fail
          go_quiet ((go_at_call 15; exact quietG (HQ.out _ HIk.out HJk.out)))
          go_wp2_with fail
          go_roundw
          case rel =>
            exact ⟨k + 1, _, by omega, by go_num, by first | rfl | exact World.drewN_drewN _ _ _, hide fun j hj => by
              rcases Nat.lt_or_ge j k with h | h
              · exact HZ.out j h
              · obtain rfl : j = k := by omega
                exact HE.out⟩
          case measure => simp [Go.RowKit.intOf]; omega
        · have HE := hide (show matsB n L F n M G = false from by
            rw [← Bool.not_eq_true]
            unfold matsB
            intro h
            simp at h
            exact he (h k hlt))
          rw [Bool.not_eq_true] at he
          rw [he] at HQ
          clear he HZ
          go_wp2_with fail
          go_quiet ((go_at_call 15; exact quietG (HQ.out _ HIk.out HJk.out)))
          go_wp2_with fail
          go_ret
          exact ⟨ret_bool HE.out.symm, _, by first | rfl | exact World.drewN_drewN _ _ _⟩
      · obtain rfl : k = n := by omega
        have HE := hide (show matsB k L F k M G = true from by
          unfold matsB
          simp
          exact HZ.out)
        go_wp2_with fail
        go_ret
        exact ⟨ret_bool HE.out.symm, _, rfl⟩
  · have he' : ((n : Int) != (m : Int)) = true := by simp; omega
    have HE := hide (show matsB n L F m M G = false from by
      rw [← Bool.not_eq_true, matsB_iff]
      exact fun h => hnm h.1)
    clear hnm hF hG hL hM
    go_enter Try.func20, Try.ntmps20
    go_wp2_with fail
    go_ret
    exact ⟨ret_bool HE.out.symm, 0, rfl⟩
end Go.Proofs.Ytceohaeebdhmjaa
/- areWithin, symbolsError, receivedError of the code. -/
namespace Go.Proofs.Ytceohaeebdhmjaa
open Go.RowKit
set_option maxHeartbeats 2000000 in
theorem indexGaus_any (g : Nat) (lb : Array Value) (eg : ∀ args w, (callFunc g args).run Try.prog w = .ok (.enter g args) w) (p : Gau → Bool) (A : Option Addr) (n c : Nat) (F : Nat → Gau) (w : World)
    (hn : n ≤ 100000) (hI : GausAt w 0 A n F) (hp : ∀ x W, Below w.heap.size w W → Calls Try.prog g (#[.agg #[.int .i64 x.re, .int .i64 x.im]] ++ lb) W fun e w' => e = .returned (.bool (p x)) ∧ Below W.heap.size W w') :
    Calls Try.prog 112 #[.slice A n c, .func (.func g) #[] lb] w fun e w' => ∃ r : Int, e = .returned (.int .i64 r) ∧ (0 ≤ r ↔ ∃ j, j < n ∧ p (F j) = true) ∧ Below w.heap.size w w' := by
  have HP := hide hp
  have HI := hide hI
  clear hp hI
  go_enter Try.func112, Try.ntmps112
  go_wp2
  go_loopg [8] n (fun gg s8 wr => ∃ k : Nat, k ≤ n ∧ n - k ≤ gg ∧ s8 = .int .i64 k ∧ Hid (Below w.heap.size w wr) ∧ Hid (∀ j, j < k → p (F j) = false))
  case atStart => exact ⟨0, Nat.zero_le _, by omega, rfl, hide (Below.refl _ _), hide fun j h => absurd h (Nat.not_lt_zero _)⟩
  case round =>
    obtain ⟨k, hk, hg, rfl, HB, HZ⟩ := hrel
    obtain ⟨wA, rfl⟩ : ∃ x : World, x = wr := ⟨_, rfl⟩
    by_cases hlt : k < n
    · have hltz : (k : Int) < (n : Int) := by omega
      obtain ⟨b, o, rfl, -, hb, c0, c1⟩ := (HI.out.below HB.out) k hlt
      have hcall := HP.out (F k) wA HB.out
      have HF := hide (rfl : F k = F k)
      generalize hx : F k = x at c0 c1 hcall
      have HX := hide hx
      clear hx HF
      cases hq : p x with
      | true =>
        rw [hq] at hcall
        go_wp2_with (go_at_fn g; refine hcall.mono ?_; rintro e w' ⟨rfl, hb'⟩)
        go_ret
        exact ⟨(k : Int), rfl, ⟨fun _ => ⟨k, hlt, by rw [HX.out]; exact hq⟩, fun _ => by omega⟩, HB.out.trans (hb'.mono HB.out.size)⟩
      | false =>
        rw [hq] at hcall
        go_wp2_with (go_at_fn g; refine hcall.mono ?_; rintro e w' ⟨rfl, hb'⟩)
        go_roundg (n - (k + 1))
        case measure => omega
        case rel =>
          refine ⟨k + 1, by omega, by omega, by go_num, hide (HB.out.trans (hb'.mono HB.out.size)), hide fun j hj => ?_⟩
          rcases Nat.lt_or_ge j k with h | h
          · exact HZ.out j h
          · obtain rfl : j = k := by omega
            rw [HX.out]; exact hq
    · have hltz : ¬ (k : Int) < (n : Int) := by omega
      obtain rfl : k = n := by omega
      go_wp2
      go_ret
      exact ⟨-1, rfl, ⟨fun h => absurd h (by decide), fun ⟨j, hj, ht⟩ => by rw [HZ.out j hj] at ht; cases ht⟩, HB.out⟩

set_option maxHeartbeats 1000000 in
theorem containsGaus_any (g : Nat) (lb : Array Value) (eg : ∀ args w, (callFunc g args).run Try.prog w = .ok (.enter g args) w) (p : Gau → Bool) (A : Option Addr) (n c : Nat) (F : Nat → Gau) (w : World)
    (hn : n ≤ 100000) (hI : GausAt w 0 A n F) (hp : ∀ x W, Below w.heap.size w W → Calls Try.prog g (#[.agg #[.int .i64 x.re, .int .i64 x.im]] ++ lb) W fun e w' => e = .returned (.bool (p x)) ∧ Below W.heap.size W w') :
    Calls Try.prog 92 #[.slice A n c, .func (.func g) #[] lb] w fun e w' => e = .returned (.bool (anyN n fun j => p (F j))) ∧ Below w.heap.size w w' := by
  have HX := hide (indexGaus_any g lb eg p A n c F w hn hI hp)
  clear hp hI
  go_enter Try.func92, Try.ntmps92
  go_wp2_with (go_at_call 112; refine HX.out.mono ?_; rintro e w' ⟨r, rfl, hr, hb'⟩)
  go_ret
  refine ⟨ret_bool ?_, hb'⟩
  rw [Bool.eq_iff_iff, anyN_iff]
  exact decide_eq_true_iff


set_option maxHeartbeats 4000000 in
theorem areWithin1_any (x : Gau) (M : Int) (b : Nat) (w : World) (hM : 0 ≤ M ∧ M ≤ 9000000000000000000) (hb : Box w b 3 #[.int .i64 M]) :
    Calls Try.prog 93 #[.agg #[.int .i64 x.re, .int .i64 x.im], .pointer (some ⟨b, 0, none⟩)] w fun e w' => e = .returned (.bool (!x.isIn M)) ∧ Below w.heap.size w w' := by
  have q1 : IntKind.i64.wrap (-M) = -M := IntWalk.i64_in _ (by omega)
  have HI := hide (show x.isIn M = (withinB x.re (-M) M && withinB x.im (-M) M) from rfl)
  obtain ⟨u, hu⟩ : ∃ z, x.re = z := ⟨_, rfl⟩
  obtain ⟨v, hv⟩ : ∃ z, x.im = z := ⟨_, rfl⟩
  rw [hu, hv] at HI
  rw [hu, hv]
  clear hu hv hM
  have HBX := hide hb
  clear hb
  cases hA : withinB u (-M) M with
  | false =>
    have HN := hide (show (true : Bool) = !x.isIn M by rw [HI.out, hA]; rfl)
    have HA := hide hA
    clear hA
    go_enter Try.func93, Try.ntmps93
    go_upto_region 1 with fail
    obtain ⟨w1, hw1⟩ : ∃ q : World, q = w.alloc (.cells #[.int .i64 u, .int .i64 v] 43) := ⟨_, rfl⟩
    try rw [← hw1]
    have HX := hide (show Box w1 w.heap.size 43 #[.int .i64 u, .int .i64 v] by rw [hw1]; exact Box.made rfl)
    have HB := hide (show Below w.heap.size w w1 by rw [hw1]; (repeat (first | (with_reducible exact Below.refl _ _) | (with_reducible refine Go.below_drewN ?_ _) | (with_reducible refine Below.drew ?_) | (with_reducible refine Below.alloc ?_ (by first | exact Nat.le_refl _ | (simp; done) | (simp; omega) | omega) _) | (with_reducible refine Below.setCell ?_ (by first | exact Nat.le_refl _ | (simp; done) | (simp; omega) | omega) _))))
    clear hw1
    have y0 := (HBX.out.below HB.out).at_ 0
    simp only [List.getElem?_toArray] at y0
    obtain ⟨c0, c1, k0, k1, hlz⟩ := HX.out.t2
    go_wp2_with (go_at_call 58; refine (isWithin_any _ _ _ _).mono ?_; rintro e_ v_ ⟨rfl, rfl⟩; rw [HA.out])
    go_ret
    exact ⟨ret_bool HN.out, HB.out⟩
  | true =>
    have HN := hide (show (!withinB v (-M) M) = !x.isIn M by rw [HI.out, hA]; rfl)
    obtain ⟨r, hr⟩ : ∃ z, withinB v (-M) M = z := ⟨_, rfl⟩
    rw [hr] at HN
    have HR := hide hr
    have HA := hide hA
    clear hA hr
    go_enter Try.func93, Try.ntmps93
    go_upto_region 1 with fail
    obtain ⟨w1, hw1⟩ : ∃ q : World, q = w.alloc (.cells #[.int .i64 u, .int .i64 v] 43) := ⟨_, rfl⟩
    try rw [← hw1]
    have HX := hide (show Box w1 w.heap.size 43 #[.int .i64 u, .int .i64 v] by rw [hw1]; exact Box.made rfl)
    have HB := hide (show Below w.heap.size w w1 by rw [hw1]; (repeat (first | (with_reducible exact Below.refl _ _) | (with_reducible refine Go.below_drewN ?_ _) | (with_reducible refine Below.drew ?_) | (with_reducible refine Below.alloc ?_ (by first | exact Nat.le_refl _ | (simp; done) | (simp; omega) | omega) _) | (with_reducible refine Below.setCell ?_ (by first | exact Nat.le_refl _ | (simp; done) | (simp; omega) | omega) _))))
    clear hw1
    have y0 := (HBX.out.below HB.out).at_ 0
    simp only [List.getElem?_toArray] at y0
    obtain ⟨c0, c1, k0, k1, hlz⟩ := HX.out.t2
    go_wp2_with (go_at_call 58; refine (isWithin_any _ _ _ _).mono ?_; rintro e_ v_ ⟨rfl, rfl⟩; first | rw [HA.out] | rw [HR.out])
    go_ret
    exact ⟨ret_bool HN.out, HB.out⟩
def insideB (M : Int) (n : Nat) (F : Nat → Gau) : Bool := !anyN n fun j => !(F j).isIn M
theorem insideB_iff {M : Int} {n : Nat} {F : Nat → Gau} : insideB M n F = true ↔ ∀ j, j < n → (F j).Within M := by
  unfold insideB
  rw [Bool.not_eq_true', ← Bool.not_eq_true, anyN_iff]
  constructor
  · intro h j hj
    by_cases hb : (F j).isIn M = true
    · exact Gau.isIn_iff.1 hb
    · exact absurd ⟨j, hj, by simp [hb]⟩ h
  · rintro h ⟨j, hj, hb⟩
    have := Gau.isIn_iff.2 (h j hj)
    rw [this] at hb
    cases hb
set_option maxHeartbeats 1000000 in
theorem areWithin_any (A : Option Addr) (n c : Nat) (F : Nat → Gau) (M : Int) (w : World) (hM : 0 ≤ M ∧ M ≤ 9000000000000000000) (hn : n ≤ 100000) (hI : GausAt w 0 A n F) :
    Calls Try.prog 59 #[.slice A n c, .int .i64 M] w fun e w' => e = .returned (.bool (insideB M n F)) ∧ Below w.heap.size w w' := by
  have HX := hide (containsGaus_any 93 #[.pointer (some ⟨w.heap.size, 0, none⟩)] (enters_of Try.func93 (by kernel_rfl) rfl) (fun x => !x.isIn M) A n c F (w.alloc (.cells #[.int .i64 M] 3)) hn (hI.alloc _) (fun x W hW => areWithin1_any x M w.heap.size W hM ((Box.made rfl).below hW)))
  clear hI
  go_enter Try.func59, Try.ntmps59
  go_wp2_with (go_at_call 92; refine HX.out.mono ?_; rintro e w' ⟨rfl, hb'⟩)
  go_ret
  exact ⟨rfl, ((Below.refl _ _).alloc (Nat.le_refl _) _).trans (hb'.mono (by simp))⟩
/-- The error of n symbols. -/
def symsE (n : Nat) (F : Nat → Gau) : Int := if n = 0 then 10 else if 200 < n then 8 else unI (insideB 100000000 n F) 2
theorem symsE_zero {n : Nat} {F : Nat → Gau} (h : symsE n F = 0) : 0 < n ∧ n ≤ 200 ∧ ∀ j, j < n → (F j).Within 100000000 := by
  unfold symsE at h
  by_cases h0 : n = 0
  · rw [if_pos h0] at h; exact absurd h (by decide)
  · rw [if_neg h0] at h
    by_cases h1 : 200 < n
    · rw [if_pos h1] at h; exact absurd h (by decide)
    · rw [if_neg h1] at h
      refine ⟨by omega, by omega, insideB_iff.1 ?_⟩
      unfold unI at h
      by_cases hb : insideB 100000000 n F = true
      · exact hb
      · rw [if_neg hb] at h; exact absurd h (by decide)
theorem symsE_ok {n : Nat} {F : Nat → Gau} (h0 : 0 < n) (h1 : n ≤ 200) (h : ∀ j, j < n → (F j).Within 100000000) : symsE n F = 0 := by
  unfold symsE unI
  rw [if_neg (by omega), if_neg (by omega), if_pos (insideB_iff.2 h)]
set_option maxHeartbeats 1000000 in
theorem symbolsError_any (A : Option Addr) (n c : Nat) (F : Nat → Gau) (w : World) (hn : n ≤ 100000) (hI : GausAt w 0 A n F) :
    Calls Try.prog 76 #[.slice A n c] w fun e w' => e = .returned (.int .i64 (symsE n F)) ∧ Below w.heap.size w w' := by
  by_cases h0 : n = 0
  · have HE := hide (show symsE n F = 10 by unfold symsE; rw [if_pos h0])
    have t0 : ((n : Int) == 0) = true := by simp; omega
    clear hI
    go_enter Try.func76, Try.ntmps76
    go_wp2_with fail
    go_ret
    exact ⟨ret_int HE.out.symm, Below.refl _ _⟩
  · have t0 : ((n : Int) == 0) = false := by simp; omega
    by_cases h1 : 200 < n
    · have HE := hide (show symsE n F = 8 by unfold symsE; rw [if_neg h0, if_pos h1])
      have t1 : (200 : Int) < (n : Int) := by omega
      clear hI
      go_enter Try.func76, Try.ntmps76
      go_wp2_with fail
      go_ret
      exact ⟨ret_int HE.out.symm, Below.refl _ _⟩
    · have HE := hide (show symsE n F = unI (insideB 100000000 n F) 2 by unfold symsE; rw [if_neg h0, if_neg h1])
      have t1 : ¬ (200 : Int) < (n : Int) := by omega
      have HA := hide (areWithin_any A n c F 100000000 w (by decide) hn hI)
      clear hI
      cases hb : insideB 100000000 n F with
      | true =>
        rw [hb] at HA HE
        clear hb
        go_enter Try.func76, Try.ntmps76
        go_wp2_with (go_at_call 59; refine HA.out.mono ?_; rintro e w' ⟨rfl, hb'⟩)
        go_ret
        exact ⟨ret_int HE.out.symm, hb'⟩
      | false =>
        rw [hb] at HA HE
        clear hb
        go_enter Try.func76, Try.ntmps76
        go_wp2_with (go_at_call 59; refine HA.out.mono ?_; rintro e w' ⟨rfl, hb'⟩)
        go_ret
        exact ⟨ret_int HE.out.symm, hb'⟩
/-- The error of what is received. -/
def recvE (k g : Int) (n : Nat) (F : Nat → Gau) : Int := if ordE k = 0 then if withinB g 1 10000000 = true then symsE n F else 2 else ordE k
theorem rec_cells {w : World} {b : Nat} {t : TypeId} {x y z : Value} (h : Box w b t #[x, y, z]) : w.cell? ⟨b, 0, none⟩ = some x ∧ w.cell? ⟨b, 1, none⟩ = some y ∧ w.cell? ⟨b, 2, none⟩ = some z ∧ b < w.heap.size := ⟨h.at_ 0, h.at_ 1, h.at_ 2, h.lt⟩
set_option maxHeartbeats 2000000 in
theorem receivedError_any (k g : Int) (A : Option Addr) (n c : Nat) (F : Nat → Gau) (w : World) (hn : n ≤ 100000) (hI : GausAt w 0 A n F) :
    Calls Try.prog 75 #[.agg #[.int .i64 k, .int .i64 g, .slice A n c]] w fun e w' => e = .returned (.int .i64 (recvE k g n F)) ∧ Below w.heap.size w w' := by
  obtain ⟨E, hE⟩ : ∃ z, recvE k g n F = z := ⟨_, rfl⟩
  rw [hE]
  unfold recvE at hE
  have HI := hide hI
  have HO := hide (fun W => orderError_any k W)
  obtain ⟨o, ho⟩ : ∃ z, ordE k = z := ⟨_, rfl⟩
  rw [ho] at hE HO
  have HWI := hide (fun W => isWithin_any g 1 10000000 W)
  clear hI ho
  go_enter Try.func75, Try.ntmps75
  go_upto_region 1 with fail
  obtain ⟨w1, hw1⟩ : ∃ q : World, q = w.alloc (.cells #[.int .i64 k, .int .i64 g, .slice A n c] 58) := ⟨_, rfl⟩
  try rw [← hw1]
  have HX := hide (show Box w1 w.heap.size 58 #[.int .i64 k, .int .i64 g, .slice A n c] by rw [hw1]; exact Box.made rfl)
  have HB := hide (show Below w.heap.size w w1 by rw [hw1]; (repeat (first | (with_reducible exact Below.refl _ _) | (with_reducible refine Go.below_drewN ?_ _) | (with_reducible refine Below.drew ?_) | (with_reducible refine Below.alloc ?_ (by first | exact Nat.le_refl _ | (simp; done) | (simp; omega) | omega) _) | (with_reducible refine Below.setCell ?_ (by first | exact Nat.le_refl _ | (simp; done) | (simp; omega) | omega) _))))
  clear hw1
  have HS := hide (symbolsError_any A n c F w1 hn (HI.out.below HB.out))
  obtain ⟨c0, c1, c2, hlz⟩ := rec_cells HX.out
  by_cases h0 : o = 0
  · subst h0
    rw [if_pos rfl] at hE
    cases hb : withinB g 1 10000000 with
    | true =>
      rw [hb] at hE HWI
      rw [if_pos rfl] at hE
      rw [hE] at HS
      clear hE hb
      go_wp2_with (first | (go_at_call 83; refine (HO.out _).mono ?_; rintro e_ v_ ⟨rfl, rfl⟩) | (go_at_call 58; refine (HWI.out _).mono ?_; rintro e_ v_ ⟨rfl, rfl⟩) | (go_at_call 76; refine HS.out.mono ?_; rintro e_ w_ ⟨rfl, hb_⟩))
      go_ret
      exact ⟨rfl, HB.out.trans (hb_.mono HB.out.size)⟩
    | false =>
      rw [hb] at hE HWI
      rw [if_neg (by decide)] at hE
      subst hE
      clear hb
      go_wp2_with (first | (go_at_call 83; refine (HO.out _).mono ?_; rintro e_ v_ ⟨rfl, rfl⟩) | (go_at_call 58; refine (HWI.out _).mono ?_; rintro e_ v_ ⟨rfl, rfl⟩))
      go_ret
      exact ⟨rfl, HB.out⟩
  · rw [if_neg h0] at hE
    subst hE
    have t0 : (o != 0) = true := by simpa using h0
    go_wp2_with (go_at_call 83; refine (HO.out _).mono ?_; rintro e_ v_ ⟨rfl, rfl⟩)
    go_ret
    exact ⟨rfl, HB.out⟩
end Go.Proofs.Ytceohaeebdhmjaa
/- Floats whose values are whole numbers: sums, differences and products of them are exact, as long as they are below 2^53; the same for complex numbers. -/
namespace Go.Proofs.Ytceohaeebdhmjaa
open Ieee
/-- A datum that is a whole number. -/
def WholeD (d : Datum) (n : Int) : Prop := ∃ (s : Bool) (k : Nat), d = .number s (n.natAbs * 2 ^ k) (-(k : Int)) ∧ (n ≠ 0 → s = decide (n < 0))
/-- The bits of a whole number (a zero of either sign). -/
def Whole (b : Nat) (n : Int) : Prop := WholeD (double.read b) n
theorem dbl_binade : double.binade = 4503599627370496 := by decide
theorem dbl_sign : double.signWeight = 9223372036854775808 := by decide
theorem dbl_inf : double.infRung = 9218868437227405312 := by decide
theorem dbl_least : double.leastPlace = -1074 := by decide
theorem dbl_frac : double.fractionBits = 52 := rfl
theorem log2_mul_pow {a : Nat} (h : 0 < a) (k : Nat) : (a * 2 ^ k).log2 = a.log2 + k := by
  have h0 : a ≠ 0 := by omega
  have hp : 0 < 2 ^ k := Nat.two_pow_pos k
  have hm : a * 2 ^ k ≠ 0 := Nat.mul_ne_zero h0 (by omega)
  have h1 := Nat.log2_self_le h0
  have h2 : a < 2 ^ (a.log2 + 1) := Nat.lt_log2_self
  apply Nat.le_antisymm
  · have : (a * 2 ^ k).log2 < a.log2 + k + 1 := (Nat.log2_lt hm).2 (by
      rw [show a.log2 + k + 1 = (a.log2 + 1) + k by omega, Nat.pow_add]
      exact Nat.mul_lt_mul_of_pos_right h2 hp)
    omega
  · exact (Nat.le_log2 hm).2 (by rw [Nat.pow_add]; exact Nat.mul_le_mul_right _ h1)
theorem cut_keep (s : Bool) (M : Nat) : Toward.even.cut s M 0 = M := by
  simp [Toward.cut, Nat.mod_one]
theorem cut_drop (s : Bool) {a d e : Nat} (h : 0 < a) : Toward.even.cut s (a * 2 ^ (e + d)) d = a * 2 ^ e := by
  have hl := log2_mul_pow h (e + d)
  have hg : (1 <<< min d ((a * 2 ^ (e + d)).log2 + 2)) = 2 ^ d := by
    rw [hl, Nat.min_eq_left (by omega), Nat.one_shiftLeft]
  have hp : 0 < 2 ^ d := Nat.two_pow_pos d
  have e1 : a * 2 ^ (e + d) = a * 2 ^ e * 2 ^ d := by rw [Nat.pow_add, Nat.mul_assoc]
  unfold Toward.cut
  simp only [hg]
  rw [e1, Nat.mul_div_cancel _ hp, Nat.mul_mod_left]
  have h2 : (2 ^ d == 2 * 0) = false := by simp
  simp [h2]
theorem nearest_whole (s : Bool) {a : Nat} (k : Nat) (h : 0 < a) (ha : a < 2 ^ 53) : double.nearest s (a * 2 ^ k) (-(k : Int)) = double.word s ((a.log2 + 1022) * 4503599627370496 + a * 2 ^ (52 - a.log2)) ∧ 4503599627370496 ≤ a * 2 ^ (52 - a.log2) ∧ a * 2 ^ (52 - a.log2) < 9007199254740992 ∧ a.log2 ≤ 52 := by
  have h0 : a ≠ 0 := by omega
  have hL : a.log2 ≤ 52 := by have := (Nat.log2_lt h0).2 ha; omega
  obtain ⟨L, hLe⟩ : ∃ L, a.log2 = L := ⟨_, rfl⟩
  have hl := log2_mul_pow h k
  have h1 := Nat.log2_self_le h0
  have h2 : a < 2 ^ (a.log2 + 1) := Nat.lt_log2_self
  rw [hLe] at hL hl h1 h2 ⊢
  have hM1 : 4503599627370496 ≤ a * 2 ^ (52 - L) := by
    have : 2 ^ L * 2 ^ (52 - L) = 4503599627370496 := by rw [← Nat.pow_add, show L + (52 - L) = 52 by omega]
    rw [← this]
    exact Nat.mul_le_mul_right _ h1
  have hM2 : a * 2 ^ (52 - L) < 9007199254740992 := by
    have : 2 ^ (L + 1) * 2 ^ (52 - L) = 9007199254740992 := by rw [← Nat.pow_add, show L + 1 + (52 - L) = 53 by omega]
    rw [← this]
    exact Nat.mul_lt_mul_of_pos_right h2 (Nat.two_pow_pos _)
  refine ⟨?_, hM1, hM2, hL⟩
  have hm : ¬ a * 2 ^ k = 0 := Nat.mul_ne_zero h0 (by have := Nat.two_pow_pos k; omega)
  unfold Format.nearest
  rw [if_neg hm]
  simp only [hl, dbl_frac, dbl_least, dbl_binade, dbl_inf]
  have hlast : max (-(k : Int) + ((L + k : Nat) : Int) - ((52 : Nat) : Int)) (-1074) = (L : Int) - 52 := by omega
  rw [hlast]
  have hsh : ((L : Int) - 52 - -1074).toNat = L + 1022 := by omega
  rw [hsh]
  by_cases hk : k ≤ 52 - L
  · rw [show (-(k : Int) - ((L : Int) - 52)).toNat = 52 - L - k by omega, show ((L : Int) - 52 - -(k : Int)).toNat = 0 by omega, Nat.shiftLeft_eq, Nat.mul_assoc, ← Nat.pow_add, show k + (52 - L - k) = 52 - L by omega, cut_keep, Nat.min_eq_left (by omega)]
  · obtain ⟨d, hd⟩ : ∃ d, k = (52 - L) + d := ⟨k - (52 - L), by omega⟩
    rw [show (-(k : Int) - ((L : Int) - 52)).toNat = 0 by omega, show ((L : Int) - 52 - -(k : Int)).toNat = d by omega, Nat.shiftLeft_zero, hd, cut_drop s h, Nat.min_eq_left (by omega)]
theorem write_whole {s : Bool} {n : Int} (k : Nat) (hn : n.natAbs < 2 ^ 53) (hs : n ≠ 0 → s = decide (n < 0)) : Whole (double.write (.number s (n.natAbs * 2 ^ k) (-(k : Int)))) n := by
  show WholeD (double.read (double.nearest s (n.natAbs * 2 ^ k) (-(k : Int)))) n
  by_cases h0 : n = 0
  · subst h0
    have e : double.nearest s (Int.natAbs 0 * 2 ^ k) (-(k : Int)) = double.word s 0 := by
      unfold Format.nearest
      rw [if_pos (by simp)]
    rw [e]
    obtain ⟨q, hq⟩ : ∃ q : Nat, (q : Int) = 1074 := ⟨1074, rfl⟩
    refine ⟨s, q, ?_, fun h => absurd rfl h⟩
    rw [hq, show Int.natAbs 0 * 2 ^ q = 0 from Nat.zero_mul _]
    cases s <;> decide
  · have ha : 0 < n.natAbs := by omega
    obtain ⟨h1, h2, h3, h4⟩ := nearest_whole s k ha hn
    rw [h1]
    refine ⟨s, 52 - n.natAbs.log2, ?_, hs⟩
    obtain ⟨L, hL⟩ : ∃ L, n.natAbs.log2 = L := ⟨_, rfl⟩
    rw [hL] at h2 h3 h4 ⊢
    obtain ⟨M, hM⟩ : ∃ M, n.natAbs * 2 ^ (52 - L) = M := ⟨_, rfl⟩
    rw [hM] at h2 h3 ⊢
    obtain ⟨R, hR⟩ : ∃ R, (L + 1022) * 4503599627370496 + M = R := ⟨_, rfl⟩
    rw [hR]
    have r1 : R / 4503599627370496 = L + 1023 := by omega
    have r2 : R % 4503599627370496 = M - 4503599627370496 := by omega
    unfold Format.read Format.word
    simp only [dbl_binade, dbl_sign, dbl_inf, dbl_least]
    have w1 : (if s = true then 9223372036854775808 + R else R) % 9223372036854775808 = R := by split <;> omega
    have w2 : ((if s = true then 9223372036854775808 + R else R) / 9223372036854775808 % 2 == 1) = s := by
      cases s
      · rw [if_neg (by decide), show R / 9223372036854775808 = 0 by omega]; rfl
      · rw [if_pos rfl, show (9223372036854775808 + R) / 9223372036854775808 = 1 by omega]; rfl
    have e1 : 4503599627370496 + (M - 4503599627370496) = M := Nat.add_sub_of_le h2
    have e2 : (-1074 : Int) + ((L + 1023 - 1 : Nat) : Int) = -((52 - L : Nat) : Int) := by omega
    rw [w1, w2, if_neg (by omega), if_pos (by omega), r2, r1, e1, e2]
theorem signed_whole {s : Bool} {n : Int} (hs : n ≠ 0 → s = decide (n < 0)) (k u : Nat) : signed s (n.natAbs * 2 ^ k) u = n * 2 ^ (k + u) := by
  unfold signed
  rw [Nat.shiftLeft_eq, Nat.mul_assoc, ← Nat.pow_add]
  by_cases h0 : n = 0
  · subst h0; simp
  · rw [hs h0]
    by_cases hn : n < 0
    · simp only [hn, decide_true, if_true]
      push_cast
      rw [← Int.neg_mul]
      congr 1
      omega
    · simp only [hn, decide_false]
      push_cast
      congr 1
      omega
theorem whole_sumD {d e : Datum} {n m : Int} (h1 : WholeD d n) (h2 : WholeD e m) (hb : (n + m).natAbs < 2 ^ 53) : ∃ r, (d.sum e).map double.write = some r ∧ Whole r (n + m) := by
  obtain ⟨s, k, rfl, hs⟩ := h1
  obtain ⟨t, j, rfl, ht⟩ := h2
  obtain ⟨u, hu⟩ : ∃ u, u = max k j := ⟨_, rfl⟩
  have hbase : min (-(k : Int)) (-(j : Int)) = -(u : Int) := by omega
  simp only [Datum.sum, hbase]
  have e1 : (-(k : Int) - -(u : Int)).toNat = u - k := by omega
  have e2 : (-(j : Int) - -(u : Int)).toNat = u - j := by omega
  rw [e1, e2, signed_whole hs, signed_whole ht, show k + (u - k) = u by omega, show j + (u - j) = u by omega, ← Int.add_mul]
  have hp : (0 : Int) < 2 ^ u := by have := Nat.two_pow_pos u; exact_mod_cast this
  have e3 : ((n + m) * 2 ^ u).natAbs = (n + m).natAbs * 2 ^ u := by rw [Int.natAbs_mul]; congr 1
  rw [e3]
  refine ⟨_, rfl, write_whole u hb fun hne => ?_⟩
  have hne2 : ¬ (n + m) * 2 ^ u = 0 := Int.mul_ne_zero hne (by omega)
  rw [if_neg hne2]
  by_cases hlt : n + m < 0
  · simp [hlt, Int.mul_neg_of_neg_of_pos hlt hp]
  · have : ¬ (n + m) * 2 ^ u < 0 := by have := Int.mul_nonneg (show 0 ≤ n + m by omega) (Int.le_of_lt hp); omega
    simp [hlt, this]
theorem whole_add {x y : Nat} {n m : Int} (h1 : Whole x n) (h2 : Whole y m) (hb : (n + m).natAbs < 2 ^ 53) : ∃ r, floatBits .add .f64 x y = some r ∧ Whole r (n + m) := whole_sumD h1 h2 hb
theorem whole_opposite {d : Datum} {n : Int} (h : WholeD d n) : WholeD d.opposite (-n) := by
  obtain ⟨s, k, rfl, hs⟩ := h
  refine ⟨!s, k, by simp [Datum.opposite], fun hne => ?_⟩
  have hn : n ≠ 0 := by omega
  rw [hs hn]
  by_cases hlt : n < 0
  · have : ¬ -n < 0 := by omega
    simp [hlt]
    omega
  · have : -n < 0 := by omega
    simp [hlt]
    omega
theorem whole_sub {x y : Nat} {n m : Int} (h1 : Whole x n) (h2 : Whole y m) (hb : (n - m).natAbs < 2 ^ 53) : ∃ r, floatBits .sub .f64 x y = some r ∧ Whole r (n - m) := by
  rw [Int.sub_eq_add_neg] at hb ⊢
  exact whole_sumD h1 (whole_opposite h2) hb
theorem whole_mul {x y : Nat} {n m : Int} (h1 : Whole x n) (h2 : Whole y m) (hb : (n * m).natAbs < 2 ^ 53) : ∃ r, floatBits .mul .f64 x y = some r ∧ Whole r (n * m) := by
  obtain ⟨s, k, h1, hs⟩ := h1
  obtain ⟨t, j, h2, ht⟩ := h2
  show ∃ r, ((double.read x).product (double.read y)).map double.write = some r ∧ _
  rw [h1, h2]
  simp only [Datum.product]
  have e1 : n.natAbs * 2 ^ k * (m.natAbs * 2 ^ j) = (n * m).natAbs * 2 ^ (k + j) := by
    rw [Int.natAbs_mul, Nat.pow_add]
    ac_rfl
  have e2 : -(k : Int) + -(j : Int) = -((k + j : Nat) : Int) := by omega
  rw [e1, e2]
  refine ⟨_, rfl, write_whole (k + j) hb fun hne => ?_⟩
  have hn : n ≠ 0 := fun e => hne (by rw [e, Int.zero_mul])
  have hm : m ≠ 0 := fun e => hne (by rw [e, Int.mul_zero])
  rw [hs hn, ht hm]
  rcases Int.lt_or_gt_of_ne hn with a | a <;> rcases Int.lt_or_gt_of_ne hm with b | b
  · have := Int.mul_pos_of_neg_of_neg a b; simp [a, b]; omega
  · have := Int.mul_neg_of_neg_of_pos a b; simp [a, this]; omega
  · have := Int.mul_neg_of_pos_of_neg a b; simp [b, this]; omega
  · have hp := Int.mul_pos a b
    have i1 : ¬ n < 0 := by omega
    have i2 : ¬ m < 0 := by omega
    have i3 : ¬ n * m < 0 := by omega
    rw [decide_eq_false i1, decide_eq_false i2, decide_eq_false i3]
    rfl
theorem whole_ofInt {n : Int} (hn : n.natAbs < 2 ^ 53) : Whole (floatOfInt .f64 n) n := by
  have h := write_whole (s := decide (n < 0)) 0 hn fun _ => rfl
  rw [show n.natAbs * 2 ^ 0 = n.natAbs by simp] at h
  exact h
theorem whole_toInt {x : Nat} {n : Int} (h : Whole x n) (hn : n.natAbs < 2 ^ 53) : floatToIntVal .f64 x .i64 = some n := by
  obtain ⟨s, k, h1, hs⟩ := h
  have hcut : Toward.zero.cut s ((n.natAbs * 2 ^ k) <<< (-(k : Int)).toNat) (- -(k : Int)).toNat = n.natAbs := by
    rw [show (-(k : Int)).toNat = 0 by omega, Nat.shiftLeft_zero, show (- -(k : Int)).toNat = k by omega]
    by_cases h0 : n = 0
    · subst h0
      simp [Toward.cut]
    · have ha : 0 < n.natAbs := by omega
      unfold Toward.cut
      rw [log2_mul_pow ha, Nat.min_eq_left (by omega), Nat.one_shiftLeft]
      simp only [Nat.mul_div_cancel _ (Nat.two_pow_pos k)]
      simp
  have ht : (double.read x).toInt .zero = some n := by
    unfold Datum.toInt
    rw [h1]
    simp only [Datum.integral, hcut]
    have := signed_whole hs 0 0
    rw [show n.natAbs * 2 ^ 0 = n.natAbs by simp] at this
    rw [this]
    simp
  unfold floatToIntVal
  show (match (double.read x).toInt .zero with | some n => _ | none => _) = _
  rw [ht]
  have h1 : IntKind.i64.min ≤ n ∧ n ≤ IntKind.i64.max := by
    have e1 : IntKind.i64.min = -9223372036854775808 := by decide
    have e2 : IntKind.i64.max = 9223372036854775807 := by decide
    rw [e1, e2]
    omega
  simp only [h1, and_self, if_true]
theorem whole_one : Whole 4607182418800017408 1 := by
  have h := whole_ofInt (n := 1) (by decide)
  rwa [show floatOfInt .f64 1 = 4607182418800017408 by decide] at h
theorem whole_minus : Whole 13830554455654793216 (-1) := by
  have h := whole_ofInt (n := -1) (by decide)
  rwa [show floatOfInt .f64 (-1) = 13830554455654793216 by decide] at h
theorem whole_zero : Whole 0 0 := by
  have h := whole_ofInt (n := 0) (by decide)
  rwa [show floatOfInt .f64 0 = 0 by decide] at h
/-- A product of complex numbers whose parts are whole. -/
theorem whole_cmul {a b c d : Nat} {p q r s : Int} (ha : Whole a p) (hb : Whole b q) (hc : Whole c r) (hd : Whole d s) (h1 : (p * r).natAbs < 2 ^ 53) (h2 : (q * s).natAbs < 2 ^ 53) (h3 : (p * r - q * s).natAbs < 2 ^ 53) (h4 : (p * s).natAbs < 2 ^ 53) (h5 : (q * r).natAbs < 2 ^ 53) (h6 : (p * s + q * r).natAbs < 2 ^ 53) :
    ∃ x y, cMulBits a b c d = some (x, y) ∧ Whole x (p * r - q * s) ∧ Whole y (p * s + q * r) := by
  obtain ⟨ac, e1, w1⟩ := whole_mul ha hc h1
  obtain ⟨bd, e2, w2⟩ := whole_mul hb hd h2
  obtain ⟨x, e3, w3⟩ := whole_sub w1 w2 h3
  obtain ⟨ad, e4, w4⟩ := whole_mul ha hd h4
  obtain ⟨bc, e5, w5⟩ := whole_mul hb hc h5
  obtain ⟨y, e6, w6⟩ := whole_add w4 w5 h6
  exact ⟨x, y, by simp [cMulBits, e1, e2, e3, e4, e5, e6], w3, w6⟩
theorem whole_csum {a b c d : Nat} {p q r s : Int} (ha : Whole a p) (hb : Whole b q) (hc : Whole c r) (hd : Whole d s) (h1 : (p + r).natAbs < 2 ^ 53) (h2 : (q + s).natAbs < 2 ^ 53) :
    ∃ x y, cSumBits .add .f64 a b c d = some (x, y) ∧ Whole x (p + r) ∧ Whole y (q + s) := by
  obtain ⟨x, e1, w1⟩ := whole_add ha hc h1
  obtain ⟨y, e2, w2⟩ := whole_add hb hd h2
  exact ⟨x, y, by simp [cSumBits, e1, e2], w1, w2⟩
end Go.Proofs.Ytceohaeebdhmjaa
