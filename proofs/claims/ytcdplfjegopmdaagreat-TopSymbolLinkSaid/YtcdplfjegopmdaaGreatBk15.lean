/- Lemmas: S27, S28, S29. -/
import Derived.RangeFuncNested
import Derived.RangeFuncBound
import Derived.RangeFuncCalls
import Derived.RangeFuncLeaves
import Derived.Shelf.RegionOpen
import Derived.WalkKit
import Derived.OwnWalkIn
import Derived.TacticsInMore
import Derived.LoopNIn
import Derived.LoopIn
import Derived.RangeFuncWrites
import Derived.OrdersIn
import Derived.Deep.RegionHeld3
import Derived.Test.YtcdplfjegopmdaaGreatBk01
import Derived.Test.YtcdplfjegopmdaaGreatBk03
import Derived.Test.YtcdplfjegopmdaaGreatBk10
import Derived.Test.YtcdplfjegopmdaaGreatBk14
set_option linter.unusedVariables false
set_option linter.unusedSimpArgs false
/- labelsOf of the code: the bits of each number, in new memory. -/
namespace Go.Proofs.YtcdplfjegopmdaaGreat
open Go.RowKit Go.Shelf Go.Lib
attribute [local go_sem] Oper.semAt_some
/-- The bit p of the c bits of the number j. -/
def labF (c j p : Nat) : Int := ((j / 2 ^ (c - 1 - p) % 2 : Nat) : Int)
theorem labF_bit (c j p : Nat) : IsBit (labF c j p) := by unfold labF IsBit; omega
set_option maxHeartbeats 400000 in
theorem labelsOf_any (c : Int) (w : World) :
    Calls Tryz.prog 121 #[.int .i64 c] w fun e w' =>
      e = .returned (.func (.func 126) #[] #[.pointer (some ⟨w.heap.size, 0, none⟩)]) ∧ w.alloc (.cells #[.int .i64 c] 3) = w' := by
  go_enter Tryz.func121, Tryz.ntmps121
  go_wp2
  go_ret
  exact ⟨rfl, rfl⟩
def encL (c : Nat) (x : Nat) : Array Value := #[.slice (some ⟨x, 0, none⟩) c c]
/-- What a round knows: the slice has the bits of the number of rounds ahead of it, in a block that is not ahead of lo. -/
def ToldL (lo c : Nat) (xs : List Nat) (x : Nat) (V : World) : Prop := lo ≤ x ∧ IntsAt V lo (some ⟨x, 0, none⟩) c (labF c xs.length)
theorem shr_and {j s : Nat} (hj : j < 1000) : bits .and .i64 (((j / 2 ^ s : Nat)) : Int) 1 = ((j / 2 ^ s % 2 : Nat) : Int) := by
  have h1 : j / 2 ^ s ≤ j := Nat.div_le_self _ _
  have := andI (j / 2 ^ s) 1 (by omega) (by decide)
  rw [show ((1 : Nat) : Int) = 1 from rfl] at this
  rw [this, Nat.and_one_is_mod]
theorem labF_step (c j k : Nat) : setF (fun p => if p < k then labF c j p else 0) k (labF c j k) = fun p => if p < k + 1 then labF c j p else 0 := by
  funext p
  show (if p = k then labF c j k else if p < k then labF c j p else 0) = if p < k + 1 then labF c j p else 0
  by_cases e : p = k
  · subst e; rw [if_pos rfl, if_pos (by omega)]
  · rw [if_neg e]
    by_cases h : p < k
    · rw [if_pos h, if_pos (by omega)]
    · rw [if_neg h, if_neg (by omega)]
set_option maxHeartbeats 4000000 in
set_option maxRecDepth 100000 in
theorem labels_told (fu b c : Nat) (w : World) (bn : Box w b 3 #[.int .i64 (c : Int)]) (h1 : 1 ≤ c) (h6 : c ≤ 6) :
    SeqTold Fence.wide fu Tryz.prog 126 #[.pointer (some ⟨b, 0, none⟩)] (encL c) (ToldL w.heap.size c) b (fun xs => xs.length = 2 ^ c) (fun _ => True) (2 ^ c) w := by
  intro l J Jx W hW hJ hJx hY h0
  have cn := bn.below hW
  have hbw := bn.lt
  have hwW := hW.size
  clear bn hW
  have z0 := cn.at_ 0
  simp only [List.getElem?_toArray] at z0
  obtain ⟨N, hN⟩ : ∃ N : Nat, 2 ^ c = N := ⟨_, rfl⟩
  have hN64 : N ≤ 64 := by rw [← hN]; exact (Nat.pow_le_pow_right (by decide) h6 : 2 ^ c ≤ 2 ^ 6)
  have hNz : (2 ^ c : Int) = (N : Int) := by rw [← hN]; push_cast; rfl
  have qN : IntKind.i64.wrap (2 ^ c : Int) = (N : Int) := by rw [hNz, IntWalk.i64_in _ (by omega)]
  rw [hN] at hY ⊢
  clear hN
  obtain ⟨i0, hi, hz0, hz1, hz2⟩ := info_parts intInfo
  have hmk := fun W => run_make_row (P := Tryz.prog) 24 3 i0 (.int .i64 0) Tryz.underlying24 hi hz0 hz1 rfl .i64 .i64 c (by rw [hz2]; omega) (by omega) W
  clear hi hz0 hz1 hz2
  refine callsIn_of_wp Tryz.func126 rfl trivial ?_ rfl
  simp only [Tryz.ntmps126, List.size_toArray, List.length_cons, List.length_nil, Nat.reduceAdd, Nat.reduceSub, Array.replicate_succ, Array.replicate_zero, List.push_toArray, List.append_toArray, List.nil_append, List.cons_append]
  gi_wp2_with fail
  gi_loopw [8] (fun i wr => ∃ xs : List Nat, xs.length ≤ N ∧ i = .int .i64 ((xs.length : Nat) : Int) ∧ J xs wr ∧ wr.heap[b]? = W.heap[b]? ∧ W.heap.size ≤ wr.heap.size) (fun i _ => N - (Go.RowKit.intOf i).toNat)
  case atStart => exact ⟨[], Nat.zero_le _, rfl, h0, rfl, Nat.le_refl _⟩
  case round =>
    obtain ⟨xs, hxs, rfl, hJs, hbl, hsz⟩ := hrel
    obtain ⟨wA, rfl⟩ : ∃ x : World, x = wr := ⟨_, rfl⟩
    have dn : Box wA b _ _ := hbl.trans cn
    have x0 := dn.at_ 0
    simp only [List.getElem?_toArray] at x0
    obtain ⟨k, hk⟩ : ∃ k : Nat, xs.length = k := ⟨_, rfl⟩
    rw [hk] at hxs ⊢
    by_cases hlt : k < N
    · have hltz : (k : Int) < (N : Int) := by omega
      gi_wp2_with fail
      obtain ⟨gL, hgL⟩ : ∃ z, wA.heap.size = z := ⟨_, rfl⟩
      obtain ⟨w3, hw3⟩ : ∃ q' : World, q' = wA.alloc (.cells (madeCells #[.int .i64 0] c) 3) := ⟨_, rfl⟩
      try rw [← hw3]
      have hlo : w.heap.size ≤ gL := by omega
      have HL := hide (show OwnInts w3 w.heap.size (.slice (some ⟨gL, 0, none⟩) c c) c (fun p => if p < 0 then labF c k p else 0) by rw [hw3]; exact (ownS_zeros wA _ gL c (by omega) hgL.symm (by unfold maxLen; omega)).congr fun p _ => (if_neg (Nat.not_lt_zero p)).symm)
      have HB := hide (show Below gL wA w3 by rw [hw3, ← hgL]; (repeat (first | (with_reducible exact Below.refl _ _) | (with_reducible refine Go.below_drewN ?_ _) | (with_reducible refine Below.drew ?_) | (with_reducible refine Below.alloc ?_ (by first | exact Nat.le_refl _ | (simp; done) | (simp; omega) | omega) _) | (with_reducible refine Below.setCell ?_ (by first | exact Nat.le_refl _ | (simp; done) | (simp; omega) | omega) _))))
      have hs3 : gL < w3.heap.size := by rw [hw3, ← hgL]; simp
      clear hw3
      try simp only [hgL]
      gi_loopw [15] (fun i wr => ∃ p : Nat, p ≤ c ∧ i = .int .i64 (p : Int) ∧ Hid (OwnInts wr w.heap.size (.slice (some ⟨gL, 0, none⟩) c c) c (fun q => if q < p then labF c k q else 0)) ∧ Hid (Below gL wA wr) ∧ gL < wr.heap.size) (fun i _ => c - (Go.RowKit.intOf i).toNat)
      case atStart => exact ⟨0, Nat.zero_le _, rfl, HL, HB, hs3⟩
      case round =>
        clear HL HB hs3
        obtain ⟨p, hp, rfl, HL, HB, hs3⟩ := hrel
        obtain ⟨wB, rfl⟩ : ∃ x : World, x = wr := ⟨_, rfl⟩
        have en : Box wB b _ _ := (HB.out.block b (by omega)).trans dn
        have y0 := en.at_ 0
        simp only [List.getElem?_toArray] at y0
        clear x0
        by_cases hlp : p < c
        · have hlpz : (p : Int) < (c : Int) := by omega
          obtain ⟨s, hs⟩ : ∃ s : Nat, c - 1 - p = s := ⟨_, rfl⟩
          have q1 : IntKind.i64.wrap ((c : Int) - 1) = ((c - 1 : Nat) : Int) := by rw [IntWalk.i64_in _ (by omega)]; omega
          have q2 : IntKind.i64.wrap (((c - 1 : Nat) : Int) - (p : Int)) = (s : Int) := by rw [IntWalk.i64_in _ (by omega)]; omega
          have q3 : Int.fdiv (k : Int) (2 ^ s) = ((k / 2 ^ s : Nat) : Int) := by
            rw [Int.fdiv_eq_ediv_of_nonneg _ (Int.pow_nonneg (by decide))]
            push_cast
            rfl
          have q4 := shr_and (j := k) (s := s) (by omega)
          obtain ⟨v, hv⟩ : ∃ z, labF c k p = z := ⟨_, rfl⟩
          have hv2 : ((k / 2 ^ s % 2 : Nat) : Int) = v := by rw [← hv, ← hs]; rfl
          rw [hv2] at q4
          have q5 : bits .and .i64 ((k : Int) / 2 ^ s) 1 = v := by
            rw [← q4]
            push_cast
            rfl
          have hs64 : s < 64 := by omega
          have hs64z : (s : Int) < 64 := by omega
          have hs0 : ¬ (s : Int) < 0 := by omega
          have c0 := HL.out.cellAt hlp
          have k0 := HL.out.frozen p
          have HL5 := hide (HL.out.set_ p v)
          rw [← hv, labF_step, hv] at HL5
          have HB5 := hide (HB.out.setCell (p := ⟨gL, p, none⟩) (Nat.le_refl _) (.int .i64 v))
          clear hv hv2 HL HB
          gi_wp2_with fail
          go_roundw
          case rel => exact ⟨p + 1, by omega, by go_num, HL5, HB5, by simpa [World.setCell] using hs3⟩
          case measure => simp [Go.RowKit.intOf]; omega
        · obtain rfl : c = p := by omega
          have hlpz : ¬ (c : Int) < (c : Int) := by omega
          have hJw : J xs wB := hJ _ _ _ _ hJs (grown_of_below (by rw [hgL]; exact HB.out)) (fun r e => by cases e)
          have hTw : ToldL w.heap.size c xs gL wB := ⟨hlo, by
            obtain ⟨A, c', e, -, hI⟩ := HL.out.form
            injection e with e1 e2 e3
            subst e1
            rw [hk]
            exact hI.congr fun q hq => if_pos hq⟩
          obtain ⟨fn', tmps, assign, body, hy, hR⟩ := hY xs gL wB hJw hTw (by omega)
          dsimp only [encL] at hy
          gi_wp2_with fail
          refine ⟨fun h => by simp [Fence.wide] at h, hR.mono ?_⟩
          have hbB : wB.heap[b]? = W.heap[b]? := (HB.out.block b (by omega)).trans hbl
          have hsB : W.heap.size ≤ wB.heap.size := by omega
          rintro e w5 (⟨rfl, hJ5, hb5, hs5⟩ | ⟨rfl, hJx5⟩)
          · have hs6 : W.heap.size ≤ w5.heap.size := by omega
            clear hs5
            gi_wp2_with fail
            go_roundw
            case rel => exact ⟨xs ++ [gL], by rw [List.length_append, hk]; simp; omega, by rw [List.length_append, hk]; simp, hJ5, hb5.trans hbB, hs6⟩
            case measure => simp [Go.RowKit.intOf]; omega
          · gi_wp2_with fail
            refine bodyPost_ret (results_none rfl _ _ _) rfl ?_
            exact ⟨⟨_, rfl⟩, .inr ⟨_, trivial, hJx5⟩⟩
    · obtain rfl : k = N := by omega
      gi_wp2_with fail
      go_end0
      exact ⟨⟨_, rfl⟩, .inl ⟨_, hk, hJs⟩⟩
end Go.Proofs.YtcdplfjegopmdaaGreat
/- Inside a round of a range over a function: a region that is walked as if there were no round. -/
namespace Go.Proofs.YtcdplfjegopmdaaGreat
open Go Go.RowKit
/-- An operation that is no defer. -/
def calmOp (o : Oper) : Bool := match o.op with
  | .defer _ => false
  | _ => true
theorem rows_wide {n : Nat} {P : Program} {row : String} {args : Array Value} {w : World} {R : Value → World → Prop} (h : Rows P row args w R) : RowsIn Fence.wide n P row args w R :=
  fun c cs _ => let ⟨v, w', r, s⟩ := h c cs; ⟨v, w', r, stepsIn_wide.2 s⟩
theorem calm_wpIn {n l : Nat} {P : Program} {o : Oper} (hc : calmOp o = true) {a : Act} {w : World} {K : Act → World → Prop} {Q : Exit → Act → World → Prop} (h : o.wp P a w K Q) : o.wpIn (Fence.wide.inRound l) n P a w K Q := by
  have hd : ∀ c, o.op ≠ .defer c := fun c e => by unfold calmOp at hc; rw [e] at hc; cases hc
  refine ⟨fun _ _ => trivial, ?_⟩
  rw [Oper.semAt_eq _ _ _ hd]
  unfold Oper.wp at h
  cases hr : (execOp a.eval o).run P w with
  | ok v w' =>
    rw [hr] at h
    cases v with
    | value v => exact h
    | skip => exact h
    | defer d => exact h
    | enter f args => exact ⟨fun hh => by simp [Fence.wide] at hh, CallsIn.inRound l (callsIn_wide.2 (Calls.mono h (fun e w'' h2 => by cases e <;> exact h2)))⟩
    | row r args => exact ⟨fun hh => by simp [Fence.wide] at hh, rows_wide h⟩
    | _ => exact h.elim
  | halt x w' =>
    rw [hr] at h
    cases x <;> first | exact h | exact h.elim
theorem calm_any {n l : Nat} {P : Program} {md : Region.Mode} {ops : Array Oper} {Q : Exit → Act → World → Prop} (hQ : ¬ LetsOut Q) (hp : ∀ (i : Nat) o, ops[i]? = some o → calmOp o = true) :
    ∀ (fuel : Nat) (listed : Array Bool) (a : Act) (w : World), wpAny P md ops Q fuel listed a w → wpAnyIn (Fence.wide.inRound l) n P md ops Q fuel listed a w
  | 0, _, _, _, h => h
  | fuel + 1, listed, a, w, h => by
    refine ⟨h.1, fun i hi => ?_⟩
    have h2 := h.2 i hi
    unfold wpOp at h2
    unfold wpOpIn
    cases ho : ops[i]? with
    | none =>
      rw [ho] at h2
      exact calm_any hQ hp fuel _ a w h2
    | some o =>
      rw [ho] at h2
      simp only at h2 ⊢
      by_cases hw : Region.wanted o (yielded ops a.tmps) = true
      · rw [if_pos hw] at h2 ⊢
        exact calm_wpIn (hp i o ho) (Oper.wp_mono (fun a' w' h' => calm_any hQ hp fuel _ a' w' h') (h2.resolve_right fun h => hQ h.2))
      · rw [if_neg hw] at h2 ⊢
        exact ⟨fun _ _ => trivial, calm_any hQ hp fuel _ _ w h2⟩
/-- The opening of a drawn region inside a round. -/
theorem wpIn_region_held_drew {n l id : Nat} {P : Program} {ops : Array Oper} {Q : Exit → Act → World → Prop} {S : World → Prop} {a : Act} {w : World} (hm : P.follows .mixedOrders = true) (hp : ops.all calmOp = true) (hQ : ¬ LetsOut Q) (hS : S w.drew)
    (h : S w.drew → wpAnyH P .any ops Q S ops.size (Array.replicate ops.size false) a w.drew) : (Code.region id ops true).wpIn (Fence.wide.inRound l) n P Q a w :=
  wpIn_region_any hm (calm_any hQ (fun i o ho => by
    obtain ⟨hi, e⟩ := Array.getElem?_eq_some_iff.1 ho
    rw [Array.all_eq_true] at hp
    rw [← e]
    exact hp i hi) _ _ _ _ (wpAny_of_held _ _ _ _ (h hS)))
end Go.Proofs.YtcdplfjegopmdaaGreat
/- sizeOf of the code. -/
namespace Go.Proofs.YtcdplfjegopmdaaGreat
open Go.RowKit
set_option maxHeartbeats 1000000 in
theorem sizeOf_any (x : Int) (w : World) (hx : -9223372036854775807 ≤ x ∧ x ≤ 9223372036854775807) :
    Calls Tryz.prog 122 #[.int .i64 x] w fun e w' => e = .returned (.int .i64 (x.natAbs : Int)) ∧ w' = w := by
  have q : IntKind.i64.wrap (-x) = -x := IntWalk.i64_in _ (by omega)
  by_cases h0 : 0 ≤ x
  · have e : (x.natAbs : Int) = x := by omega
    rw [e]
    clear e
    go_enter Tryz.func122, Tryz.ntmps122
    go_wp2_with fail
    go_ret
    exact ⟨rfl, rfl⟩
  · have e : (x.natAbs : Int) = -x := by omega
    rw [e]
    clear e
    go_enter Tryz.func122, Tryz.ntmps122
    go_wp2_with fail
    go_ret
    exact ⟨rfl, rfl⟩
/-- The least of D over the first k numbers of c bits whose bit p is b. -/
def leastTo (D : Nat → Int) (c : Nat) : Nat → Nat → Nat → Int
  | 0, _, _ => 9223372036854775807
  | k + 1, p, b => if labF c k p = (b : Int) then min (leastTo D c k p b) (D k) else leastTo D c k p b
theorem leastTo_le {D : Nat → Int} {c : Nat} : ∀ {k p b j : Nat}, j < k → labF c j p = (b : Int) → leastTo D c k p b ≤ D j
  | 0, _, _, _, h, _ => absurd h (Nat.not_lt_zero _)
  | k + 1, p, b, j, h, e => by
    unfold leastTo
    by_cases hj : j = k
    · subst hj
      rw [if_pos e]
      omega
    · have := leastTo_le (D := D) (c := c) (k := k) (p := p) (b := b) (j := j) (by omega) e
      split <;> omega
theorem leastTo_low {D : Nat → Int} {c : Nat} (h : ∀ j, 0 ≤ D j) : ∀ {k p b : Nat}, 0 ≤ leastTo D c k p b ∧ leastTo D c k p b ≤ 9223372036854775807
  | 0, _, _ => by unfold leastTo; omega
  | k + 1, p, b => by
    have h1 := leastTo_low h (c := c) (k := k) (p := p) (b := b)
    have := h k
    unfold leastTo
    split <;> omega
theorem labF_some {c p b : Nat} (hp : p < c) (hb : b < 2) : ∃ j, j < 2 ^ c ∧ labF c j p = (b : Int) := by
  obtain ⟨s, hs⟩ : ∃ s, c - 1 - p = s := ⟨_, rfl⟩
  refine ⟨b * 2 ^ s, ?_, ?_⟩
  · have h1 : 2 ^ s < 2 ^ c := Nat.pow_lt_pow_right (by decide) (by omega)
    obtain rfl | rfl : b = 0 ∨ b = 1 := by omega
    · rw [Nat.zero_mul]; exact Nat.two_pow_pos c
    · rw [Nat.one_mul]; exact h1
  · unfold labF
    rw [hs, Nat.mul_div_cancel _ (Nat.two_pow_pos s), Nat.mod_eq_of_lt hb]
theorem leastTo_end {D : Nat → Int} {c p b : Nat} {M : Int} (hp : p < c) (hb : b < 2) (h : ∀ j, 0 ≤ D j ∧ D j ≤ M) : 0 ≤ leastTo D c (2 ^ c) p b ∧ leastTo D c (2 ^ c) p b ≤ M := by
  obtain ⟨j, h1, h2⟩ := labF_some hp hb
  have h3 := leastTo_le (D := D) h1 h2
  have h4 := h j
  exact ⟨(leastTo_low fun j => (h j).1).1, by omega⟩
/-- Cells of c pairs. -/
def pairC (c : Nat) (F : Nat → Nat → Int) : Array Value := ((List.range (c * 2)).map fun j => Value.int .i64 (F (j / 2) (j % 2))).toArray
theorem pairC_size (c : Nat) (F : Nat → Nat → Int) : (pairC c F).size = c * 2 := by simp [pairC]
theorem pairC_get (c : Nat) (F : Nat → Nat → Int) (j : Nat) : (pairC c F)[j]? = if j < c * 2 then some (.int .i64 (F (j / 2) (j % 2))) else none := by
  unfold pairC
  by_cases h : j < c * 2 <;> simp [h]
theorem pairC_at {c p b : Nat} (F : Nat → Nat → Int) (hp : p < c) (hb : b < 2) : (pairC c F)[p * 2 + b]? = some (.int .i64 (F p b)) := by
  rw [pairC_get, if_pos (by omega), show (p * 2 + b) / 2 = p by omega, show (p * 2 + b) % 2 = b by omega]
theorem pairC_congr {c : Nat} {F G : Nat → Nat → Int} (h : ∀ p b, p < c → b < 2 → F p b = G p b) : pairC c F = pairC c G := by
  unfold pairC
  congr 1
  exact List.map_congr_left fun j hj => by
    have := List.mem_range.1 hj
    rw [h (j / 2) (j % 2) (by omega) (by omega)]
theorem pairC_set {c p b : Nat} (F G : Nat → Nat → Int) (v : Int) (hp : p < c) (hb : b < 2) (h : ∀ q d, q < c → d < 2 → G q d = if q = p ∧ d = b then v else F q d) : (pairC c F).setIfInBounds (p * 2 + b) (.int .i64 v) = pairC c G := by
  apply Array.ext_getElem?
  intro i
  rw [Array.getElem?_setIfInBounds, pairC_get, pairC_get, pairC_size]
  by_cases hi : i < c * 2
  · rw [if_pos hi, h (i / 2) (i % 2) (by omega) (by omega)]
    by_cases e : p * 2 + b = i
    · subst e
      rw [if_pos rfl, if_pos hi, if_pos (by omega), if_pos ⟨by omega, by omega⟩]
    · rw [if_neg e, if_pos hi, if_neg (by omega)]
  · rw [if_neg hi]
    by_cases e : p * 2 + b = i
    · omega
    · rw [if_neg e, if_neg hi]
theorem pairC_zero (c : Nat) : (madeCells #[.int .i64 0, .int .i64 0] (c * 2) : Array Value) = pairC c (fun _ _ => 0) := by
  apply Array.ext_getElem?
  intro i
  rw [pairC_get]
  by_cases h : i < c * 2
  · have : i % 2 = 0 ∨ i % 2 = 1 := by omega
    rw [if_pos h]
    rcases this with e | e <;> simp [madeCells, h, e]
  · rw [if_neg h]; simp [madeCells, h]
section
variable {W Y : World} {row : Option Nat}
theorem Box.roundly {b : Nat} {t : TypeId} {cs : Array Value} (h : Box W b t cs) (hg : W.grownBy Y row) (hr : ∀ r, row = some r → ∃ o : Obj, W.heap[r]? = some o ∧ o.isCells = false) : Box Y b t cs :=
  (hg.block b h.lt (fun e => by
    obtain ⟨o, h1, h2⟩ := hr b e.symm
    have : W.heap[b]? = some (.cells cs t (0, 0)) := h
    rw [this] at h1
    injection h1 with h1
    subst h1
    cases h2)).trans h
theorem IntsAt.roundly {lo n : Nat} {A : Option Addr} {F : Nat → Int} (h : IntsAt W lo A n F) (hg : W.grownBy Y row) (hr : ∀ r, row = some r → ∃ o : Obj, W.heap[r]? = some o ∧ o.isCells = false) : IntsAt Y lo A n F := fun k hk => by
  obtain ⟨b, o, e, h1, h2, h3⟩ := h k hk
  exact ⟨b, o, e, h1, Nat.lt_of_lt_of_le h2 hg.size, cell_kept h3 hg hr⟩
end
theorem told_own (B lo c : Nat) (xs : List Nat) (x : Nat) : OwnFrom B fun (_ : Unit) V => ToldL lo c xs x V := fun _ W Y row h hg hr => ⟨h.1, h.2.roundly hg fun r e => (hr r e).2⟩
end Go.Proofs.YtcdplfjegopmdaaGreat
