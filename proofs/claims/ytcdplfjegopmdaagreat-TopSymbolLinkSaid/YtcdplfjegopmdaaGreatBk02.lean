/- Lemmas: KEa, KEg, Ej, KEk, KEb, KEe, KEf, Eh, KEd, KEh, KEi, KEc. -/
import Derived.Lib.AppendZeros
import Derived.Test.YtcdplfjegopmdaaGreatBk01
set_option linter.unusedVariables false
set_option linter.unusedSimpArgs false
/- Ea of chapter 02, in a namespace of its own. -/
namespace Go.Proofs.YtcdplfjegopmdaaGreat.K
open Go.RowKit
theorem balloc {B : Nat} {w1 W : World} (h : Below B w1 W) (hB : B ≤ w1.heap.size) (o : Obj) : Below B w1 (W.alloc o) := h.alloc (Nat.le_trans hB h.size) o
theorem bstep {B : Nat} {w1 W w2 : World} (hb : Below W.heap.size W w2) (h : Below B w1 W) (hB : B ≤ w1.heap.size) : Below B w1 w2 := h.trans (hb.mono (Nat.le_trans hB h.size))
theorem bstepS {B : Nat} {w1 W w2 : World} {p q : Prop} (hb : Below W.heap.size W w2) (h : p ∧ q ∧ Below B w1 W) (hB : B ≤ w1.heap.size) : Below B w1 w2 := bstep hb h.2.2 hB
set_option maxHeartbeats 1000000 in
theorem checkPoly_any (d t : Int) (w : World) :
    Calls Tryz.prog 79 #[.agg #[.int .i64 d, .int .i64 t]] w fun e w' => e = .returned (.int .i64 (polyErrI d t)) ∧ Below w.heap.size w w' := by
  by_cases hd : 1 ≤ d ∧ d ≤ 16
  · obtain ⟨d, rfl⟩ := Int.eq_ofNat_of_zero_le (show 0 ≤ d by omega)
    obtain ⟨h0, h⟩ : 1 ≤ d ∧ d ≤ 16 := by omega
    clear hd
    obtain ⟨h1, h2⟩ := pow2_le d h
    by_cases ht : 1 ≤ t ∧ t ≤ 2 ^ d - 1
    · obtain ⟨t0, t1⟩ := ht
      have HWI := hide (withinB_yes (n := t) (lo := 1) (hi := 2 ^ d - 1) ⟨t0, t1⟩)
      have EQ := hide (show polyErrI (d : Int) t = if t % 2 = 0 then 3 else 0 from by
        unfold polyErrI
        rw [if_pos (by omega), Int.toNat_natCast, if_pos ⟨t0, t1⟩])
      generalize polyErrI (d : Int) t = R at *
      go_enter Tryz.func79, Tryz.ntmps79
      go_wp2_with fail
      refine (isWithin_any _ _ _ _).mono ?_; rintro e w' ⟨rfl, rfl⟩
      rw [withinB_yes (by omega)]
      go_wp2_with fail
      generalize hW : World.alloc w _ = W
      have bx : Box W w.heap.size 23 #[.int .i64 (d : Int), .int .i64 t] := by rw [← hW]; exact Box.made rfl
      have hB : Below w.heap.size w W := by rw [← hW]; exact (Below.refl _ _).alloc (Nat.le_refl _) _
      clear hW
      have x0 := bx.at_ 0
      have x1 := bx.at_ 1
      simp only [List.getElem?_toArray] at x0 x1
      have hz := bx.lt
      have SOF := hide (fun W' (h : Below (w.heap.size + 1) W W') => (⟨(h.cell (p := ⟨w.heap.size, 0, none⟩) (by simp)).trans x0, (h.cell (p := ⟨w.heap.size, 1, none⟩) (by simp)).trans x1, h⟩ :
         W'.cell? ⟨w.heap.size, 0, none⟩ = some (.int .i64 (d : Int)) ∧ W'.cell? ⟨w.heap.size, 1, none⟩ = some (.int .i64 t) ∧ Below (w.heap.size + 1) W W'))
      have b0 : Below (w.heap.size + 1) W W := Below.refl _ _
      go_region_held3 (fun w' => w'.cell? ⟨w.heap.size, 0, none⟩ = some (.int .i64 (d : Int)) ∧ w'.cell? ⟨w.heap.size, 1, none⟩ = some (.int .i64 t) ∧ Below (w.heap.size + 1) W w')
          (first | exact SOF.out _ (by assumption) | exact SOF.out _ b0.drew | exact SOF.out _ (balloc (by assumption) hz _))
          (first
            | (go_at_call 112; refine (maskOf_any _ _ _ h).mono ?_; rintro e w2 ⟨rfl, hb2⟩; have hs2 : Below (w.heap.size + 1) W w2 := bstepS hb2 (by assumption) hz)
            | (go_at_call 88; refine (isWithin_any _ _ _ _).mono ?_; rintro e w3 ⟨rfl, rfl⟩; rw [HWI.out]))
      go_wp2_with fail
      · have h : (t % 2 == 0) = true := by assumption
        go_ret
        exact ⟨ret_int (by rw [EQ.out, if_pos (by simpa using h)]), hB.trans (hs2.mono (by omega))⟩
      · have h : (t % 2 == 0) = false := by assumption
        go_ret
        exact ⟨ret_int (by rw [EQ.out, if_neg (by simpa using h)]), hB.trans (hs2.mono (by omega))⟩
    · have HWI := hide (withinB_no (n := t) (lo := 1) (hi := 2 ^ d - 1) ht)
      have EQ := hide (show polyErrI (d : Int) t = 2 from by
        unfold polyErrI
        rw [if_pos (by omega), Int.toNat_natCast, if_neg ht])
      clear ht
      generalize polyErrI (d : Int) t = R at *
      go_enter Tryz.func79, Tryz.ntmps79
      go_wp2_with fail
      refine (isWithin_any _ _ _ _).mono ?_; rintro e w' ⟨rfl, rfl⟩
      rw [withinB_yes (by omega)]
      go_wp2_with fail
      generalize hW : World.alloc w _ = W
      have bx : Box W w.heap.size 23 #[.int .i64 (d : Int), .int .i64 t] := by rw [← hW]; exact Box.made rfl
      have hB : Below w.heap.size w W := by rw [← hW]; exact (Below.refl _ _).alloc (Nat.le_refl _) _
      clear hW
      have x0 := bx.at_ 0
      have x1 := bx.at_ 1
      simp only [List.getElem?_toArray] at x0 x1
      have hz := bx.lt
      have SOF := hide (fun W' (h : Below (w.heap.size + 1) W W') => (⟨(h.cell (p := ⟨w.heap.size, 0, none⟩) (by simp)).trans x0, (h.cell (p := ⟨w.heap.size, 1, none⟩) (by simp)).trans x1, h⟩ :
         W'.cell? ⟨w.heap.size, 0, none⟩ = some (.int .i64 (d : Int)) ∧ W'.cell? ⟨w.heap.size, 1, none⟩ = some (.int .i64 t) ∧ Below (w.heap.size + 1) W W'))
      have b0 : Below (w.heap.size + 1) W W := Below.refl _ _
      go_region_held3 (fun w' => w'.cell? ⟨w.heap.size, 0, none⟩ = some (.int .i64 (d : Int)) ∧ w'.cell? ⟨w.heap.size, 1, none⟩ = some (.int .i64 t) ∧ Below (w.heap.size + 1) W w')
          (first | exact SOF.out _ (by assumption) | exact SOF.out _ b0.drew | exact SOF.out _ (balloc (by assumption) hz _))
          (first
            | (go_at_call 112; refine (maskOf_any _ _ _ h).mono ?_; rintro e w2 ⟨rfl, hb2⟩; have hs2 : Below (w.heap.size + 1) W w2 := bstepS hb2 (by assumption) hz)
            | (go_at_call 88; refine (isWithin_any _ _ _ _).mono ?_; rintro e w3 ⟨rfl, rfl⟩; rw [HWI.out]))
      go_wp2_with fail
      go_ret
      exact ⟨ret_int EQ.out.symm, hB.trans (hs2.mono (by omega))⟩
  · have HWI := hide (withinB_no hd)
    have EQ := hide (show polyErrI d t = 2 from if_neg hd)
    clear hd
    generalize polyErrI d t = R at *
    go_enter Tryz.func79, Tryz.ntmps79
    go_wp2_with fail
    refine (isWithin_any _ _ _ _).mono ?_; rintro e w' ⟨rfl, rfl⟩
    rw [HWI.out]
    go_wp2_with fail
    go_ret
    exact ⟨ret_int EQ.out.symm, by (repeat (first | (with_reducible exact Below.refl _ _) | (with_reducible refine Go.below_drewN ?_ _) | (with_reducible refine Below.drew ?_) | (with_reducible refine Below.alloc ?_ (by first | exact Nat.le_refl _ | (simp; done) | (simp; omega) | omega) _) | (with_reducible refine Below.setCell ?_ (by first | exact Nat.le_refl _ | (simp; done) | (simp; omega) | omega) _)))⟩
end Go.Proofs.YtcdplfjegopmdaaGreat.K
/- Eg of chapter 02, in a namespace of its own. -/
namespace Go.Proofs.YtcdplfjegopmdaaGreat.K
open Go.RowKit
set_option maxHeartbeats 1000000 in
theorem remainder_any (d t : Nat) (A : Option Addr) (n c : Nat) (F : Nat → Int) (w : World) (h0 : 1 ≤ d) (h1 : d ≤ 16) (t1 : t < 2 ^ d) (hn : n ≤ 100000) (hI : IntsAt w 0 A n F) (hb : ∀ k, k < n → IsBit (F k)) :
    Calls Tryz.prog 80 #[.agg #[.int .i64 (d : Int), .int .i64 (t : Int)], .slice A n c] w fun e w' => ∃ v, e = .returned v ∧ GaveInts w d (remB d t n F) v w' := by
  obtain ⟨p1, p2⟩ := pow2_le d h1
  have h16 : 2 ^ d ≤ 65536 := by have : ((2 ^ d : Nat) : Int) = (2 : Int) ^ d := by simp
                                 omega
  obtain ⟨i0, hi, hz0, hz1, hz2⟩ := info_parts intInfo
  have hmk := fun W => run_make_row (P := Tryz.prog) 24 3 i0 (.int .i64 0) Tryz.underlying24 hi hz0 hz1 rfl .i64 .i64 d (by rw [hz2]; omega) (by omega) W
  have HI := hide hI
  have HB := hide hb
  clear hI hb hi hz0 hz1 hz2
  go_enter Tryz.func80, Tryz.ntmps80
  go_wp2_with fail
  have HMK := hide hmk
  clear hmk
  go_loopw [5, 13] (fun r i wr => ∃ k : Nat, k ≤ n ∧ i = .int .i64 k ∧ r = .int .i64 (remF d t F k : Nat) ∧ Box wr w.heap.size 23 #[.int .i64 (d : Int), .int .i64 (t : Int)] ∧ Below w.heap.size w wr) (fun _ i _ => n - (Go.RowKit.intOf i).toNat)
  case atStart => exact ⟨0, Nat.zero_le _, rfl, rfl, Box.made rfl, (Below.refl _ _).alloc (Nat.le_refl _) _⟩
  case round =>
    obtain ⟨k, hk, rfl, rfl, bx, hB⟩ := hrel
    have x0 := bx.at_ 0
    have x1 := bx.at_ 1
    simp only [List.getElem?_toArray] at x0 x1
    have hr := remF_lt F t1 k
    by_cases hlt : k < n
    · have hltz : (k : Int) < (n : Int) := by omega
      have hI := HI.out.below hB
      obtain ⟨b, o, rfl, -, hb, hcell⟩ := hI k hlt
      have hF := hide (HB.out k hlt)
      obtain ⟨f0, f1⟩ := (HB.out k hlt).le
      obtain ⟨fb, hfb⟩ := Int.eq_ofNat_of_zero_le f0
      have HFB := hide hfb
      rw [hfb] at hcell f0 f1
      clear hfb hF
      generalize hrr : remF d t F k = r at *
      have HR := hide hrr
      clear hrr
      have hm : (((r >>> (d - 1) : Nat) : Int)) = (r : Int) / 2 ^ (d - 1) := by rw [Nat.shiftRight_eq_div_pow]; simp
      have q0 : r >>> (d - 1) ≤ r := Nat.shiftRight_le _ _
      have hx := xorI (r >>> (d - 1)) fb (by omega) (by omega)
      rw [hm] at hx
      have hay : bits .and .i64 ((r : Int) * 2) (2 ^ d - 1) = ((2 * r % 2 ^ d : Nat) : Int) := by
        have e1 : ((r : Int) * 2) = ((2 * r : Nat) : Int) := by omega
        have e2 : ((2 : Int) ^ d - 1) = ((2 ^ d - 1 : Nat) : Int) := by
          have : ((2 ^ d : Nat) : Int) = (2 : Int) ^ d := by simp
          omega
        rw [e1, e2, andI _ _ (by omega) (by omega), Nat.and_two_pow_sub_one_eq_mod]
      have hy1 : 2 * r % 2 ^ d < 2 ^ d := Nat.mod_lt _ (Nat.two_pow_pos d)
      have HS := hide (show remF d t F (k + 1) = if r >>> (d - 1) ^^^ fb = 1 then (2 * r % 2 ^ d) ^^^ t else 2 * r % 2 ^ d from by
        show remStep d t (remF d t F k) (F k).toNat = _
        rw [HR.out, HFB.out]; rfl)
      generalize 2 * r % 2 ^ d = y at *
      generalize r >>> (d - 1) ^^^ fb = cr at *
      have hxt := xorI y t (by omega) (by omega)
      by_cases hc : cr = 1
      · have hc' : ((cr : Int) == 1) = true := by simp; omega
        have HS' := hide (HS.out.trans (if_pos hc))
        clear hc
        go_wp2_with fail
        refine (maskOf_any d t _ h1).mono ?_
        rintro e w1 ⟨rfl, hb1⟩
        have bx1 := bx.below hb1
        have y1 := bx1.at_ 1
        simp only [List.getElem?_toArray] at y1
        go_wp2_with fail
        go_roundw
        case rel => exact ⟨k + 1, by omega, by go_num, by rw [HS'.out], bx1, hB.trans (hb1.mono hB.size)⟩
        case measure => simp [Go.RowKit.intOf]; omega
      · have hc' : ((cr : Int) == 1) = false := by simp; omega
        have HS' := hide (HS.out.trans (if_neg hc))
        clear hc
        go_wp2_with fail
        refine (maskOf_any d t _ h1).mono ?_
        rintro e w1 ⟨rfl, hb1⟩
        have bx1 := bx.below hb1
        go_wp2_with fail
        go_roundw
        case rel => exact ⟨k + 1, by omega, by go_num, by rw [HS'.out], bx1, hB.trans (hb1.mono hB.size)⟩
        case measure => simp [Go.RowKit.intOf]; omega
    · obtain rfl : k = n := by omega
      have hmk := HMK.out
      have hBs := hB.size
      have hrl := remF_lt F t1 k
      generalize hrr : remF d t F k = r at *
      have HR := hide hrr
      clear hrr
      obtain ⟨wo, rfl⟩ : ∃ wo : World, wo = wr := ⟨_, rfl⟩
      go_wp2_with fail
      clear hmk
      go_loopw [41] (fun i wv => ∃ j : Nat, j ≤ d ∧ i = .int .i64 j ∧ wv.rowIs wo.heap.size 3 d (fun x => .int .i64 (if x < j then ((r >>> (d - 1 - x) &&& 1 : Nat) : Int) else 0)) ∧ Box wv w.heap.size 23 #[.int .i64 (d : Int), .int .i64 (t : Int)] ∧ Below w.heap.size w wv) (fun i _ => d - (Go.RowKit.intOf i).toNat)
      case atStart =>
        exact ⟨0, Nat.zero_le _, rfl, (World.rowIs_made wo (.int .i64 0) d 3).congr (fun j _ => by simp), bx.alloc _, hB.alloc hBs _⟩
      case round =>
        obtain ⟨j, hj, rfl, hR, bz, hBz⟩ := hrel
        have z0 := bz.at_ 0
        simp only [List.getElem?_toArray] at z0
        by_cases hlj : j < d
        · have hltj : (j : Int) < (d : Int) := by omega
          have hc := hR.cell hlj
          have hf := hR.frozen j
          have hand := andI (r >>> (d - 1 - j)) 1 (by have := Nat.shiftRight_le r (d - 1 - j); omega) (by decide)
          rw [show (((r >>> (d - 1 - j) : Nat) : Int)) = (r : Int) / 2 ^ (d - 1 - j) from by rw [Nat.shiftRight_eq_div_pow]; simp] at hand
          have HA := hide (show (Value.int .i64 (bits .and .i64 ((r : Int) / 2 ^ (d - 1 - j)) 1)) = .int .i64 ((r >>> (d - 1 - j) &&& 1 : Nat) : Int) from by rw [← hand]; rfl)
          clear hand
          go_wp2_with fail
          go_roundw
          case rel =>
            rw [HA.out]
            exact ⟨j + 1, by omega, by go_num, (hR.set j _).congr (fun x _ => by
              by_cases e : x = j
              · subst e
                rw [if_pos rfl, if_pos (Nat.lt_succ_self _)]
              · rw [if_neg e]
                by_cases e2 : x < j
                · rw [if_pos e2, if_pos (by omega)]
                · rw [if_neg e2, if_neg (by omega)]), bz.other (by show w.heap.size ≠ wo.heap.size; have := bx.lt; omega) _, hBz.setCell (by exact hBs) _⟩
          case measure => simp [Go.RowKit.intOf]; omega
        · obtain rfl : j = d := by omega
          go_wp2_with fail
          go_ret
          exact ⟨_, rfl, GaveInts.of_row (hR.congr (fun x hx => by rw [if_pos hx]; unfold remB; rw [HR.out])) hBs hBz⟩
end Go.Proofs.YtcdplfjegopmdaaGreat.K
/- exploring: Grow, Concat, CopyInts -/
namespace Go.Proofs.YtcdplfjegopmdaaGreat
open Go.RowKit Go.Lib
set_option maxHeartbeats 1000000 in
theorem copyInts_any (A : Option Addr) (n c : Nat) (F : Nat → Int) (w : World) (hn : n ≤ 100000000) (hI : IntsAt w 0 A n F) :
    Calls Tryz.prog 14 #[.slice A n c] w fun e w' => ∃ v, e = .returned v ∧ GaveInts w n F v w' := by
  go_enter Tryz.func14, Tryz.ntmps14
  go_wp2_with (at_builtin; refine wpList_append_ints _ rfl (.tmp 3) (.tmp 4) rfl w.heap.size 0 (.slice (some ⟨w.heap.size, 0, none⟩) 0 0) 0 F rfl (World.ownsRow_made w #[] 0 (Nat.le_refl _) (by unfold maxLen; omega) rfl) A n c F rfl (hI.alloc _) (by omega) (by simp) ?_; intro v' w' h1 hb1)
  go_ret
  have hB : Below w.heap.size w w' := ((Below.refl _ _).alloc (Nat.le_refl _) _).trans hb1
  rw [Nat.zero_add] at h1
  exact ⟨_, rfl, (h1.congr fun j _ => by simp [catF]).gave hB⟩
theorem wpList_grow_ints {ops : Array Oper} {rest : List Oper} {o : Oper} {a : Act} {Q : Exit → Act → World → Prop} (w : World) (hgd : o.guard = none) (s x : Operand)
    (ho : o.op = .call { callee := .builtin .append, args := #[s, x], argTypes := #[24, 3] })
    (n : Nat) (h0 : 0 < n) (hn : n ≤ 1000000000) (hs : a.eval s = .slice none 0 0) (hx : a.eval x = .int .i64 (n : Int))
    (h : ∀ cap w', n ≤ cap → cap ≤ maxLen → OwnInts w' w.heap.size (.slice (some ⟨w.heap.size, 0, none⟩) 0 cap) 0 (fun _ => 0) → Below w.heap.size w w' →
      wpList Tryz.prog ops Q rest (a.put o.dst (.slice (some ⟨w.heap.size, 0, none⟩) n cap)) w') : wpList Tryz.prog ops Q (o :: rest) a w := by
  obtain ⟨i0, hi, hz0, hz1, hz2⟩ := info_parts intInfo
  have hrun := fun ty => run_append_nil_zeros (P := Tryz.prog) w 24 3 ty 3 i0 (.int .i64 0) .i64 .i64 Tryz.underlying24 Tryz.underlying3 hi hz0 n h0 (by omega) (by omega) (by rw [hz2]; omega)
  refine wpList_plain hgd fun K hK => ?_
  unfold Oper.wp execOp
  simp only [ho, resolve, invoke, builtin, Sem.run_bind, Sem.run_pure, Result.andThen_ok, List.map_toArray, List.map_cons, List.map_nil, hs, hx, hrun]
  have hge := grownCap_ge w n 0 3
  have hle := grownCap_le_maxLen w n 0 3 (by unfold maxLen; omega)
  refine hK _ _ (h _ _ hge hle ?_ ?_)
  · exact World.ownsRow_made w.drew _ (grownCap w n 0 3) (Nat.le_refl _) hle (by
      rw [Array.size_append, size_zeroCells, size_zeroCells]
      show n * 1 + (grownCap w n 0 3 - n) * 1 = _
      omega)
  · exact (Below.refl _ _).drew.alloc (Nat.le_refl _) _

set_option maxHeartbeats 1000000 in
theorem grow_any (n : Nat) (w : World) (hn : n ≤ 100000000) :
    Calls Tryz.prog 115 #[.slice none 0 0, .int .i64 (n : Int)] w fun e w' => ∃ v, e = .returned v ∧ OwnInts w' w.heap.size v 0 (fun _ => 0) ∧ Below w.heap.size w w' := by
  by_cases h0 : n = 0
  · subst h0
    go_enter Tryz.func115, Tryz.ntmps115
    go_wp2_with fail
    go_ret
    exact ⟨_, rfl, OwnInts.nil_ _ _ _, by (repeat (first | (with_reducible exact Below.refl _ _) | (with_reducible refine Go.below_drewN ?_ _) | (with_reducible refine Below.drew ?_) | (with_reducible refine Below.alloc ?_ (by first | exact Nat.le_refl _ | (simp; done) | (simp; omega) | omega) _) | (with_reducible refine Below.setCell ?_ (by first | exact Nat.le_refl _ | (simp; done) | (simp; omega) | omega) _)))⟩
  · have hn0 : 0 < n := by omega
    have hn1 : (0 : Int) < (n : Int) := by omega
    clear h0
    go_enter Tryz.func115, Tryz.ntmps115
    go_wp2_with (at_builtin; refine wpList_grow_ints _ rfl (.tmp 20) (.tmp 21) rfl n hn0 (by omega) rfl rfl ?_; intro cap w' hc1 hc2 hown hb)
    go_ret
    exact ⟨_, rfl, hown, hb⟩

end Go.Proofs.YtcdplfjegopmdaaGreat
/- Ek of chapter 02, in a namespace of its own. -/
namespace Go.Proofs.YtcdplfjegopmdaaGreat.K
open Go.RowKit Go.Lib
def ZAt (n m : Nat) (i z : Value) : Prop := (i = .int .i64 0 ∧ z = .int .i64 0) ∨ (i = .int .i64 1 ∧ z = .int .i64 (n : Int)) ∨ (i = .int .i64 2 ∧ z = .int .i64 ((n : Int) + m))
def OAt (w : World) (n m : Nat) (F G : Nat → Int) (i v : Value) (wr : World) : Prop :=
  (i = .int .i64 0 ∧ OwnInts wr w.heap.size v 0 (fun _ => 0)) ∨ (i = .int .i64 1 ∧ OwnInts wr w.heap.size v n F) ∨ (i = .int .i64 2 ∧ OwnInts wr w.heap.size v (n + m) (catF n F G))
set_option maxHeartbeats 4000000 in
theorem concat_any (g t : Nat) (A C : Option Addr) (n m c d e0 : Nat) (F G : Nat → Int) (w : World) (hn : n ≤ 1000000) (hm : m ≤ 1000000) (bx : Box w g t #[.slice A n c, .slice C m d]) (hF : IntsAt w 0 A n F) (hG : IntsAt w 0 C m G) :
    Calls Tryz.prog 90 #[.slice (some ⟨g, 0, none⟩) 2 e0] w fun e w' => ∃ v, e = .returned v ∧ GaveInts w (n + m) (catF n F G) v w' := by
  have HF := hide hF
  have HG := hide hG
  have y0 := bx.at_ 0
  have y1 := bx.at_ 1
  simp only [List.getElem?_toArray] at y0 y1
  clear hF hG
  go_enter Tryz.func90, Tryz.ntmps90
  go_wp2_with fail
  go_loopw [3, 11] (fun z i wr => ZAt n m i z ∧ wr = w) (fun _ i _ => 2 - (Go.RowKit.intOf i).toNat)
  case atStart => exact ⟨.inl ⟨rfl, rfl⟩, rfl⟩
  case round =>
    obtain ⟨hz, rfl⟩ := hrel
    rcases hz with ⟨rfl, rfl⟩ | ⟨rfl, rfl⟩ | ⟨rfl, rfl⟩
    · go_wp2_with fail
      go_roundw
      case rel => exact ⟨.inr (.inl ⟨rfl, rfl⟩), by first | rfl | trivial⟩
      case measure => simp [Go.RowKit.intOf]
    · go_wp2_with fail
      go_roundw
      case rel => exact ⟨.inr (.inr ⟨rfl, rfl⟩), by first | rfl | trivial⟩
      case measure => simp [Go.RowKit.intOf]
    · go_wp2_with fail
      rw [show (n : Int) + m = ((n + m : Nat) : Int) from by omega]
      refine (grow_any (n + m) _ (by omega)).mono ?_
      rintro e w1 ⟨v, rfl, hown, hb1⟩
      have z0 := (bx.below hb1).at_ 0
      have z1 := (bx.below hb1).at_ 1
      simp only [List.getElem?_toArray] at z0 z1
      go_wp2_with fail
      obtain ⟨wo, rfl⟩ : ∃ wo : World, wo = wr := ⟨_, rfl⟩
      go_loopw [6, 27] (fun v i wx => OAt wo n m F G i v wx ∧ Below wo.heap.size wo wx) (fun _ i _ => 2 - (Go.RowKit.intOf i).toNat)
      case atStart => exact ⟨.inl ⟨rfl, hown⟩, hb1⟩
      case round =>
        clear z0 z1
        obtain ⟨ho, hB⟩ := hrel
        have z0 := (bx.below hB).at_ 0
        have z1 := (bx.below hB).at_ 1
        simp only [List.getElem?_toArray] at z0 z1
        have hF := HF.out.below hB
        have hG := HG.out.below hB
        have hs := hB.size
        rcases ho with ⟨rfl, ho⟩ | ⟨rfl, ho⟩ | ⟨rfl, ho⟩
        · obtain ⟨A', c', rfl, -, -⟩ := ho.form
          go_wp2_with (at_builtin; refine wpList_append_ints _ rfl (.tmp 31) (.tmp 32) rfl wo.heap.size 0 (.slice A' 0 c') 0 (fun _ => 0) rfl ho A n c F rfl hF (by omega) hs ?_; intro v' w' h1 hb2)
          go_roundw
          case rel => exact ⟨.inr (.inl ⟨rfl, by rw [Nat.zero_add] at h1; exact h1.congr fun j _ => by simp [catF]⟩), hB.trans hb2⟩
          case measure => simp [Go.RowKit.intOf]
        · obtain ⟨A', c', rfl, -, -⟩ := ho.form
          go_wp2_with (at_builtin; refine wpList_append_ints _ rfl (.tmp 31) (.tmp 32) rfl wo.heap.size 0 (.slice A' n c') n F rfl ho C m d G rfl hG (by omega) hs ?_; intro v' w' h1 hb2)
          go_roundw
          case rel => exact ⟨.inr (.inr ⟨rfl, h1⟩), hB.trans hb2⟩
          case measure => simp [Go.RowKit.intOf]
        · go_wp2_with fail
          go_ret
          exact ⟨_, rfl, ho.gave hB⟩
end Go.Proofs.YtcdplfjegopmdaaGreat.K
/- Eb of chapter 02, in a namespace of its own. -/
namespace Go.Proofs.YtcdplfjegopmdaaGreat.K
open Go.RowKit
set_option maxHeartbeats 400000 in
theorem countedError_any (n m : Nat) (w : World) (hn : n ≤ 100000) (hm : m ≤ 100000) :
    Calls Tryz.prog 86 #[.int .i64 (n : Int), .int .i64 (m : Int)] w fun e w' => e = .returned (.int .i64 (firstE [unI (decide (0 < n)) 10, unI (decide (n ≤ m)) 8])) ∧ Below w.heap.size w w' := by
  go_enter Tryz.func86, Tryz.ntmps86
  go_wp2_with (go_at_call 49; refine (unless_any _ _ _).mono ?_; rintro e w' ⟨rfl, rfl⟩)
  refine (firstError_laid [unI (decide (0 < n)) 10, unI (decide (n ≤ m)) 8] 2 _ _ rfl (by decide)).mono ?_
  rintro e w' ⟨rfl, rfl⟩
  go_wp2_with fail
  go_ret
  exact ⟨rfl, by (repeat (first | (with_reducible exact Below.refl _ _) | (with_reducible refine Go.below_drewN ?_ _) | (with_reducible refine Below.drew ?_) | (with_reducible refine Below.alloc ?_ (by first | exact Nat.le_refl _ | (simp; done) | (simp; omega) | omega) _) | (with_reducible refine Below.setCell ?_ (by first | exact Nat.le_refl _ | (simp; done) | (simp; omega) | omega) _)))⟩
end Go.Proofs.YtcdplfjegopmdaaGreat.K
/- Ee of chapter 02, in a namespace of its own. -/
namespace Go.Proofs.YtcdplfjegopmdaaGreat.K
open Go.RowKit
set_option maxHeartbeats 1000000 in
theorem areWithin1_any (x m : Int) (b : Nat) (w : World) (hm : w.cell? ⟨b, 0, none⟩ = some (.int .i64 m)) (h0 : 0 ≤ m) (h1 : m ≤ 1000000000000) :
    Calls Tryz.prog 123 #[.int .i64 x, .pointer (some ⟨b, 0, none⟩)] w fun e w' => e = .returned (.bool (!withinB x (-m) m)) ∧ ∃ q, w' = w.drewN q := by
  go_enter Tryz.func123, Tryz.ntmps123
  go_wp2_with (go_at_call 88; refine (isWithin_any _ _ _ _).mono ?_; rintro e w' ⟨rfl, rfl⟩)
  go_ret
  exact ⟨rfl, 0, rfl⟩
set_option maxHeartbeats 1000000 in
theorem areWithin_any (A : Option Addr) (n c : Nat) (F : Nat → Int) (m : Int) (w : World) (hn : n ≤ 100000) (hI : IntsAt w 0 A n F) (h0 : 0 ≤ m) (h1 : m ≤ 1000000000000) :
    Calls Tryz.prog 109 #[.slice A n c, .int .i64 m] w fun e w' => e = .returned (.bool (!anyN n fun j => !withinB (F j) (-m) m)) ∧ Below w.heap.size w w' := by
  have HX := hide (containsFunc_any 123 #[.pointer (some ⟨w.heap.size, 0, none⟩)] (enters_of Tryz.func123 (by kernel_rfl) rfl) (fun x => !withinB x (-m) m) A n c F (w.alloc (.cells #[.int .i64 m] 3)) hn (hI.alloc _)
    (fun x W hW => areWithin1_any x m w.heap.size W (((Box.made rfl : Box (w.alloc (.cells #[.int .i64 m] 3)) w.heap.size 3 #[.int .i64 m]).below hW).at_ 0) h0 h1))
  clear hI
  go_enter Tryz.func109, Tryz.ntmps109
  go_wp2_with (go_at_call 113; refine HX.out.mono ?_; rintro e w' ⟨rfl, q, rfl⟩)
  go_ret
  exact ⟨rfl, by (repeat (first | (with_reducible exact Below.refl _ _) | (with_reducible refine Go.below_drewN ?_ _) | (with_reducible refine Below.drew ?_) | (with_reducible refine Below.alloc ?_ (by first | exact Nat.le_refl _ | (simp; done) | (simp; omega) | omega) _) | (with_reducible refine Below.setCell ?_ (by first | exact Nat.le_refl _ | (simp; done) | (simp; omega) | omega) _)))⟩
end Go.Proofs.YtcdplfjegopmdaaGreat.K
/- Ef of chapter 02, in a namespace of its own. -/
namespace Go.Proofs.YtcdplfjegopmdaaGreat.K
open Go.RowKit
theorem below_of_alloc {w w1 : World} {o : Obj} (h : Below (w.alloc o).heap.size (w.alloc o) w1) : Below w.heap.size w w1 := ((Below.refl _ _).alloc (Nat.le_refl _) o).trans (h.mono (by simp))
set_option maxHeartbeats 1000000 in
theorem bitsError_any (A : Option Addr) (n c : Nat) (F : Nat → Int) (w : World) (hn : n ≤ 100000) (hI : IntsAt w 0 A n F) :
    Calls Tryz.prog 48 #[.slice A n c] w fun e w' => e = .returned (.int .i64 (firstE [firstE [unI (decide (0 < n)) 10, unI (decide (n ≤ 200)) 8], unI (bitsB n F) 15])) ∧ Below w.heap.size w w' := by
  have HI := hide hI
  clear hI
  go_enter Tryz.func48, Tryz.ntmps48
  go_wp2_with fail
  refine (countedError_any n 200 _ hn (by omega)).mono ?_
  rintro e w1 ⟨rfl, hb1⟩
  go_wp2_with fail
  refine (areBits_any A n c F _ hn (HI.out.below hb1)).mono ?_
  rintro e w2 ⟨rfl, q, rfl⟩
  go_wp2_with (go_at_call 49; refine (unless_any _ _ _).mono ?_; rintro e w' ⟨rfl, rfl⟩)
  refine (firstError_laid [firstE [unI (decide (0 < n)) 10, unI (decide (n ≤ 200)) 8], unI (bitsB n F) 15] 2 _ _ rfl (by decide)).mono ?_
  rintro e w' ⟨rfl, rfl⟩
  go_wp2_with fail
  go_ret
  have s1 := hb1.size
  exact ⟨rfl, by (repeat (first | (with_reducible exact Below.refl _ _) | (with_reducible refine Go.below_drewN ?_ _) | (with_reducible refine Below.drew ?_) | (with_reducible refine Below.alloc ?_ (by first | exact Nat.le_refl _ | (simp; done) | (simp; omega) | omega) _) | (with_reducible refine Below.trans ?_ (Below.mono hb1 (by first | exact Nat.le_refl _ | (simp; done) | (simp; omega) | omega))) | (with_reducible refine Below.setCell ?_ (by first | exact Nat.le_refl _ | (simp; done) | (simp; omega) | omega) _)))⟩
set_option maxHeartbeats 1000000 in
theorem softError_any (A : Option Addr) (n c : Nat) (F : Nat → Int) (w : World) (hn : n ≤ 100000) (hI : IntsAt w 0 A n F) :
    Calls Tryz.prog 72 #[.slice A n c] w fun e w' => e = .returned (.int .i64 (firstE [firstE [unI (decide (0 < n)) 10, unI (decide (n ≤ 400)) 8], unI (!anyN n fun j => !withinB (F j) (-1000000) 1000000) 2])) ∧ Below w.heap.size w w' := by
  have HI := hide hI
  clear hI
  go_enter Tryz.func72, Tryz.ntmps72
  go_wp2_with fail
  refine (countedError_any n 400 _ hn (by omega)).mono ?_
  rintro e w1 ⟨rfl, hb1⟩
  go_wp2_with fail
  refine (areWithin_any A n c F 1000000 _ hn (HI.out.below hb1) (by omega) (by omega)).mono ?_
  rintro e w2 ⟨rfl, hb2⟩
  go_wp2_with (go_at_call 49; refine (unless_any _ _ _).mono ?_; rintro e w' ⟨rfl, rfl⟩)
  refine (firstError_laid [firstE [unI (decide (0 < n)) 10, unI (decide (n ≤ 400)) 8], unI (!anyN n fun j => !withinB (F j) (-1000000) 1000000) 2] 2 _ _ rfl (by decide)).mono ?_
  rintro e w' ⟨rfl, rfl⟩
  go_wp2_with fail
  go_ret
  have s1 := hb1.size
  have s2 := hb2.size
  exact ⟨rfl, by (repeat (first | (with_reducible exact Below.refl _ _) | (with_reducible refine Go.below_drewN ?_ _) | (with_reducible refine Below.drew ?_) | (with_reducible refine Below.alloc ?_ (by first | exact Nat.le_refl _ | (simp; done) | (simp; omega) | omega) _) | (with_reducible refine Below.trans ?_ (Below.mono hb2 (by first | exact Nat.le_refl _ | (simp; done) | (simp; omega) | omega))) | (with_reducible refine Below.trans ?_ (Below.mono hb1 (by first | exact Nat.le_refl _ | (simp; done) | (simp; omega) | omega))) | (with_reducible refine Below.setCell ?_ (by first | exact Nat.le_refl _ | (simp; done) | (simp; omega) | omega) _)))⟩
end Go.Proofs.YtcdplfjegopmdaaGreat.K
/- exploring: CheckPolar -/
namespace Go.Proofs.YtcdplfjegopmdaaGreat
open Go.RowKit
/-- A right polar code: n positions F, ascending, below 2 to the power p. -/
structure PolarOk (p n : Nat) (F : Nat → Int) : Prop where
  power : p ≤ 6
  some_ : 0 < n
  range : ∀ k, k < n → 0 ≤ F k ∧ F k ≤ 2 ^ p - 1
  order : ∀ k, k + 1 < n → F k < F (k + 1)
def beforeI (F : Nat → Int) : Nat → Int
  | 0 => -1
  | k + 1 => F k
end Go.Proofs.YtcdplfjegopmdaaGreat
/- Ed of chapter 02, in a namespace of its own. -/
namespace Go.Proofs.YtcdplfjegopmdaaGreat.K
open Go.RowKit
theorem intInfo' : (Tryz.prog.info? 3).map (fun i => (i.zero, i.size, i.bytes)) = some (some (.int .i64 0), 1, 8) := by kernel_rfl
set_option maxHeartbeats 1000000 in
theorem wordOf_any (A : Option Addr) (n c : Nat) (U : Nat → Int) (w : World) (hn : n ≤ 1000) (hU : IntsAt w 0 A n U) (hb : ∀ k, k < n → IsBit (U k)) :
    Calls Tryz.prog 89 #[.slice A n c] w fun e w' => ∃ v, e = .returned v ∧ GaveInts w n (wordF n U) v w' := by
  obtain ⟨i0, hi, hz0, hz1, hz2⟩ := info_parts intInfo'
  have hmk := fun W => run_make_row (P := Tryz.prog) 24 3 i0 (.int .i64 0) Tryz.underlying24 hi hz0 hz1 rfl .i64 .i64 n (by rw [hz2]; omega) (by omega) W
  have HU := hide hU
  have HB := hide hb
  clear hU hb hi hz0 hz1 hz2
  go_enter Tryz.func89, Tryz.ntmps89
  go_wp2_with fail
  clear hmk
  go_loopw [12] (fun i wr => ∃ k : Nat, k ≤ n ∧ i = .int .i64 k ∧ wr.rowIs w.heap.size 3 n (fun x => .int .i64 (if x < k then wordF n U x else 0)) ∧ Below w.heap.size w wr) (fun i _ => n - (Go.RowKit.intOf i).toNat)
  case atStart =>
    exact ⟨0, Nat.zero_le _, rfl, (World.rowIs_made w (.int .i64 0) n 3).congr (fun j _ => by simp), (Below.refl _ _).alloc (Nat.le_refl _) _⟩
  case round =>
    obtain ⟨k, hk, rfl, hR, hBl⟩ := hrel
    by_cases hlt : k < n
    · have hltz : (k : Int) < (n : Int) := by omega
      go_wp2_with fail
      obtain ⟨wo, hwo⟩ : ∃ wo : World, wo = wr := ⟨_, rfl⟩
      clear hwo
      go_loopw [17] (fun i wr => ∃ m : Nat, m ≤ n ∧ i = .int .i64 m ∧ wr.rowIs w.heap.size 3 n (fun x => .int .i64 (if x = k then wsum U k m else if x < k then wordF n U x else 0)) ∧ Below w.heap.size w wr) (fun i _ => n - (Go.RowKit.intOf i).toNat)
      case atStart => exact ⟨0, Nat.zero_le _, rfl, hR.congr (fun j _ => by by_cases e : j = k <;> simp [e, wsum]), hBl⟩
      case round =>
        obtain ⟨m, hm, rfl, hS, hBm⟩ := hrel
        by_cases hlm : m < n
        · have hltm : (m : Int) < (n : Int) := by omega
          have hI := HU.out.below (by exact hBm)
          obtain ⟨b, o, rfl, -, hb, hcell⟩ := hI m hlm
          have hc := hS.cell hlt
          have hf := hS.frozen k
          have hand := andI m k (by omega) (by omega)
          by_cases hmk : m &&& k = k
          · have e1 : (m &&& k == k) = true := by simpa using hmk
            have HW := hide (show wsum U k (m + 1) = bits .xor .i64 (wsum U k m) (U m) from by rw [wsum, if_pos hmk, xor1_bits (wsum_bit U k m) (HB.out m hlm)])
            clear hmk
            go_wp2_with fail
            go_roundw
            case rel =>
              exact ⟨m + 1, by omega, by go_num, (hS.set k _).congr (fun x _ => by
                by_cases e : x = k
                · rw [if_pos e, if_pos e, HW.out]
                · rw [if_neg e, if_neg e, if_neg e]), hBm.setCell (by exact Nat.le_refl _) _⟩
            case measure => simp [Go.RowKit.intOf]; omega
          · have e1 : (m &&& k == k) = false := by simpa using hmk
            have HW := hide (show wsum U k (m + 1) = wsum U k m from by rw [wsum, if_neg hmk])
            clear hmk
            go_wp2_with fail
            go_roundw
            case rel =>
              exact ⟨m + 1, by omega, by go_num, hS.congr (fun x _ => by rw [HW.out]), hBm⟩
            case measure => simp [Go.RowKit.intOf]; omega
        · obtain rfl : m = n := by omega
          go_wp2_with fail
          go_roundw
          case rel =>
            exact ⟨k + 1, by omega, by go_num, hS.congr (fun x _ => by
              by_cases e : x = k
              · subst e
                rw [if_pos rfl, if_pos (Nat.lt_succ_self _)]; rfl
              · rw [if_neg e]
                by_cases e2 : x < k
                · rw [if_pos e2, if_pos (by omega)]
                · rw [if_neg e2, if_neg (by omega)]), hBm⟩
          case measure => simp [Go.RowKit.intOf]; omega
    · obtain rfl : k = n := by omega
      go_wp2_with fail
      go_ret
      exact ⟨_, rfl, GaveInts.of_row (hR.congr (fun j hj => by rw [if_pos hj])) (Nat.le_refl _) hBl⟩
end Go.Proofs.YtcdplfjegopmdaaGreat.K
/- Eh of chapter 02, in a namespace of its own. -/
namespace Go.Proofs.YtcdplfjegopmdaaGreat.K
open Go.RowKit
set_option maxHeartbeats 1000000 in
theorem checkPolar_ok (p : Nat) (A : Option Addr) (n c : Nat) (F : Nat → Int) (w : World) (hok : PolarOk p n F) (hn : n ≤ 1000) (hI : IntsAt w 0 A n F) :
    Calls Tryz.prog 81 #[.agg #[.int .i64 (p : Int), .slice A n c]] w fun e w' => e = .returned (.int .i64 0) ∧ Below w.heap.size w w' := by
  obtain ⟨h1, h2, h3, h4⟩ := hok
  obtain ⟨p1, p2⟩ := pow2_le p (by omega)
  have HI := hide hI
  have H3 := hide h3
  have H4 := hide h4
  have hne : ((n : Int) == 0) = false := by simp; omega
  clear hI h3 h4
  go_enter Tryz.func81, Tryz.ntmps81
  go_wp2_with fail
  refine (isWithin_any _ _ _ _).mono ?_; rintro e w' ⟨rfl, rfl⟩
  rw [withinB_yes (by omega)]
  go_wp2_with fail
  go_loopw [3, 17] (fun r i wr => ∃ k : Nat, k ≤ n ∧ i = .int .i64 k ∧ r = .int .i64 (beforeI F k) ∧ Box wr w.heap.size 26 #[.int .i64 (p : Int), .slice A n c] ∧ Below w.heap.size w wr) (fun _ i _ => n - (Go.RowKit.intOf i).toNat)
  case atStart => exact ⟨0, Nat.zero_le _, rfl, rfl, Box.made rfl, (Below.refl _ _).alloc (Nat.le_refl _) _⟩
  case round =>
    obtain ⟨k, hk, rfl, rfl, bx, hB⟩ := hrel
    have x0 := bx.at_ 0
    simp only [List.getElem?_toArray] at x0
    by_cases hlt : k < n
    · have hltz : (k : Int) < (n : Int) := by omega
      have hI := HI.out.below hB
      obtain ⟨b, o, rfl, -, hb, hcell⟩ := hI k hlt
      obtain ⟨f1, f2⟩ := H3.out k hlt
      have HW := hide (withinB_yes (H3.out k hlt))
      have hbf : beforeI F k < F k ∧ -1 ≤ beforeI F k := by
        cases k with
        | zero => exact ⟨by show -1 < F 0; omega, Int.le_refl _⟩
        | succ j => exact ⟨H4.out j hlt, by have := H3.out j (by omega); show -1 ≤ F j; omega⟩
      obtain ⟨g1, g2⟩ := hbf
      have HF := hide (show beforeI F (k + 1) = F k from rfl)
      generalize F k = f at *
      generalize beforeI F k = g at *
      go_wp2_with fail
      refine (isWithin_any _ _ _ _).mono ?_; rintro e w' ⟨rfl, rfl⟩
      rw [HW.out]
      go_wp2_with fail
      go_roundw
      case rel => exact ⟨k + 1, by omega, by go_num, by rw [HF.out], bx, hB⟩
      case measure => simp [Go.RowKit.intOf]; omega
    · obtain rfl : k = n := by omega
      go_wp2_with fail
      go_ret
      exact ⟨rfl, hB⟩
end Go.Proofs.YtcdplfjegopmdaaGreat.K
/- Ei of chapter 02, in a namespace of its own. -/
namespace Go.Proofs.YtcdplfjegopmdaaGreat.K
open Go.RowKit
/-- What stands at the position x of a polar code. -/
def posF (F B : Nat → Int) (x : Nat) : Nat → Int
  | 0 => 0
  | k + 1 => if F k = x then B k else posF F B x k
theorem posF_bit {F B : Nat → Int} : ∀ {n : Nat}, (∀ k, k < n → IsBit (B k)) → ∀ x, IsBit (posF F B x n)
  | 0, _, _ => .inl rfl
  | n + 1, h, x => by
    unfold posF
    split
    · exact h n (Nat.lt_succ_self _)
    · exact posF_bit (fun k hk => h k (by omega)) x
set_option maxHeartbeats 1000000 in
theorem encoded_any (p : Nat) (A C : Option Addr) (n c d : Nat) (F B : Nat → Int) (w : World) (hok : PolarOk p n F) (hn : n ≤ 1000) (hI : IntsAt w 0 A n F) (hJ : IntsAt w 0 C n B) (hb : ∀ k, k < n → IsBit (B k)) :
    Calls Tryz.prog 51 #[.agg #[.int .i64 (p : Int), .slice A n c], .slice C n d] w fun e w' => ∃ v, e = .returned v ∧ GaveInts w (2 ^ p) (wordF (2 ^ p) fun x => posF F B x n) v w' := by
  obtain ⟨h1, h2, h3, h4⟩ := hok
  obtain ⟨p1, p2⟩ : 1 ≤ (2 : Int) ^ p ∧ (2 : Int) ^ p ≤ 64 := by
    have h1 : 2 ^ p ≤ 2 ^ 6 := Nat.pow_le_pow_right (by decide) h1
    have h0 : 0 < 2 ^ p := Nat.two_pow_pos p
    have e : ((2 ^ p : Nat) : Int) = (2 : Int) ^ p := by simp
    omega
  obtain ⟨N, hN⟩ : ∃ N, N = 2 ^ p := ⟨_, rfl⟩
  have eN : (2 : Int) ^ p = (N : Int) := by rw [hN]; simp
  rw [← hN]
  rw [eN] at p1 p2
  have h3' : ∀ k, k < n → 0 ≤ F k ∧ F k < N := fun k hk => by have := h3 k hk; rw [eN] at this; omega
  obtain ⟨i0, hi, hz0, hz1, hz2⟩ := info_parts intInfo
  have hmk := fun W => run_make_row (P := Tryz.prog) 24 3 i0 (.int .i64 0) Tryz.underlying24 hi hz0 hz1 rfl .i64 .i64 N (by rw [hz2]; omega) (by omega) W
  have HI := hide hI
  have HJ := hide hJ
  have H3 := hide h3'
  have HB := hide hb
  clear hI hJ h3 h3' h4 hi hz0 hz1 hz2 hN hb
  go_enter Tryz.func51, Tryz.ntmps51
  go_wp2_with fail
  clear hmk
  go_loopw [15] (fun i wr => ∃ k : Nat, k ≤ n ∧ i = .int .i64 k ∧ wr.rowIs (w.heap.size + 1) 3 N (fun x => .int .i64 (posF F B x k)) ∧ Below w.heap.size w wr) (fun i _ => n - (Go.RowKit.intOf i).toNat)
  case atStart =>
    refine ⟨0, Nat.zero_le _, rfl, ?_, by (repeat (first | (with_reducible exact Below.refl _ _) | (with_reducible refine Go.below_drewN ?_ _) | (with_reducible refine Below.drew ?_) | (with_reducible refine Below.alloc ?_ (by first | exact Nat.le_refl _ | (simp; done) | (simp; omega) | omega) _) | (with_reducible refine Below.setCell ?_ (by first | exact Nat.le_refl _ | (simp; done) | (simp; omega) | omega) _)))⟩
    have := World.rowIs_made (w.alloc (.cells #[.int .i64 (p : Int), .slice A n c] 26)) (.int .i64 0) N 3
    simp only [World.size_alloc] at this
    exact this.congr (fun _ _ => rfl)
  case round =>
    obtain ⟨k, hk, rfl, hR, hBl⟩ := hrel
    by_cases hlt : k < n
    · have hltz : (k : Int) < (n : Int) := by omega
      have hI := HI.out.below hBl
      have hJ := HJ.out.below hBl
      obtain ⟨b, o, rfl, -, hb, hcell⟩ := hI k hlt
      obtain ⟨b', o', rfl, -, hb', hcell'⟩ := hJ k hlt
      obtain ⟨f0, f1⟩ := H3.out k hlt
      obtain ⟨f, hf⟩ := Int.eq_ofNat_of_zero_le f0
      have HF := hide hf
      rw [hf] at hcell f0 f1
      clear hf
      have hc := hR.cell (i := f) (by omega)
      have hfz := hR.frozen f
      go_wp2_with fail
      go_roundw
      case rel =>
        exact ⟨k + 1, by omega, by go_num, (hR.set f _).congr (fun x _ => by
          show (if x = f then Value.int .i64 (B k) else _) = Value.int .i64 (if F k = x then B k else posF F B x k)
          by_cases e : x = f
          · rw [if_pos e, if_pos (by rw [HF.out, e])]
          · rw [if_neg e, if_neg (by rw [HF.out]; omega)]), hBl.setCell (by simp) _⟩
      case measure => simp [Go.RowKit.intOf]; omega
    · obtain rfl : k = n := by omega
      go_wp2_with fail
      refine (wordOf_any _ N N (fun x => posF F B x k) _ (by omega) (IntsAt.of_row hR (Nat.zero_le _)) (fun x _ => posF_bit HB.out x)).mono ?_
      rintro e w1 ⟨v, rfl, A', c', rfl, hc', hI', hb'⟩
      go_wp2_with fail
      go_ret
      exact ⟨_, rfl, A', c', rfl, hc', hI'.weak hBl.size, hBl.trans (hb'.mono hBl.size)⟩
end Go.Proofs.YtcdplfjegopmdaaGreat.K
/- Ec of chapter 02, in a namespace of its own. -/
namespace Go.Proofs.YtcdplfjegopmdaaGreat.K
open Go.RowKit
theorem sizeI_neg {a : Int} (h : a < 0) : sizeI a = -a := by unfold sizeI; omega
theorem sizeI_pos {a : Int} (h : 0 ≤ a) : sizeI a = a := by unfold sizeI; omega
set_option maxHeartbeats 1000000 in
theorem lesser_any (a b : Int) (w : World) (ha : -1000000000000 ≤ a ∧ a ≤ 1000000000000) (hb : -1000000000000 ≤ b ∧ b ≤ 1000000000000) :
    Calls Tryz.prog 124 #[.int .i64 a, .int .i64 b] w fun e w' => e = .returned (.int .i64 (lesserI a b)) ∧ w = w' := by
  obtain ⟨a0, a1⟩ := ha
  obtain ⟨b0, b1⟩ := hb
  by_cases h1 : a < 0
  · have d1 : decide (a < 0) = true := by simpa using h1
    by_cases h2 : b < 0
    · have d2 : decide (b < 0) = true := by simpa using h2
      have E := hide (show lesserI a b = min (-a) (-b) from by rw [lesserI, if_pos (by simp [h1, h2]), sizeI_neg h1, sizeI_neg h2])
      go_enter Tryz.func124, Tryz.ntmps124
      go_wp2
      all_goals
        go_ret
        exact ⟨ret_int (by rw [E.out, Int.min_def]; split <;> omega), rfl⟩
    · have E := hide (show lesserI a b = -min (-a) b from by rw [lesserI, if_neg (by simp [h1, h2]), sizeI_neg h1, sizeI_pos (by omega)])
      have h2' : 0 ≤ b := by omega
      have d2 : decide (b < 0) = false := by simpa using h2'
      clear h2
      go_enter Tryz.func124, Tryz.ntmps124
      go_wp2
      all_goals
        go_ret
        exact ⟨ret_int (by rw [E.out, Int.min_def]; split <;> omega), rfl⟩
  · have h1' : 0 ≤ a := by omega
    have d1 : decide (a < 0) = false := by simpa using h1
    by_cases h2 : b < 0
    · have d2 : decide (b < 0) = true := by simpa using h2
      have E := hide (show lesserI a b = -min a (-b) from by rw [lesserI, if_neg (by simp [h1, h2]), sizeI_pos h1', sizeI_neg h2])
      clear h1
      go_enter Tryz.func124, Tryz.ntmps124
      go_wp2
      all_goals
        go_ret
        exact ⟨ret_int (by rw [E.out, Int.min_def]; split <;> omega), rfl⟩
    · have E := hide (show lesserI a b = min a b from by rw [lesserI, if_pos (by simp [h1, h2]), sizeI_pos h1', sizeI_pos (by omega)])
      have h2' : 0 ≤ b := by omega
      have d2 : decide (b < 0) = false := by simpa using h2'
      clear h1 h2
      go_enter Tryz.func124, Tryz.ntmps124
      go_wp2
      all_goals
        go_ret
        exact ⟨ret_int (by rw [E.out, Int.min_def]; split <;> omega), rfl⟩
end Go.Proofs.YtcdplfjegopmdaaGreat.K
