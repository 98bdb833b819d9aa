/- CodeCatches: the walk. -/
import Derived.Test.YtdimjagmecnldaaHd
import Derived.Test.YtdimjagmecnldaaHe
import Derived.Test.YtdimjagmecnldaaFc
import Derived.BigQuiet
namespace Go.Proofs.Ytdimjagmecnldaa
open Go.RowKit Go.Shelf
theorem IsRight_ok (d t : Nat) (A : Option Addr) (n c : Nat) (F : Nat → Int) (w : World) (hd : d ≤ 16) (hn : n ≤ 1000) (hnc : n + d ≤ c) (hc : c ≤ 9223372036854775807) (R : Bool) (he : rightErr (d : Int) (t : Int) (n + d) F = 0) (hr : intsB d (remB d t n F) d (fun j => F (n + j)) = R) (hI : IntsAt w 0 A (n + d) F) :
    Calls Try.prog 20 #[.agg #[.int .i64 (d : Int), .int .i64 (t : Int)], .slice A (n + d) c] w fun e w' => e = .returned (.tuple #[.bool R, .int .i64 0]) ∧ Below w.heap.size w w' :=
  (IsRight_any (d : Int) (t : Int) A (n + d) c F w (by omega) hnc hc (by omega) hI).mono fun e w' h => by
    obtain ⟨h1, h2⟩ := h
    rw [he, Int.toNat_natCast, Int.toNat_natCast, Nat.add_sub_cancel, hr] at h1
    exact ⟨h1, h2⟩
/-- A word with a pattern's first i bits changed from the place a on. -/
def burstF (G : Nat → Int) (a x d i k : Nat) : Int := if a ≤ k ∧ k < a + i then (G k + bitsOfF x d (k - a)) % 2 else G k
theorem burstF_succ (G : Nat → Int) (a x d k j : Nat) : burstF G a x d (k + 1) j = setF (burstF G a x d k) (a + k) ((G (a + k) + bitsOfF x d k) % 2) j := by
  show (if a ≤ j ∧ j < a + (k + 1) then (G j + bitsOfF x d (j - a)) % 2 else G j) = if j = a + k then ((G (a + k) + bitsOfF x d k) % 2) else if a ≤ j ∧ j < a + k then (G j + bitsOfF x d (j - a)) % 2 else G j
  by_cases e : j = a + k
  · subst e
    rw [if_pos (by omega), if_pos rfl, Nat.add_sub_cancel_left]
  · rw [if_neg e]
    by_cases e2 : a ≤ j ∧ j < a + k
    · rw [if_pos e2, if_pos (by omega)]
    · rw [if_neg e2, if_neg (by omega)]
theorem burstF_bit {G : Nat → Int} (h : ∀ k, IsBit (G k)) (a x d i k : Nat) : IsBit (burstF G a x d i k) := by
  unfold burstF
  split
  · unfold IsBit; omega
  · exact h k
theorem rightErr_zero {d t n : Nat} {G : Nat → Int} (hp : polyErrI (d : Int) (t : Int) = 0) (hn : n + d ≤ 200) (h0 : 0 < n) (hb : ∀ k, IsBit (G k)) : rightErr (d : Int) (t : Int) (n + d) G = 0 := by
  unfold rightErr polyBitsErr
  rw [if_pos hp, if_pos, if_pos (by omega)]
  unfold bitsErrR
  rw [if_neg (by omega), if_neg (by omega), if_pos (bitsB_iff.2 fun k _ => hb k)]
/-- The changed word is not right. -/
theorem burst_wrong {d t n a x : Nat} {G : Nat → Int} (h0 : 1 ≤ d) (ht : t < 2 ^ d) (todd : t % 2 = 1) (hG : ∀ k, IsBit (G k)) (ha : a ≤ n) (hx : 1 ≤ x ∧ x < 2 ^ d) (hr : ∀ j, j < d → G (n + j) = remB d t n G j) :
    intsB d (remB d t n (burstF G a x d d)) d (fun j => burstF G a x d d (n + j)) = false := by
  rw [← Bool.not_eq_true, intsB_iff]
  intro h
  obtain ⟨j, hj, e⟩ := pat_some hx.1 hx.2
  refine burst_caught h0 ht todd hG (fun k => burstF_bit hG a x d d k) ha (fun k hk => ?_) (fun k hk _ => ?_) ⟨a + j, by omega, by omega, ?_⟩ hr fun j hj => (h.2 j hj).symm
  · unfold burstF; rw [if_neg (by omega)]
  · unfold burstF; rw [if_neg (by omega)]
  · unfold burstF
    rw [if_pos (by omega), Nat.add_sub_cancel_left, e]
    have := (hG (a + j)).le
    omega
set_option maxHeartbeats 4000000 in
set_option maxRecDepth 100000 in
theorem codeCatches_walk (d t : Int) (A : Option Addr) (n c : Nat) (F : Nat → Int) (b0 b1 : Int) (w : World) (hn : n ≤ 9223372036854775807) (hI : IntsAt w 0 A n F) :
    Calls Try.prog 4 #[.agg #[.int .i64 d, .int .i64 t], .slice A n c, .agg #[.int .i64 b0, .int .i64 b1]] w fun r w' => r = .returned (.bool true) ∧ Below w.heap.size w w' := by
  have HI := hide hI
  clear hI
  go_enter Try.func4, Try.ntmps4
  go_wp2_with fail
  refine (awake_any _).mono ?_
  rintro r w1 ⟨rfl, hb1⟩
  have bx1 : Box w1 w.heap.size 35 #[.int .i64 d, .int .i64 t] := ((Box.made rfl).alloc _).below hb1
  have bz1 : Box w1 (w.heap.size + 1) 36 #[.int .i64 b0, .int .i64 b1] := (Box.made (by simp)).below hb1
  have hB1 : Below w.heap.size w w1 := Below.trans (by (repeat (first | (with_reducible exact Below.refl _ _) | (with_reducible refine below_drewN ?_ _) | (with_reducible refine Below.drew ?_) | (with_reducible refine Below.alloc ?_ (by first | exact Nat.le_refl _ | (simp; done) | (simp; omega) | omega) _) | (with_reducible refine Below.setCell ?_ (by first | exact Nat.le_refl _ | (simp; done) | (simp; omega) | omega) _)))) (hb1.mono (by simp; omega))
  have x0 : w1.cell? ⟨w.heap.size, 0, none⟩ = some (.int .i64 d) := bx1.at_ 0
  have x1 : w1.cell? ⟨w.heap.size, 1, none⟩ = some (.int .i64 t) := bx1.at_ 1
  have hlt1 := bx1.lt
  have hltz1 := bz1.lt
  clear hb1
  go_wp2_with fail
  refine (checkPolyR_any d t _).mono ?_
  rintro r w2 ⟨rfl, hb2⟩
  have bx2 := bx1.below hb2
  have bz2 := bz1.below hb2
  have hB2 := hB1.trans (hb2.mono hB1.size)
  clear x0 x1 hlt1 hb2 hB1 bx1 bz1 hltz1
  by_cases hp : polyErrI d t = 0
  · rw [hp]
    by_cases h40 : n ≤ 40
    · have t40 : decide ((40 : Int) < (n : Int)) = false := by simp; omega
      go_wp2_with fail
      refine (bitsErrR_any A n c F _ hn (HI.out.below hB2)).mono ?_
      rintro r w3 ⟨rfl, q3, rfl⟩
      by_cases hbz : bitsErrR n F = 0
      · have hpb : polyBitsErr d t n F = 0 := by unfold polyBitsErr; rw [if_pos hp]; exact hbz
        have HPB := hide hpb
        have HP := hide hp
        obtain ⟨d, t, rfl, rfl, h0, h1, t1, t2, n0, n1, hb⟩ := polyBitsErr_zero hpb
        rw [hbz]
        have HB := hide hb
        clear hb hpb hbz hp
        have bx3 := bx2.drewN q3
        have bz3 := bz2.drewN q3
        have hB3 := below_drewN hB2 q3
        clear bx2 bz2 hB2
        generalize w2.drewN q3 = W at *
        have x0 : W.cell? ⟨w.heap.size, 0, none⟩ = some (.int .i64 (d : Int)) := bx3.at_ 0
        have x1 : W.cell? ⟨w.heap.size, 1, none⟩ = some (.int .i64 (t : Int)) := bx3.at_ 1
        have hlt3 := bx3.lt
        have hltz3 := bz3.lt
        go_wp2_with fail
        have SOF := hide (fun W' (h : Below W.heap.size W W') => (⟨(h.cell (p := ⟨w.heap.size, 0, none⟩) hlt3).trans x0, (h.cell (p := ⟨w.heap.size, 1, none⟩) hlt3).trans x1, h⟩ :
          W'.cell? ⟨w.heap.size, 0, none⟩ = some (.int .i64 (d : Int)) ∧ W'.cell? ⟨w.heap.size, 1, none⟩ = some (.int .i64 (t : Int)) ∧ Below W.heap.size W W'))
        have KI := hide (fun W' (h : W'.cell? ⟨w.heap.size, 0, none⟩ = some (.int .i64 (d : Int)) ∧ W'.cell? ⟨w.heap.size, 1, none⟩ = some (.int .i64 (t : Int)) ∧ Below W.heap.size W W') => HI.out.below (hB3.trans (h.2.2.mono hB3.size)))
        have bb0 : Below W.heap.size W W := Below.refl _ _
        have HBB := hide hB3
        clear x0 x1 hB3
        go_region_held3 (fun w' => w'.cell? ⟨w.heap.size, 0, none⟩ = some (.int .i64 (d : Int)) ∧ w'.cell? ⟨w.heap.size, 1, none⟩ = some (.int .i64 (t : Int)) ∧ Below W.heap.size W w')
            (first | assumption | exact SOF.out _ (by assumption) | exact SOF.out _ bb0.drew | exact SOF.out _ (balloc' (by assumption) (Nat.le_refl _) _))
            (first
              | (go_at_call 11; refine (copyInts_own A n c F _ (by omega) (KI.out _ (by assumption))).mono ?_; rintro e w4 ⟨v4, rfl, hown4, hb4⟩; obtain ⟨A4, c4, rfl, hnc4, hI4⟩ := hown4.form; have hs4 : Below W.heap.size W w4 := bstep2 hb4 (by assumption) (Nat.le_refl _))
              | (go_at_call 19; refine (Checked_any (d : Int) (t : Int) A4 n c4 F _ (by omega) (hI4.weak (Nat.zero_le _))).mono ?_; rintro e w5 (⟨h, -, -⟩ | ⟨-, v5, rfl, A5, c5, rfl, hc5, hI5, hb5⟩); exact absurd HPB.out h; have hs5 : Below W.heap.size W w5 := bstep2 hb5 (by assumption) (Nat.le_refl _)))
        have bx5 := bx3.below hs5
        have bz5 := bz3.below hs5
        have hB5 : Below w.heap.size w w5 := HBB.out.trans (hs5.mono HBB.out.size)
        obtain ⟨G, hG⟩ : ∃ G, G = catF n F (remB d t n F) := ⟨_, rfl⟩
        rw [Int.toNat_natCast, Int.toNat_natCast] at hI5
        rw [← hG] at hI5
        have hGn : ∀ k, k < n → G k = F k := fun k hk => by rw [hG]; unfold catF; rw [if_pos hk]
        have hGd : ∀ j, G (n + j) = remB d t n F j := fun j => by rw [hG]; unfold catF; rw [if_neg (by omega), Nat.add_sub_cancel_left]
        have hGb : ∀ k, IsBit (G k) := fun k => by
          rw [hG]; unfold catF
          split
          · exact HB.out k (by assumption)
          · exact remB_bit _ _ _ _ _
        have HGn := hide hGn
        have HGd := hide hGd
        have HGb := hide hGb
        clear hG hGn hGd hGb SOF KI hs5 hs4 hb5 hb4 hown4 hI4 bb0
        have HI5 := hide hI5
        clear hI5
        go_wp2_with fail
        refine (ints_any A5 A n n c5 c G F _ (by omega) (by omega) ((HI5.out.fewer (by omega)).weak (Nat.zero_le _)) (HI.out.below hB5)).mono ?_
        rintro r w6 ⟨rfl, q6, rfl⟩
        rw [intsB_iff.2 ⟨rfl, HGn.out⟩]
        go_wp2_with fail
        refine (areBitsB_any A5 (n + d) c5 G _ (by omega) ((HI5.out.weak (Nat.zero_le _)).drewN q6)).mono ?_
        rintro r w7 ⟨rfl, q7, rfl⟩
        rw [bitsB_iff.2 (fun k _ => HGb.out k)]
        have bx7 := (bx5.drewN q6).drewN q7
        have bz7 := (bz5.drewN q6).drewN q7
        have hB7 := below_drewN (below_drewN hB5 q6) q7
        have hI7 := (HI5.out.drewN q6).drewN q7
        generalize (w5.drewN q6).drewN q7 = w7 at *
        have x0 : w7.cell? ⟨w.heap.size, 0, none⟩ = some (.int .i64 (d : Int)) := bx7.at_ 0
        have x1 : w7.cell? ⟨w.heap.size, 1, none⟩ = some (.int .i64 (t : Int)) := bx7.at_ 1
        have hlt7 := bx7.lt
        have hltz7 := bz7.lt
        have HI7 := hide hI7
        clear hI7
        go_wp2_with fail
        have SOF := hide (fun W' (h : Below w7.heap.size w7 W') => (⟨(h.cell (p := ⟨w.heap.size, 0, none⟩) hlt7).trans x0, (h.cell (p := ⟨w.heap.size, 1, none⟩) hlt7).trans x1, h⟩ :
          W'.cell? ⟨w.heap.size, 0, none⟩ = some (.int .i64 (d : Int)) ∧ W'.cell? ⟨w.heap.size, 1, none⟩ = some (.int .i64 (t : Int)) ∧ Below w7.heap.size w7 W'))
        have KI := hide (fun W' (h : W'.cell? ⟨w.heap.size, 0, none⟩ = some (.int .i64 (d : Int)) ∧ W'.cell? ⟨w.heap.size, 1, none⟩ = some (.int .i64 (t : Int)) ∧ Below w7.heap.size w7 W') => HI7.out.below h.2.2)
        have bb0 : Below w7.heap.size w7 w7 := Below.refl _ _
        have HB7 := hide hB7
        have hR : rightErr (d : Int) (t : Int) (n + d) G = 0 := by
          unfold rightErr polyBitsErr
          rw [if_pos HP.out, if_pos, if_pos (by omega)]
          unfold bitsErrR
          rw [if_neg (by omega), if_neg (by omega), if_pos (bitsB_iff.2 fun k _ => HGb.out k)]
        have HR := hide hR
        have HRR := hide (show ∀ j, j < d → G (n + j) = remB d t n G j from fun j _ => by rw [HGd.out]; unfold remB; rw [remF_congr (fun k hk => (HGn.out k hk).symm)])
        have HT := hide (show intsB d (remB d t n G) d (fun j => G (n + j)) = true from intsB_iff.2 ⟨rfl, fun j hj => (HRR.out j hj).symm⟩)
        clear x0 x1 hB7 hR
        go_region_held3 (fun w' => w'.cell? ⟨w.heap.size, 0, none⟩ = some (.int .i64 (d : Int)) ∧ w'.cell? ⟨w.heap.size, 1, none⟩ = some (.int .i64 (t : Int)) ∧ Below w7.heap.size w7 w')
            (first | assumption | exact SOF.out _ (by assumption) | exact SOF.out _ bb0.drew | exact SOF.out _ (balloc' (by assumption) (Nat.le_refl _) _))
            (first
              | (go_at_call 11; refine (copyInts_own A5 (n + d) c5 G _ (by omega) ((KI.out _ (by assumption)).weak (Nat.zero_le _))).mono ?_; rintro e w8 ⟨v8, rfl, hown8, hb8⟩; obtain ⟨A8, c8, rfl, hnc8, hI8⟩ := hown8.form; have hs8 : Below w7.heap.size w7 w8 := bstep2 hb8 (by assumption) (Nat.le_refl _))
              | (go_at_call 20; refine (IsRight_ok d t A8 n c8 G _ h1 (by omega) hnc8 hown8.cap_any.2 true HR.out HT.out (hI8.weak (Nat.zero_le _))).mono ?_; rintro e w9 ⟨rfl, hb9⟩; have hs9 : Below w7.heap.size w7 w9 := bstep2 hb9 (by assumption) (Nat.le_refl _)))
        have hbx9 := bx7.below hs9
        have hbz9 := bz7.below hs9
        have hB9 : Below w.heap.size w w9 := HB7.out.trans (hs9.mono HB7.out.size)
        have hI9 := HI7.out.below hs9
        have HI9 := hide hI9
        clear hI9 SOF KI hs9 hs8 hb9 hb8 hown8 hI8 bb0 bx7 bz7 HI7 hlt7 hltz7
        have x0 : w9.cell? ⟨w.heap.size, 0, none⟩ = some (.int .i64 (d : Int)) := hbx9.at_ 0
        have z0 : w9.cell? ⟨w.heap.size + 1, 0, none⟩ = some (.int .i64 b0) := hbz9.at_ 0
        have z1 : w9.cell? ⟨w.heap.size + 1, 1, none⟩ = some (.int .i64 b1) := hbz9.at_ 1
        have hlt9 := hbx9.lt
        have hltz9 := hbz9.lt
        obtain ⟨p1, p2⟩ := pow2_le d h1
        have p3 : (2 : Int) ≤ 2 ^ d := by
          have h1 : 2 ^ 1 ≤ 2 ^ d := Nat.pow_le_pow_right (by decide) h0
          have e : ((2 ^ d : Nat) : Int) = (2 : Int) ^ d := by simp
          omega
        have q1 : IntKind.i64.wrap ((2 : Int) ^ d - 1) = 2 ^ d - 1 := IntWalk.i64_in _ (by omega)
        have m0 := Int.emod_nonneg b0 (show (n : Int) + 1 ≠ 0 by omega)
        have m1 := Int.emod_lt_of_pos b0 (show 0 < (n : Int) + 1 by omega)
        have m2 := Int.emod_nonneg b1 (show (2 : Int) ^ d - 1 ≠ 0 by omega)
        have m3 := Int.emod_lt_of_pos b1 (show 0 < (2 : Int) ^ d - 1 by omega)
        have q2 : IntKind.i64.wrap (1 + b1 % ((2 : Int) ^ d - 1)) = 1 + b1 % (2 ^ d - 1) := IntWalk.i64_in _ (by omega)
        have q3 : IntKind.i64.wrap ((n : Int) + 1) = n + 1 := IntWalk.i64_in _ (by omega)
        go_wp2_with fail
        go_quiet ((first | (go_at_call 22; exact Calls.quiet_of_same ((powerL_any d _ h1).mono fun _ _ h => ⟨h.1, h.2.symm⟩)) | (go_at_call 21; exact Calls.quiet_of_same ((mod_any _ _ _ (by omega) (by omega)).mono fun _ _ h => ⟨h.1, h.2.symm⟩))))
        obtain ⟨x, hx⟩ := Int.eq_ofNat_of_zero_le (show 0 ≤ 1 + b1 % ((2 : Int) ^ d - 1) by omega)
        obtain ⟨a, ha⟩ := Int.eq_ofNat_of_zero_le m0
        have hxd : 1 ≤ x ∧ x < 2 ^ d ∧ x ≤ 65536 := by
          have e : ((2 ^ d : Nat) : Int) = (2 : Int) ^ d := by simp
          omega
        have han : a ≤ n := by omega
        rw [hx, ha]
        clear hx ha m0 m1 m2 m3 q1 q2 q3 x0 z0 z1
        have hbxa := hbx9.drewN nq
        have hBa := below_drewN hB9 nq
        have HIa := hide (HI9.out.drewN nq)
        clear hbx9 hbz9 hB9 HI9 hlt9 hltz9
        generalize w9.drewN nq = wa at *
        have x0 : wa.cell? ⟨w.heap.size, 0, none⟩ = some (.int .i64 (d : Int)) := hbxa.at_ 0
        have hlta := hbxa.lt
        go_wp2_with fail
        clear x0
        refine (bitsOf_any x d _ (by omega) (by omega)).mono ?_
        rintro r wb ⟨vb, rfl, Ab, cb, rfl, hcb, hIb, hbb⟩
        have hbxb := hbxa.below hbb
        have hBb := hBa.trans (hbb.mono hBa.size)
        have HIc := hide (HIa.out.below hbb)
        have HIb := hide hIb
        clear hIb hbb hbxa hBa HIa
        go_wp2_with fail
        refine (copyInts_own A5 (n + d) c5 G _ (by omega) (HIc.out.weak (Nat.zero_le _))).mono ?_
        rintro r wc ⟨vc, rfl, hownc, hbc⟩
        obtain ⟨g, cg, rfl, hg1, hg2⟩ := hownc.row (by omega)
        go_wp2_with fail
        go_loopw [15] (fun i wr => ∃ k : Nat, k ≤ d ∧ i = .int .i64 k ∧ OwnInts wr wb.heap.size (.slice (some ⟨g, 0, none⟩) (n + d) cg) (n + d) (burstF G a x d k) ∧ Below wb.heap.size wb wr) (fun i _ => d - (intOf i).toNat)
        case atStart => exact ⟨0, Nat.zero_le _, rfl, hownc.congr fun j _ => by unfold burstF; rw [if_neg (by omega)], hbc⟩
        case round =>
          obtain ⟨k, hk, rfl, hown, hB⟩ := hrel
          have hbxr := hbxb.kept hB hbxb.lt
          have x0 : wr.cell? ⟨w.heap.size, 0, none⟩ = some (.int .i64 (d : Int)) := hbxr.at_ 0
          have x1 : wr.cell? ⟨w.heap.size, 1, none⟩ = some (.int .i64 (t : Int)) := hbxr.at_ 1
          have hltr := hbxr.lt
          by_cases hlt : k < d
          · have hltz : (k : Int) < (d : Int) := by omega
            have hI := HIb.out.kept hB (Nat.le_refl _)
            obtain ⟨b2, o2, rfl, -, hb2, hcell2⟩ := hI k hlt
            have hcell := hown.cellAt (k := a + k) (by omega)
            have hfz := hown.frozen (a + k)
            have hv : burstF G a x d k (a + k) = G (a + k) := by unfold burstF; rw [if_neg (by omega)]
            rw [hv] at hcell
            have HN := hide (burstF_succ G a x d k)
            have hg9 := (HGb.out (a + k)).le
            have hb9 := (bitsOfF_bit x d k).le
            generalize G (a + k) = gg at *
            generalize bitsOfF x d k = ch at *
            obtain ⟨g0, g9⟩ := hg9
            obtain ⟨ch0, ch9⟩ := hb9
            have hlta : (a : Int) + (k : Int) < (n : Int) + (d : Int) := by omega
            have hltm : a + k < n + d := by omega
            go_wp2_with fail
            go_region
            go_wp2_with fail
            refine ⟨⟨k + 1, by omega, by simp, (hown.set_ (a + k) _).congr (fun j _ => ?_), (Below.setCell hB (p := ⟨g, a + k, none⟩) (by exact hg1) _).drew⟩, by simp [intOf]; omega⟩
            exact (HN.out j).symm
          · obtain rfl : k = d := by omega
            go_wp2_with fail
            refine (IsRight_ok k t (some ⟨g, 0, none⟩) n cg (burstF G a x k k) _ h1 (by omega) hown.cap_any.1 hown.cap_any.2 false (rightErr_zero HP.out (by omega) n0 (burstF_bit HGb.out a x k k)) (burst_wrong h0 t1 t2 HGb.out han ⟨hxd.1, hxd.2.1⟩ HRR.out) (hown.form.elim fun _ h => h.elim fun _ h => by obtain ⟨e, -, h⟩ := h; injection e with e1 e2 e3; subst e1; exact h.weak (Nat.zero_le _))).mono ?_
            rintro r wd ⟨rfl, hbd⟩
            go_wp2_with fail
            go_ret
            exact ⟨rfl, (hBb.trans (hB.mono hBb.size)).trans (hbd.mono (Nat.le_trans hBb.size hB.size))⟩
      · have t4 : (bitsErrR n F != 0) = true := by simpa using hbz
        generalize bitsErrR n F = be at *
        clear hbz
        go_wp2_with fail
        go_ret
        exact ⟨rfl, below_drewN hB2 _⟩
    · have t40 : decide ((40 : Int) < (n : Int)) = true := by simp; omega
      go_wp2_with fail
      go_ret
      exact ⟨rfl, hB2⟩
  · have t3 : (polyErrI d t != 0) = true := by simpa using hp
    generalize polyErrI d t = pe at *
    clear hp
    go_wp2_with fail
    go_ret
    exact ⟨rfl, hB2⟩
end Go.Proofs.Ytdimjagmecnldaa
