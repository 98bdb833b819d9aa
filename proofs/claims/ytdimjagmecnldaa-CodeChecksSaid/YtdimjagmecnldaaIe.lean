/- CodeChecks: the walk. -/
import Derived.Test.YtdimjagmecnldaaId
namespace Go.Proofs.Ytdimjagmecnldaa
open Go.RowKit Go.Shelf
theorem Remainder_err (d t : Int) (A : Option Addr) (n c : Nat) (F : Nat → Int) (w : World) (E : Int) (he : polyBitsErr d t n F = E) (h0 : E ≠ 0) (hn : n ≤ 100000) (hI : IntsAt w 0 A n F) :
    Calls Try.prog 26 #[.agg #[.int .i64 d, .int .i64 t], .slice A n c] w fun e w' => e = .returned (.tuple #[.slice none 0 0, .int .i64 E]) ∧ Below w.heap.size w w' :=
  (Remainder_any d t A n c F w hn hI).mono fun e w' h => by
    subst he
    rcases h with ⟨-, h1, h2⟩ | ⟨h, -⟩
    · exact ⟨h1, h2⟩
    · exact absurd h h0
theorem Checked_err (d t : Int) (A : Option Addr) (n c : Nat) (F : Nat → Int) (w : World) (E : Int) (he : polyBitsErr d t n F = E) (h0 : E ≠ 0) (hn : n ≤ 100000) (hI : IntsAt w 0 A n F) :
    Calls Try.prog 19 #[.agg #[.int .i64 d, .int .i64 t], .slice A n c] w fun e w' => e = .returned (.tuple #[.slice none 0 0, .int .i64 E]) ∧ Below w.heap.size w w' :=
  (Checked_any d t A n c F w hn hI).mono fun e w' h => by
    subst he
    rcases h with ⟨-, h1, h2⟩ | ⟨h, -⟩
    · exact ⟨h1, h2⟩
    · exact absurd h h0
theorem IsRight_err (d t : Int) (A : Option Addr) (n c : Nat) (F : Nat → Int) (w : World) (E : Int) (he : polyBitsErr d t n F = E) (h0 : E ≠ 0) (hn : n ≤ 100000) (hnc : n ≤ c) (hc : c ≤ 9223372036854775807) (hd9 : -9223372036854775808 ≤ d ∧ d ≤ 9223372036854775807) (hI : IntsAt w 0 A n F) :
    Calls Try.prog 20 #[.agg #[.int .i64 d, .int .i64 t], .slice A n c] w fun e w' => e = .returned (.tuple #[.bool false, .int .i64 E]) ∧ Below w.heap.size w w' :=
  (IsRight_any d t A n c F w hn hnc hc hd9 hI).mono fun e w' h => by
    obtain ⟨h1, h2⟩ := h
    have hr : rightErr d t n F = E := by unfold rightErr; rw [if_neg (by rw [he]; exact h0), he]
    rw [hr, decide_eq_false h0, Bool.false_and] at h1
    exact ⟨h1, h2⟩
theorem Remainder_yes (d t : Nat) (A : Option Addr) (n c : Nat) (F : Nat → Int) (w : World) (he : polyBitsErr (d : Int) (t : Int) n F = 0) (hn : n ≤ 100000) (hI : IntsAt w 0 A n F) :
    Calls Try.prog 26 #[.agg #[.int .i64 (d : Int), .int .i64 (t : Int)], .slice A n c] w fun e w' => ∃ v, e = .returned (.tuple #[v, .int .i64 0]) ∧ GaveInts w d (remB d t n F) v w' :=
  (Remainder_any d t A n c F w hn hI).mono fun e w' h => by
    rcases h with ⟨h, -⟩ | ⟨-, h⟩
    · exact absurd he h
    · exact h
theorem Checked_yes (d t : Nat) (A : Option Addr) (n c : Nat) (F : Nat → Int) (w : World) (he : polyBitsErr (d : Int) (t : Int) n F = 0) (hn : n ≤ 100000) (hI : IntsAt w 0 A n F) :
    Calls Try.prog 19 #[.agg #[.int .i64 (d : Int), .int .i64 (t : Int)], .slice A n c] w fun e w' => ∃ v, e = .returned (.tuple #[v, .int .i64 0]) ∧ GaveInts w (n + d) (catF n F (remB d t n F)) v w' :=
  (Checked_any d t A n c F w hn hI).mono fun e w' h => by
    rcases h with ⟨h, -⟩ | ⟨-, h⟩
    · exact absurd he h
    · exact h
theorem IsRight_short (d t : Nat) (A : Option Addr) (n c : Nat) (F : Nat → Int) (w : World) (he : polyBitsErr (d : Int) (t : Int) n F = 0) (hd : d ≤ 16) (hnd : n ≤ d) (hn : n ≤ 100000) (hnc : n ≤ c) (hc : c ≤ 9223372036854775807) (hI : IntsAt w 0 A n F) :
    Calls Try.prog 20 #[.agg #[.int .i64 (d : Int), .int .i64 (t : Int)], .slice A n c] w fun e w' => e = .returned (.tuple #[.bool false, .int .i64 10]) ∧ Below w.heap.size w w' :=
  (IsRight_any d t A n c F w hn hnc hc (by omega) hI).mono fun e w' h => by
    obtain ⟨h1, h2⟩ := h
    have hr : rightErr (d : Int) (t : Int) n F = 10 := by unfold rightErr; rw [if_pos he, if_neg (by omega)]
    rw [hr, decide_eq_false (show ¬ (10 : Int) = 0 by decide), Bool.false_and] at h1
    exact ⟨h1, h2⟩
theorem IsRight_long (d t : Nat) (A : Option Addr) (n c : Nat) (F : Nat → Int) (w : World) (he : polyBitsErr (d : Int) (t : Int) n F = 0) (hd : d ≤ 16) (hnd : d < n) (hn : n ≤ 100000) (hnc : n ≤ c) (hc : c ≤ 9223372036854775807) (hI : IntsAt w 0 A n F) :
    Calls Try.prog 20 #[.agg #[.int .i64 (d : Int), .int .i64 (t : Int)], .slice A n c] w fun e w' => e = .returned (.tuple #[.bool (intsB d (fun j => F (n - d + j)) d (remB d t (n - d) F)), .int .i64 0]) ∧ Below w.heap.size w w' :=
  (IsRight_any d t A n c F w hn hnc hc (by omega) hI).mono fun e w' h => by
    obtain ⟨h1, h2⟩ := h
    have hr : rightErr (d : Int) (t : Int) n F = 0 := by unfold rightErr; rw [if_pos he, if_pos (by omega)]
    have hs : intsB d (remB d t (n - d) F) d (fun j => F (n - d + j)) = intsB d (fun j => F (n - d + j)) d (remB d t (n - d) F) := by
      rw [Bool.eq_iff_iff, intsB_iff, intsB_iff]
      exact ⟨fun h => ⟨rfl, fun k hk => (h.2 k hk).symm⟩, fun h => ⟨rfl, fun k hk => (h.2 k hk).symm⟩⟩
    rw [hr, Int.toNat_natCast, Int.toNat_natCast, hs] at h1
    exact ⟨h1, h2⟩
set_option maxHeartbeats 4000000 in
set_option maxRecDepth 100000 in
theorem codeChecks_walk (d t : Int) (A : Option Addr) (n c : Nat) (F : Nat → Int) (w : World) (hn : n ≤ 9223372036854775807) (hnc : n ≤ c) (hc : c ≤ 9223372036854775807) (hd9 : -9223372036854775808 ≤ d ∧ d ≤ 9223372036854775807) (hI : IntsAt w 0 A n F) :
    Calls Try.prog 5 #[.agg #[.int .i64 d, .int .i64 t], .slice A n c] w fun r w' => r = .returned (.bool true) ∧ Below w.heap.size w w' := by
  have HI := hide hI
  clear hI
  go_enter Try.func5, Try.ntmps5
  go_wp2_with fail
  refine (awake_any _).mono ?_
  rintro r w1 ⟨rfl, hb1⟩
  have bx1 : Box w1 w.heap.size 35 #[.int .i64 d, .int .i64 t] := (Box.made rfl).below hb1
  have hB1 : Below w.heap.size w w1 := below_of_alloc hb1
  clear hb1
  go_wp2_with fail
  refine (few_any A n c 200 _ hn (by decide)).mono ?_
  rintro r w2 ⟨rfl, rfl⟩
  by_cases hfew : n ≤ 40 ∨ 200 < n ∧ n ≤ 200 + 2
  · rw [decide_eq_true hfew]
    have hn2 : n ≤ 202 := by omega
    clear hfew
    have x0 : w1.cell? ⟨w.heap.size, 0, none⟩ = some (.int .i64 d) := bx1.at_ 0
    have x1 : w1.cell? ⟨w.heap.size, 1, none⟩ = some (.int .i64 t) := bx1.at_ 1
    have hlt1 := bx1.lt
    go_wp2_with fail
    refine (checkPoly_any d t _).mono ?_
    rintro r w2 ⟨rfl, hb2⟩
    have bx2 := bx1.below hb2
    have hB2 := hB1.trans (hb2.mono hB1.size)
    clear x0 x1 hlt1 hb2 hB1 bx1
    have bxwA := bx2
    have hBwA := hB2
    clear bx2 hB2
    obtain ⟨wA, rfl⟩ : ∃ wA : World, wA = w2 := ⟨_, rfl⟩
    by_cases hp : polyErrI d t = 0
    · by_cases hbz : bitsErrR n F = 0
      · obtain ⟨d, t, rfl, rfl, h0, h1, t1, t2, n0, n1, hb⟩ := polyBitsErr_zero (show polyBitsErr d t n F = 0 from by unfold polyBitsErr; rw [if_pos hp]; exact hbz)
        have HE := hide (show polyBitsErr (d : Int) (t : Int) n F = 0 from by unfold polyBitsErr; rw [if_pos hp]; exact hbz)
        have HP := hide hp
        have HBZ := hide hbz
        have HB := hide hb
        rw [hp]
        clear hp hbz hb hd9
        by_cases hnd : n ≤ d
        · have x0 : wA.cell? ⟨w.heap.size, 0, none⟩ = some (.int .i64 (d : Int)) := bxwA.at_ 0
          have x1 : wA.cell? ⟨w.heap.size, 1, none⟩ = some (.int .i64 (t : Int)) := bxwA.at_ 1
          have hltwA := bxwA.lt
          go_wp2_with fail
          have SOF := hide (fun W' (h : Below wA.heap.size wA W') => (⟨(h.cell (p := ⟨w.heap.size, 0, none⟩) hltwA).trans x0, (h.cell (p := ⟨w.heap.size, 1, none⟩) hltwA).trans x1, h⟩ :
            W'.cell? ⟨w.heap.size, 0, none⟩ = some (.int .i64 (d : Int)) ∧ W'.cell? ⟨w.heap.size, 1, none⟩ = some (.int .i64 (t : Int)) ∧ Below wA.heap.size wA W'))
          have KI := hide (fun W' (h : W'.cell? ⟨w.heap.size, 0, none⟩ = some (.int .i64 (d : Int)) ∧ W'.cell? ⟨w.heap.size, 1, none⟩ = some (.int .i64 (t : Int)) ∧ Below wA.heap.size wA W') => HI.out.below (hBwA.trans (h.2.2.mono hBwA.size)))
          have bb0 : Below wA.heap.size wA wA := Below.refl _ _
          have HBB := hide hBwA
          clear x0 x1 hBwA
          go_region_held3 (fun w' => w'.cell? ⟨w.heap.size, 0, none⟩ = some (.int .i64 (d : Int)) ∧ w'.cell? ⟨w.heap.size, 1, none⟩ = some (.int .i64 (t : Int)) ∧ Below wA.heap.size wA w')
              (first | assumption | exact SOF.out _ (by assumption) | exact SOF.out _ bb0.drew | exact SOF.out _ (balloc' (by assumption) (Nat.le_refl _) _))
              (first
                | (go_at_call 11; refine (copyInts_own A n c F _ (by omega) (KI.out _ (by assumption))).mono ?_; rintro e wk ⟨vk, rfl, hownk, hbk⟩; obtain ⟨Ak, ck, rfl, hnck, hIk⟩ := hownk.form; have hck := hownk.cap_any; have hsk : Below wA.heap.size wA wk := bstep2 hbk (by assumption) (Nat.le_refl _))
                | (go_at_call 26; refine (Remainder_yes d t Ak n ck F _ HE.out (by omega) (hIk.weak (Nat.zero_le _))).mono ?_; rintro e wB ⟨v6, rfl, A6, c6, rfl, hc6, hI6, hbwB⟩; have hswB : Below wA.heap.size wA wB := bstep2 hbwB (by assumption) (Nat.le_refl _)))
          have bxwB := bxwA.below hswB
          have hBwB : Below w.heap.size w wB := HBB.out.trans (hswB.mono HBB.out.size)
          have HR := hide (hI6.weak (Nat.zero_le _))
          clear SOF KI hsk hbk hbwB hownk hIk hnck hck bb0 HBB hswB hltwA bxwA hI6
          have x0 : wB.cell? ⟨w.heap.size, 0, none⟩ = some (.int .i64 (d : Int)) := bxwB.at_ 0
          have x1 : wB.cell? ⟨w.heap.size, 1, none⟩ = some (.int .i64 (t : Int)) := bxwB.at_ 1
          have hltwB := bxwB.lt
          go_wp2_with fail
          have SOF := hide (fun W' (h : Below wB.heap.size wB W') => (⟨(h.cell (p := ⟨w.heap.size, 0, none⟩) hltwB).trans x0, (h.cell (p := ⟨w.heap.size, 1, none⟩) hltwB).trans x1, h⟩ :
            W'.cell? ⟨w.heap.size, 0, none⟩ = some (.int .i64 (d : Int)) ∧ W'.cell? ⟨w.heap.size, 1, none⟩ = some (.int .i64 (t : Int)) ∧ Below wB.heap.size wB W'))
          have KI := hide (fun W' (h : W'.cell? ⟨w.heap.size, 0, none⟩ = some (.int .i64 (d : Int)) ∧ W'.cell? ⟨w.heap.size, 1, none⟩ = some (.int .i64 (t : Int)) ∧ Below wB.heap.size wB W') => HI.out.below (hBwB.trans (h.2.2.mono hBwB.size)))
          have bb0 : Below wB.heap.size wB wB := Below.refl _ _
          have HBB := hide hBwB
          clear x0 x1 hBwB
          go_region_held3 (fun w' => w'.cell? ⟨w.heap.size, 0, none⟩ = some (.int .i64 (d : Int)) ∧ w'.cell? ⟨w.heap.size, 1, none⟩ = some (.int .i64 (t : Int)) ∧ Below wB.heap.size wB w')
              (first | assumption | exact SOF.out _ (by assumption) | exact SOF.out _ bb0.drew | exact SOF.out _ (balloc' (by assumption) (Nat.le_refl _) _))
              (first
                | (go_at_call 11; refine (copyInts_own A n c F _ (by omega) (KI.out _ (by assumption))).mono ?_; rintro e wk ⟨vk, rfl, hownk, hbk⟩; obtain ⟨Ak, ck, rfl, hnck, hIk⟩ := hownk.form; have hck := hownk.cap_any; have hsk : Below wB.heap.size wB wk := bstep2 hbk (by assumption) (Nat.le_refl _))
                | (go_at_call 19; refine (Checked_yes d t Ak n ck F _ HE.out (by omega) (hIk.weak (Nat.zero_le _))).mono ?_; rintro e wC ⟨v7, rfl, A7, c7, rfl, hc7, hI7, hbwC⟩; have hswC : Below wB.heap.size wB wC := bstep2 hbwC (by assumption) (Nat.le_refl _)))
          have bxwC := bxwB.below hswC
          have hBwC : Below w.heap.size w wC := HBB.out.trans (hswC.mono HBB.out.size)
          have HR2 := hide (HR.out.below hswC)
          have HC2 := hide (hI7.weak (Nat.zero_le _))
          clear SOF KI hsk hbk hbwC hownk hIk hnck hck bb0 HBB hswC hltwB bxwB hI7 HR
          have x0 : wC.cell? ⟨w.heap.size, 0, none⟩ = some (.int .i64 (d : Int)) := bxwC.at_ 0
          have x1 : wC.cell? ⟨w.heap.size, 1, none⟩ = some (.int .i64 (t : Int)) := bxwC.at_ 1
          have hltwC := bxwC.lt
          go_wp2_with fail
          have SOF := hide (fun W' (h : Below wC.heap.size wC W') => (⟨(h.cell (p := ⟨w.heap.size, 0, none⟩) hltwC).trans x0, (h.cell (p := ⟨w.heap.size, 1, none⟩) hltwC).trans x1, h⟩ :
            W'.cell? ⟨w.heap.size, 0, none⟩ = some (.int .i64 (d : Int)) ∧ W'.cell? ⟨w.heap.size, 1, none⟩ = some (.int .i64 (t : Int)) ∧ Below wC.heap.size wC W'))
          have KI := hide (fun W' (h : W'.cell? ⟨w.heap.size, 0, none⟩ = some (.int .i64 (d : Int)) ∧ W'.cell? ⟨w.heap.size, 1, none⟩ = some (.int .i64 (t : Int)) ∧ Below wC.heap.size wC W') => HI.out.below (hBwC.trans (h.2.2.mono hBwC.size)))
          have bb0 : Below wC.heap.size wC wC := Below.refl _ _
          have HBB := hide hBwC
          clear x0 x1 hBwC
          go_region_held3 (fun w' => w'.cell? ⟨w.heap.size, 0, none⟩ = some (.int .i64 (d : Int)) ∧ w'.cell? ⟨w.heap.size, 1, none⟩ = some (.int .i64 (t : Int)) ∧ Below wC.heap.size wC w')
              (first | assumption | exact SOF.out _ (by assumption) | exact SOF.out _ bb0.drew | exact SOF.out _ (balloc' (by assumption) (Nat.le_refl _) _))
              (first
                | (go_at_call 11; refine (copyInts_own A n c F _ (by omega) (KI.out _ (by assumption))).mono ?_; rintro e wk ⟨vk, rfl, hownk, hbk⟩; obtain ⟨Ak, ck, rfl, hnck, hIk⟩ := hownk.form; have hck := hownk.cap_any; have hsk : Below wC.heap.size wC wk := bstep2 hbk (by assumption) (Nat.le_refl _))
                | (go_at_call 20; refine (IsRight_short d t Ak n ck F _ HE.out h1 hnd (by omega) hnck hck.2 (hIk.weak (Nat.zero_le _))).mono ?_; rintro e wD ⟨rfl, hbwD⟩; have hswD : Below wC.heap.size wC wD := bstep2 hbwD (by assumption) (Nat.le_refl _)))
          have bxwD := bxwC.below hswD
          have hBwD : Below w.heap.size w wD := HBB.out.trans (hswD.mono HBB.out.size)
          have HR3 := hide (HR2.out.below hswD)
          have HC3 := hide (HC2.out.below hswD)
          clear SOF KI hsk hbk hbwD hownk hIk hnck hck bb0 HBB hswD hltwC bxwC HR2 HC2
          have x0 : wD.cell? ⟨w.heap.size, 0, none⟩ = some (.int .i64 (d : Int)) := bxwD.at_ 0
          have x1 : wD.cell? ⟨w.heap.size, 1, none⟩ = some (.int .i64 (t : Int)) := bxwD.at_ 1
          have hltwD := bxwD.lt
          go_wp2_with fail
          refine (checkPolyR_any (d : Int) (t : Int) _).mono ?_
          rintro r wE ⟨rfl, hbE⟩
          rw [HP.out]
          have hBE := hBwD.trans (hbE.mono hBwD.size)
          have bxE := bxwD.below hbE
          have HR4 := hide (HR3.out.below hbE)
          have HC4 := hide (HC3.out.below hbE)
          clear x0 x1 hbE HR3 HC3 hBwD bxwD hltwD
          go_wp2_with fail
          refine (bitsErrR_any A n c F _ hn (HI.out.below hBE)).mono ?_
          rintro r wF ⟨rfl, qF, rfl⟩
          rw [HBZ.out]
          have hBF := below_drewN hBE qF
          have bxF := bxE.drewN qF
          have HRF := hide (HR4.out.drewN qF)
          have HCF := hide (HC4.out.drewN qF)
          clear hBE bxE HR4 HC4
          generalize wE.drewN qF = wF at *
          have x0 : wF.cell? ⟨w.heap.size, 0, none⟩ = some (.int .i64 (d : Int)) := bxF.at_ 0
          have x1 : wF.cell? ⟨w.heap.size, 1, none⟩ = some (.int .i64 (t : Int)) := bxF.at_ 1
          have hltF := bxF.lt
          go_wp2_with fail
          refine (remainderR_any d t A n c F _ h0 h1 t1 n0 (by omega) (HI.out.below hBF) HB.out).mono ?_
          rintro r wG ⟨vG, rfl, AG, cG, rfl, hcG, hIG, hbG⟩
          have hBG := hBF.trans (hbG.mono hBF.size)
          have bxG := bxF.below hbG
          have HCG := hide (HCF.out.below hbG)
          have HRG := hide (HRF.out.below hbG)
          clear x0 x1 hbG hBF bxF HRF HCF hltF
          go_wp2_with fail
          refine (ints_any A6 AG d d c6 cG (remB d t n F) (remB d t n F) _ (by omega) (by omega) HRG.out (hIG.weak (Nat.zero_le _))).mono ?_
          rintro r wH ⟨rfl, qH, rfl⟩
          rw [intsB_iff.2 ⟨rfl, fun _ _ => rfl⟩]
          have hBH := below_drewN hBG qH
          have bxH := bxG.drewN qH
          have HCH := hide (HCG.out.drewN qH)
          clear hBG bxG HCG HRG hIG
          generalize wG.drewN qH = wH at *
          have x0 : wH.cell? ⟨w.heap.size, 0, none⟩ = some (.int .i64 (d : Int)) := bxH.at_ 0
          have x1 : wH.cell? ⟨w.heap.size, 1, none⟩ = some (.int .i64 (t : Int)) := bxH.at_ 1
          have hltH := bxH.lt
          go_wp2_with fail
          refine (checkedR_any d t A n c F _ h0 h1 t1 n0 (by omega) (HI.out.below hBH) HB.out).mono ?_
          rintro r wI ⟨vI, rfl, hownI, hbI⟩
          obtain ⟨AI, cI, rfl, -, hII⟩ := hownI.form
          have hBI := hBH.trans (hbI.mono hBH.size)
          have bxI := bxH.below hbI
          have HCI := hide (HCH.out.below hbI)
          clear x0 x1 hbI hBH bxH HCH hltH hownI
          go_wp2_with fail
          refine (ints_any A7 AI (n + d) (n + d) c7 cI _ _ _ (by omega) (by omega) HCI.out (hII.weak (Nat.zero_le _))).mono ?_
          rintro r wJ ⟨rfl, qJ, rfl⟩
          rw [intsB_iff.2 ⟨rfl, fun _ _ => rfl⟩]
          have hBJ := below_drewN hBI qJ
          have bxJ := bxI.drewN qJ
          clear hBI bxI HCI hII
          generalize wI.drewN qJ = wJ at *
          have x0 : wJ.cell? ⟨w.heap.size, 0, none⟩ = some (.int .i64 (d : Int)) := bxJ.at_ 0
          have x1 : wJ.cell? ⟨w.heap.size, 1, none⟩ = some (.int .i64 (t : Int)) := bxJ.at_ 1
          have hltJ := bxJ.lt
          have tle : decide ((n : Int) ≤ (d : Int)) = true := by simp; omega
          go_wp2_with fail
          go_ret
          exact ⟨rfl, hBJ⟩
        · replace hnd : d < n := by omega
          have x0 : wA.cell? ⟨w.heap.size, 0, none⟩ = some (.int .i64 (d : Int)) := bxwA.at_ 0
          have x1 : wA.cell? ⟨w.heap.size, 1, none⟩ = some (.int .i64 (t : Int)) := bxwA.at_ 1
          have hltwA := bxwA.lt
          go_wp2_with fail
          have SOF := hide (fun W' (h : Below wA.heap.size wA W') => (⟨(h.cell (p := ⟨w.heap.size, 0, none⟩) hltwA).trans x0, (h.cell (p := ⟨w.heap.size, 1, none⟩) hltwA).trans x1, h⟩ :
            W'.cell? ⟨w.heap.size, 0, none⟩ = some (.int .i64 (d : Int)) ∧ W'.cell? ⟨w.heap.size, 1, none⟩ = some (.int .i64 (t : Int)) ∧ Below wA.heap.size wA W'))
          have KI := hide (fun W' (h : W'.cell? ⟨w.heap.size, 0, none⟩ = some (.int .i64 (d : Int)) ∧ W'.cell? ⟨w.heap.size, 1, none⟩ = some (.int .i64 (t : Int)) ∧ Below wA.heap.size wA W') => HI.out.below (hBwA.trans (h.2.2.mono hBwA.size)))
          have bb0 : Below wA.heap.size wA wA := Below.refl _ _
          have HBB := hide hBwA
          clear x0 x1 hBwA
          go_region_held3 (fun w' => w'.cell? ⟨w.heap.size, 0, none⟩ = some (.int .i64 (d : Int)) ∧ w'.cell? ⟨w.heap.size, 1, none⟩ = some (.int .i64 (t : Int)) ∧ Below wA.heap.size wA w')
              (first | assumption | exact SOF.out _ (by assumption) | exact SOF.out _ bb0.drew | exact SOF.out _ (balloc' (by assumption) (Nat.le_refl _) _))
              (first
                | (go_at_call 11; refine (copyInts_own A n c F _ (by omega) (KI.out _ (by assumption))).mono ?_; rintro e wk ⟨vk, rfl, hownk, hbk⟩; obtain ⟨Ak, ck, rfl, hnck, hIk⟩ := hownk.form; have hck := hownk.cap_any; have hsk : Below wA.heap.size wA wk := bstep2 hbk (by assumption) (Nat.le_refl _))
                | (go_at_call 26; refine (Remainder_yes d t Ak n ck F _ HE.out (by omega) (hIk.weak (Nat.zero_le _))).mono ?_; rintro e wB ⟨v6, rfl, A6, c6, rfl, hc6, hI6, hbwB⟩; have hswB : Below wA.heap.size wA wB := bstep2 hbwB (by assumption) (Nat.le_refl _)))
          have bxwB := bxwA.below hswB
          have hBwB : Below w.heap.size w wB := HBB.out.trans (hswB.mono HBB.out.size)
          have HR := hide (hI6.weak (Nat.zero_le _))
          clear SOF KI hsk hbk hbwB hownk hIk hnck hck bb0 HBB hswB hltwA bxwA hI6
          have x0 : wB.cell? ⟨w.heap.size, 0, none⟩ = some (.int .i64 (d : Int)) := bxwB.at_ 0
          have x1 : wB.cell? ⟨w.heap.size, 1, none⟩ = some (.int .i64 (t : Int)) := bxwB.at_ 1
          have hltwB := bxwB.lt
          go_wp2_with fail
          have SOF := hide (fun W' (h : Below wB.heap.size wB W') => (⟨(h.cell (p := ⟨w.heap.size, 0, none⟩) hltwB).trans x0, (h.cell (p := ⟨w.heap.size, 1, none⟩) hltwB).trans x1, h⟩ :
            W'.cell? ⟨w.heap.size, 0, none⟩ = some (.int .i64 (d : Int)) ∧ W'.cell? ⟨w.heap.size, 1, none⟩ = some (.int .i64 (t : Int)) ∧ Below wB.heap.size wB W'))
          have KI := hide (fun W' (h : W'.cell? ⟨w.heap.size, 0, none⟩ = some (.int .i64 (d : Int)) ∧ W'.cell? ⟨w.heap.size, 1, none⟩ = some (.int .i64 (t : Int)) ∧ Below wB.heap.size wB W') => HI.out.below (hBwB.trans (h.2.2.mono hBwB.size)))
          have bb0 : Below wB.heap.size wB wB := Below.refl _ _
          have HBB := hide hBwB
          clear x0 x1 hBwB
          go_region_held3 (fun w' => w'.cell? ⟨w.heap.size, 0, none⟩ = some (.int .i64 (d : Int)) ∧ w'.cell? ⟨w.heap.size, 1, none⟩ = some (.int .i64 (t : Int)) ∧ Below wB.heap.size wB w')
              (first | assumption | exact SOF.out _ (by assumption) | exact SOF.out _ bb0.drew | exact SOF.out _ (balloc' (by assumption) (Nat.le_refl _) _))
              (first
                | (go_at_call 11; refine (copyInts_own A n c F _ (by omega) (KI.out _ (by assumption))).mono ?_; rintro e wk ⟨vk, rfl, hownk, hbk⟩; obtain ⟨Ak, ck, rfl, hnck, hIk⟩ := hownk.form; have hck := hownk.cap_any; have hsk : Below wB.heap.size wB wk := bstep2 hbk (by assumption) (Nat.le_refl _))
                | (go_at_call 19; refine (Checked_yes d t Ak n ck F _ HE.out (by omega) (hIk.weak (Nat.zero_le _))).mono ?_; rintro e wC ⟨v7, rfl, A7, c7, rfl, hc7, hI7, hbwC⟩; have hswC : Below wB.heap.size wB wC := bstep2 hbwC (by assumption) (Nat.le_refl _)))
          have bxwC := bxwB.below hswC
          have hBwC : Below w.heap.size w wC := HBB.out.trans (hswC.mono HBB.out.size)
          have HR2 := hide (HR.out.below hswC)
          have HC2 := hide (hI7.weak (Nat.zero_le _))
          clear SOF KI hsk hbk hbwC hownk hIk hnck hck bb0 HBB hswC hltwB bxwB hI7 HR
          have x0 : wC.cell? ⟨w.heap.size, 0, none⟩ = some (.int .i64 (d : Int)) := bxwC.at_ 0
          have x1 : wC.cell? ⟨w.heap.size, 1, none⟩ = some (.int .i64 (t : Int)) := bxwC.at_ 1
          have hltwC := bxwC.lt
          go_wp2_with fail
          have SOF := hide (fun W' (h : Below wC.heap.size wC W') => (⟨(h.cell (p := ⟨w.heap.size, 0, none⟩) hltwC).trans x0, (h.cell (p := ⟨w.heap.size, 1, none⟩) hltwC).trans x1, h⟩ :
            W'.cell? ⟨w.heap.size, 0, none⟩ = some (.int .i64 (d : Int)) ∧ W'.cell? ⟨w.heap.size, 1, none⟩ = some (.int .i64 (t : Int)) ∧ Below wC.heap.size wC W'))
          have KI := hide (fun W' (h : W'.cell? ⟨w.heap.size, 0, none⟩ = some (.int .i64 (d : Int)) ∧ W'.cell? ⟨w.heap.size, 1, none⟩ = some (.int .i64 (t : Int)) ∧ Below wC.heap.size wC W') => HI.out.below (hBwC.trans (h.2.2.mono hBwC.size)))
          have bb0 : Below wC.heap.size wC wC := Below.refl _ _
          have HBB := hide hBwC
          clear x0 x1 hBwC
          go_region_held3 (fun w' => w'.cell? ⟨w.heap.size, 0, none⟩ = some (.int .i64 (d : Int)) ∧ w'.cell? ⟨w.heap.size, 1, none⟩ = some (.int .i64 (t : Int)) ∧ Below wC.heap.size wC w')
              (first | assumption | exact SOF.out _ (by assumption) | exact SOF.out _ bb0.drew | exact SOF.out _ (balloc' (by assumption) (Nat.le_refl _) _))
              (first
                | (go_at_call 11; refine (copyInts_own A n c F _ (by omega) (KI.out _ (by assumption))).mono ?_; rintro e wk ⟨vk, rfl, hownk, hbk⟩; obtain ⟨Ak, ck, rfl, hnck, hIk⟩ := hownk.form; have hck := hownk.cap_any; have hsk : Below wC.heap.size wC wk := bstep2 hbk (by assumption) (Nat.le_refl _))
                | (go_at_call 20; refine (IsRight_long d t Ak n ck F _ HE.out h1 hnd (by omega) hnck hck.2 (hIk.weak (Nat.zero_le _))).mono ?_; rintro e wD ⟨rfl, hbwD⟩; have hswD : Below wC.heap.size wC wD := bstep2 hbwD (by assumption) (Nat.le_refl _)))
          have bxwD := bxwC.below hswD
          have hBwD : Below w.heap.size w wD := HBB.out.trans (hswD.mono HBB.out.size)
          have HR3 := hide (HR2.out.below hswD)
          have HC3 := hide (HC2.out.below hswD)
          clear SOF KI hsk hbk hbwD hownk hIk hnck hck bb0 HBB hswD hltwC bxwC HR2 HC2
          have x0 : wD.cell? ⟨w.heap.size, 0, none⟩ = some (.int .i64 (d : Int)) := bxwD.at_ 0
          have x1 : wD.cell? ⟨w.heap.size, 1, none⟩ = some (.int .i64 (t : Int)) := bxwD.at_ 1
          have hltwD := bxwD.lt
          go_wp2_with fail
          refine (checkPolyR_any (d : Int) (t : Int) _).mono ?_
          rintro r wE ⟨rfl, hbE⟩
          rw [HP.out]
          have hBE := hBwD.trans (hbE.mono hBwD.size)
          have bxE := bxwD.below hbE
          have HR4 := hide (HR3.out.below hbE)
          have HC4 := hide (HC3.out.below hbE)
          clear x0 x1 hbE HR3 HC3 hBwD bxwD hltwD
          go_wp2_with fail
          refine (bitsErrR_any A n c F _ hn (HI.out.below hBE)).mono ?_
          rintro r wF ⟨rfl, qF, rfl⟩
          rw [HBZ.out]
          have hBF := below_drewN hBE qF
          have bxF := bxE.drewN qF
          have HRF := hide (HR4.out.drewN qF)
          have HCF := hide (HC4.out.drewN qF)
          clear hBE bxE HR4 HC4
          generalize wE.drewN qF = wF at *
          have x0 : wF.cell? ⟨w.heap.size, 0, none⟩ = some (.int .i64 (d : Int)) := bxF.at_ 0
          have x1 : wF.cell? ⟨w.heap.size, 1, none⟩ = some (.int .i64 (t : Int)) := bxF.at_ 1
          have hltF := bxF.lt
          go_wp2_with fail
          refine (remainderR_any d t A n c F _ h0 h1 t1 n0 (by omega) (HI.out.below hBF) HB.out).mono ?_
          rintro r wG ⟨vG, rfl, AG, cG, rfl, hcG, hIG, hbG⟩
          have hBG := hBF.trans (hbG.mono hBF.size)
          have bxG := bxF.below hbG
          have HCG := hide (HCF.out.below hbG)
          have HRG := hide (HRF.out.below hbG)
          clear x0 x1 hbG hBF bxF HRF HCF hltF
          go_wp2_with fail
          refine (ints_any A6 AG d d c6 cG (remB d t n F) (remB d t n F) _ (by omega) (by omega) HRG.out (hIG.weak (Nat.zero_le _))).mono ?_
          rintro r wH ⟨rfl, qH, rfl⟩
          rw [intsB_iff.2 ⟨rfl, fun _ _ => rfl⟩]
          have hBH := below_drewN hBG qH
          have bxH := bxG.drewN qH
          have HCH := hide (HCG.out.drewN qH)
          clear hBG bxG HCG HRG hIG
          generalize wG.drewN qH = wH at *
          have x0 : wH.cell? ⟨w.heap.size, 0, none⟩ = some (.int .i64 (d : Int)) := bxH.at_ 0
          have x1 : wH.cell? ⟨w.heap.size, 1, none⟩ = some (.int .i64 (t : Int)) := bxH.at_ 1
          have hltH := bxH.lt
          go_wp2_with fail
          refine (checkedR_any d t A n c F _ h0 h1 t1 n0 (by omega) (HI.out.below hBH) HB.out).mono ?_
          rintro r wI ⟨vI, rfl, hownI, hbI⟩
          obtain ⟨AI, cI, rfl, -, hII⟩ := hownI.form
          have hBI := hBH.trans (hbI.mono hBH.size)
          have bxI := bxH.below hbI
          have HCI := hide (HCH.out.below hbI)
          clear x0 x1 hbI hBH bxH HCH hltH hownI
          go_wp2_with fail
          refine (ints_any A7 AI (n + d) (n + d) c7 cI _ _ _ (by omega) (by omega) HCI.out (hII.weak (Nat.zero_le _))).mono ?_
          rintro r wJ ⟨rfl, qJ, rfl⟩
          rw [intsB_iff.2 ⟨rfl, fun _ _ => rfl⟩]
          have hBJ := below_drewN hBI qJ
          have bxJ := bxI.drewN qJ
          clear hBI bxI HCI hII
          generalize wI.drewN qJ = wJ at *
          have x0 : wJ.cell? ⟨w.heap.size, 0, none⟩ = some (.int .i64 (d : Int)) := bxJ.at_ 0
          have x1 : wJ.cell? ⟨w.heap.size, 1, none⟩ = some (.int .i64 (t : Int)) := bxJ.at_ 1
          have hltJ := bxJ.lt
          have tle : decide ((n : Int) ≤ (d : Int)) = false := by simp; omega
          obtain ⟨b, o, rfl, -, -, -⟩ := HI.out 0 n0
          go_wp2_with fail
          refine (isRightR_any d t b o n c F _ h0 h1 t1 hnd (by omega) hnc hc (HI.out.below hBJ) HB.out).mono ?_
          rintro r wK ⟨rfl, hbK⟩
          have hBK := hBJ.trans (hbK.mono hBJ.size)
          have TE := (show ((intsB d (fun j => F (n - d + j)) d (remB d t (n - d) F)) == (intsB d (fun j => F (n - d + j)) d (remB d t (n - d) F))) = true from by simp)
          generalize intsB d (fun j => F (n - d + j)) d (remB d t (n - d) F) = R at *
          go_wp2_with fail
          go_ret
          exact ⟨rfl, hBK⟩
      · obtain ⟨E, hE⟩ : ∃ E, E = bitsErrR n F := ⟨_, rfl⟩
        have HE := hide (show polyBitsErr d t n F = E from by unfold polyBitsErr; rw [if_pos hp, hE])
        have h0 : E ≠ 0 := by rw [hE]; exact hbz
        have HBE := hide hE
        rw [hp]
        clear hbz hE
        have x0 : wA.cell? ⟨w.heap.size, 0, none⟩ = some (.int .i64 d) := bxwA.at_ 0
        have x1 : wA.cell? ⟨w.heap.size, 1, none⟩ = some (.int .i64 t) := bxwA.at_ 1
        have hltwA := bxwA.lt
        go_wp2_with fail
        have SOF := hide (fun W' (h : Below wA.heap.size wA W') => (⟨(h.cell (p := ⟨w.heap.size, 0, none⟩) hltwA).trans x0, (h.cell (p := ⟨w.heap.size, 1, none⟩) hltwA).trans x1, h⟩ :
          W'.cell? ⟨w.heap.size, 0, none⟩ = some (.int .i64 d) ∧ W'.cell? ⟨w.heap.size, 1, none⟩ = some (.int .i64 t) ∧ Below wA.heap.size wA W'))
        have KI := hide (fun W' (h : W'.cell? ⟨w.heap.size, 0, none⟩ = some (.int .i64 d) ∧ W'.cell? ⟨w.heap.size, 1, none⟩ = some (.int .i64 t) ∧ Below wA.heap.size wA W') => HI.out.below (hBwA.trans (h.2.2.mono hBwA.size)))
        have bb0 : Below wA.heap.size wA wA := Below.refl _ _
        have HBB := hide hBwA
        clear x0 x1 hBwA
        go_region_held3 (fun w' => w'.cell? ⟨w.heap.size, 0, none⟩ = some (.int .i64 d) ∧ w'.cell? ⟨w.heap.size, 1, none⟩ = some (.int .i64 t) ∧ Below wA.heap.size wA w')
            (first | assumption | exact SOF.out _ (by assumption) | exact SOF.out _ bb0.drew | exact SOF.out _ (balloc' (by assumption) (Nat.le_refl _) _))
            (first
              | (go_at_call 11; refine (copyInts_own A n c F _ (by omega) (KI.out _ (by assumption))).mono ?_; rintro e wk ⟨vk, rfl, hownk, hbk⟩; obtain ⟨Ak, ck, rfl, hnck, hIk⟩ := hownk.form; have hck := hownk.cap_any; have hsk : Below wA.heap.size wA wk := bstep2 hbk (by assumption) (Nat.le_refl _))
              | (go_at_call 26; refine (Remainder_err d t Ak n ck F _ E HE.out h0 (by omega) (hIk.weak (Nat.zero_le _))).mono ?_; rintro e wB ⟨rfl, hbwB⟩; have hswB : Below wA.heap.size wA wB := bstep2 hbwB (by assumption) (Nat.le_refl _)))
        have bxwB := bxwA.below hswB
        have hBwB : Below w.heap.size w wB := HBB.out.trans (hswB.mono HBB.out.size)
        clear SOF KI hsk hbk hbwB hownk hIk hnck hck bb0 HBB hswB hltwA bxwA
        have x0 : wB.cell? ⟨w.heap.size, 0, none⟩ = some (.int .i64 d) := bxwB.at_ 0
        have x1 : wB.cell? ⟨w.heap.size, 1, none⟩ = some (.int .i64 t) := bxwB.at_ 1
        have hltwB := bxwB.lt
        go_wp2_with fail
        have SOF := hide (fun W' (h : Below wB.heap.size wB W') => (⟨(h.cell (p := ⟨w.heap.size, 0, none⟩) hltwB).trans x0, (h.cell (p := ⟨w.heap.size, 1, none⟩) hltwB).trans x1, h⟩ :
          W'.cell? ⟨w.heap.size, 0, none⟩ = some (.int .i64 d) ∧ W'.cell? ⟨w.heap.size, 1, none⟩ = some (.int .i64 t) ∧ Below wB.heap.size wB W'))
        have KI := hide (fun W' (h : W'.cell? ⟨w.heap.size, 0, none⟩ = some (.int .i64 d) ∧ W'.cell? ⟨w.heap.size, 1, none⟩ = some (.int .i64 t) ∧ Below wB.heap.size wB W') => HI.out.below (hBwB.trans (h.2.2.mono hBwB.size)))
        have bb0 : Below wB.heap.size wB wB := Below.refl _ _
        have HBB := hide hBwB
        clear x0 x1 hBwB
        go_region_held3 (fun w' => w'.cell? ⟨w.heap.size, 0, none⟩ = some (.int .i64 d) ∧ w'.cell? ⟨w.heap.size, 1, none⟩ = some (.int .i64 t) ∧ Below wB.heap.size wB w')
            (first | assumption | exact SOF.out _ (by assumption) | exact SOF.out _ bb0.drew | exact SOF.out _ (balloc' (by assumption) (Nat.le_refl _) _))
            (first
              | (go_at_call 11; refine (copyInts_own A n c F _ (by omega) (KI.out _ (by assumption))).mono ?_; rintro e wk ⟨vk, rfl, hownk, hbk⟩; obtain ⟨Ak, ck, rfl, hnck, hIk⟩ := hownk.form; have hck := hownk.cap_any; have hsk : Below wB.heap.size wB wk := bstep2 hbk (by assumption) (Nat.le_refl _))
              | (go_at_call 19; refine (Checked_err d t Ak n ck F _ E HE.out h0 (by omega) (hIk.weak (Nat.zero_le _))).mono ?_; rintro e wC ⟨rfl, hbwC⟩; have hswC : Below wB.heap.size wB wC := bstep2 hbwC (by assumption) (Nat.le_refl _)))
        have bxwC := bxwB.below hswC
        have hBwC : Below w.heap.size w wC := HBB.out.trans (hswC.mono HBB.out.size)
        clear SOF KI hsk hbk hbwC hownk hIk hnck hck bb0 HBB hswC hltwB bxwB
        have x0 : wC.cell? ⟨w.heap.size, 0, none⟩ = some (.int .i64 d) := bxwC.at_ 0
        have x1 : wC.cell? ⟨w.heap.size, 1, none⟩ = some (.int .i64 t) := bxwC.at_ 1
        have hltwC := bxwC.lt
        go_wp2_with fail
        have SOF := hide (fun W' (h : Below wC.heap.size wC W') => (⟨(h.cell (p := ⟨w.heap.size, 0, none⟩) hltwC).trans x0, (h.cell (p := ⟨w.heap.size, 1, none⟩) hltwC).trans x1, h⟩ :
          W'.cell? ⟨w.heap.size, 0, none⟩ = some (.int .i64 d) ∧ W'.cell? ⟨w.heap.size, 1, none⟩ = some (.int .i64 t) ∧ Below wC.heap.size wC W'))
        have KI := hide (fun W' (h : W'.cell? ⟨w.heap.size, 0, none⟩ = some (.int .i64 d) ∧ W'.cell? ⟨w.heap.size, 1, none⟩ = some (.int .i64 t) ∧ Below wC.heap.size wC W') => HI.out.below (hBwC.trans (h.2.2.mono hBwC.size)))
        have bb0 : Below wC.heap.size wC wC := Below.refl _ _
        have HBB := hide hBwC
        clear x0 x1 hBwC
        go_region_held3 (fun w' => w'.cell? ⟨w.heap.size, 0, none⟩ = some (.int .i64 d) ∧ w'.cell? ⟨w.heap.size, 1, none⟩ = some (.int .i64 t) ∧ Below wC.heap.size wC w')
            (first | assumption | exact SOF.out _ (by assumption) | exact SOF.out _ bb0.drew | exact SOF.out _ (balloc' (by assumption) (Nat.le_refl _) _))
            (first
              | (go_at_call 11; refine (copyInts_own A n c F _ (by omega) (KI.out _ (by assumption))).mono ?_; rintro e wk ⟨vk, rfl, hownk, hbk⟩; obtain ⟨Ak, ck, rfl, hnck, hIk⟩ := hownk.form; have hck := hownk.cap_any; have hsk : Below wC.heap.size wC wk := bstep2 hbk (by assumption) (Nat.le_refl _))
              | (go_at_call 20; refine (IsRight_err d t Ak n ck F _ E HE.out h0 (by omega) hnck hck.2 hd9 (hIk.weak (Nat.zero_le _))).mono ?_; rintro e wD ⟨rfl, hbwD⟩; have hswD : Below wC.heap.size wC wD := bstep2 hbwD (by assumption) (Nat.le_refl _)))
        have bxwD := bxwC.below hswD
        have hBwD : Below w.heap.size w wD := HBB.out.trans (hswD.mono HBB.out.size)
        clear SOF KI hsk hbk hbwD hownk hIk hnck hck bb0 HBB hswD hltwC bxwC
        have x0 : wD.cell? ⟨w.heap.size, 0, none⟩ = some (.int .i64 d) := bxwD.at_ 0
        have x1 : wD.cell? ⟨w.heap.size, 1, none⟩ = some (.int .i64 t) := bxwD.at_ 1
        have hltwD := bxwD.lt
        go_wp2_with fail
        refine (checkPolyR_any d t _).mono ?_
        rintro r wE ⟨rfl, hbE⟩
        have hBE := hBwD.trans (hbE.mono hBwD.size)
        clear x0 x1
        rw [hp]
        go_wp2_with fail
        refine (bitsErrR_any A n c F _ hn (HI.out.below hBE)).mono ?_
        rintro r wF ⟨rfl, qF, rfl⟩
        rw [← HBE.out]
        have t9 : (E != 0) = true := by simpa using h0
        go_wp2_with fail
        go_ret
        exact ⟨rfl, below_drewN hBE _⟩
    · obtain ⟨E, hE⟩ : ∃ E, E = polyErrI d t := ⟨_, rfl⟩
      have HE := hide (show polyBitsErr d t n F = E from by unfold polyBitsErr; rw [if_neg hp, hE])
      have h0 : E ≠ 0 := by rw [hE]; exact hp
      rw [← hE]
      have HPE := hide hE
      clear hp hE
      have x0 : wA.cell? ⟨w.heap.size, 0, none⟩ = some (.int .i64 d) := bxwA.at_ 0
      have x1 : wA.cell? ⟨w.heap.size, 1, none⟩ = some (.int .i64 t) := bxwA.at_ 1
      have hltwA := bxwA.lt
      go_wp2_with fail
      have SOF := hide (fun W' (h : Below wA.heap.size wA W') => (⟨(h.cell (p := ⟨w.heap.size, 0, none⟩) hltwA).trans x0, (h.cell (p := ⟨w.heap.size, 1, none⟩) hltwA).trans x1, h⟩ :
        W'.cell? ⟨w.heap.size, 0, none⟩ = some (.int .i64 d) ∧ W'.cell? ⟨w.heap.size, 1, none⟩ = some (.int .i64 t) ∧ Below wA.heap.size wA W'))
      have KI := hide (fun W' (h : W'.cell? ⟨w.heap.size, 0, none⟩ = some (.int .i64 d) ∧ W'.cell? ⟨w.heap.size, 1, none⟩ = some (.int .i64 t) ∧ Below wA.heap.size wA W') => HI.out.below (hBwA.trans (h.2.2.mono hBwA.size)))
      have bb0 : Below wA.heap.size wA wA := Below.refl _ _
      have HBB := hide hBwA
      clear x0 x1 hBwA
      go_region_held3 (fun w' => w'.cell? ⟨w.heap.size, 0, none⟩ = some (.int .i64 d) ∧ w'.cell? ⟨w.heap.size, 1, none⟩ = some (.int .i64 t) ∧ Below wA.heap.size wA w')
          (first | assumption | exact SOF.out _ (by assumption) | exact SOF.out _ bb0.drew | exact SOF.out _ (balloc' (by assumption) (Nat.le_refl _) _))
          (first
            | (go_at_call 11; refine (copyInts_own A n c F _ (by omega) (KI.out _ (by assumption))).mono ?_; rintro e wk ⟨vk, rfl, hownk, hbk⟩; obtain ⟨Ak, ck, rfl, hnck, hIk⟩ := hownk.form; have hck := hownk.cap_any; have hsk : Below wA.heap.size wA wk := bstep2 hbk (by assumption) (Nat.le_refl _))
            | (go_at_call 26; refine (Remainder_err d t Ak n ck F _ E HE.out h0 (by omega) (hIk.weak (Nat.zero_le _))).mono ?_; rintro e wB ⟨rfl, hbwB⟩; have hswB : Below wA.heap.size wA wB := bstep2 hbwB (by assumption) (Nat.le_refl _)))
      have bxwB := bxwA.below hswB
      have hBwB : Below w.heap.size w wB := HBB.out.trans (hswB.mono HBB.out.size)
      clear SOF KI hsk hbk hbwB hownk hIk hnck hck bb0 HBB hswB hltwA bxwA
      have x0 : wB.cell? ⟨w.heap.size, 0, none⟩ = some (.int .i64 d) := bxwB.at_ 0
      have x1 : wB.cell? ⟨w.heap.size, 1, none⟩ = some (.int .i64 t) := bxwB.at_ 1
      have hltwB := bxwB.lt
      go_wp2_with fail
      have SOF := hide (fun W' (h : Below wB.heap.size wB W') => (⟨(h.cell (p := ⟨w.heap.size, 0, none⟩) hltwB).trans x0, (h.cell (p := ⟨w.heap.size, 1, none⟩) hltwB).trans x1, h⟩ :
        W'.cell? ⟨w.heap.size, 0, none⟩ = some (.int .i64 d) ∧ W'.cell? ⟨w.heap.size, 1, none⟩ = some (.int .i64 t) ∧ Below wB.heap.size wB W'))
      have KI := hide (fun W' (h : W'.cell? ⟨w.heap.size, 0, none⟩ = some (.int .i64 d) ∧ W'.cell? ⟨w.heap.size, 1, none⟩ = some (.int .i64 t) ∧ Below wB.heap.size wB W') => HI.out.below (hBwB.trans (h.2.2.mono hBwB.size)))
      have bb0 : Below wB.heap.size wB wB := Below.refl _ _
      have HBB := hide hBwB
      clear x0 x1 hBwB
      go_region_held3 (fun w' => w'.cell? ⟨w.heap.size, 0, none⟩ = some (.int .i64 d) ∧ w'.cell? ⟨w.heap.size, 1, none⟩ = some (.int .i64 t) ∧ Below wB.heap.size wB w')
          (first | assumption | exact SOF.out _ (by assumption) | exact SOF.out _ bb0.drew | exact SOF.out _ (balloc' (by assumption) (Nat.le_refl _) _))
          (first
            | (go_at_call 11; refine (copyInts_own A n c F _ (by omega) (KI.out _ (by assumption))).mono ?_; rintro e wk ⟨vk, rfl, hownk, hbk⟩; obtain ⟨Ak, ck, rfl, hnck, hIk⟩ := hownk.form; have hck := hownk.cap_any; have hsk : Below wB.heap.size wB wk := bstep2 hbk (by assumption) (Nat.le_refl _))
            | (go_at_call 19; refine (Checked_err d t Ak n ck F _ E HE.out h0 (by omega) (hIk.weak (Nat.zero_le _))).mono ?_; rintro e wC ⟨rfl, hbwC⟩; have hswC : Below wB.heap.size wB wC := bstep2 hbwC (by assumption) (Nat.le_refl _)))
      have bxwC := bxwB.below hswC
      have hBwC : Below w.heap.size w wC := HBB.out.trans (hswC.mono HBB.out.size)
      clear SOF KI hsk hbk hbwC hownk hIk hnck hck bb0 HBB hswC hltwB bxwB
      have x0 : wC.cell? ⟨w.heap.size, 0, none⟩ = some (.int .i64 d) := bxwC.at_ 0
      have x1 : wC.cell? ⟨w.heap.size, 1, none⟩ = some (.int .i64 t) := bxwC.at_ 1
      have hltwC := bxwC.lt
      go_wp2_with fail
      have SOF := hide (fun W' (h : Below wC.heap.size wC W') => (⟨(h.cell (p := ⟨w.heap.size, 0, none⟩) hltwC).trans x0, (h.cell (p := ⟨w.heap.size, 1, none⟩) hltwC).trans x1, h⟩ :
        W'.cell? ⟨w.heap.size, 0, none⟩ = some (.int .i64 d) ∧ W'.cell? ⟨w.heap.size, 1, none⟩ = some (.int .i64 t) ∧ Below wC.heap.size wC W'))
      have KI := hide (fun W' (h : W'.cell? ⟨w.heap.size, 0, none⟩ = some (.int .i64 d) ∧ W'.cell? ⟨w.heap.size, 1, none⟩ = some (.int .i64 t) ∧ Below wC.heap.size wC W') => HI.out.below (hBwC.trans (h.2.2.mono hBwC.size)))
      have bb0 : Below wC.heap.size wC wC := Below.refl _ _
      have HBB := hide hBwC
      clear x0 x1 hBwC
      go_region_held3 (fun w' => w'.cell? ⟨w.heap.size, 0, none⟩ = some (.int .i64 d) ∧ w'.cell? ⟨w.heap.size, 1, none⟩ = some (.int .i64 t) ∧ Below wC.heap.size wC w')
          (first | assumption | exact SOF.out _ (by assumption) | exact SOF.out _ bb0.drew | exact SOF.out _ (balloc' (by assumption) (Nat.le_refl _) _))
          (first
            | (go_at_call 11; refine (copyInts_own A n c F _ (by omega) (KI.out _ (by assumption))).mono ?_; rintro e wk ⟨vk, rfl, hownk, hbk⟩; obtain ⟨Ak, ck, rfl, hnck, hIk⟩ := hownk.form; have hck := hownk.cap_any; have hsk : Below wC.heap.size wC wk := bstep2 hbk (by assumption) (Nat.le_refl _))
            | (go_at_call 20; refine (IsRight_err d t Ak n ck F _ E HE.out h0 (by omega) hnck hck.2 hd9 (hIk.weak (Nat.zero_le _))).mono ?_; rintro e wD ⟨rfl, hbwD⟩; have hswD : Below wC.heap.size wC wD := bstep2 hbwD (by assumption) (Nat.le_refl _)))
      have bxwD := bxwC.below hswD
      have hBwD : Below w.heap.size w wD := HBB.out.trans (hswD.mono HBB.out.size)
      clear SOF KI hsk hbk hbwD hownk hIk hnck hck bb0 HBB hswD hltwC bxwC
      have x0 : wD.cell? ⟨w.heap.size, 0, none⟩ = some (.int .i64 d) := bxwD.at_ 0
      have x1 : wD.cell? ⟨w.heap.size, 1, none⟩ = some (.int .i64 t) := bxwD.at_ 1
      have hltwD := bxwD.lt
      go_wp2_with fail
      refine (checkPolyR_any d t _).mono ?_
      rintro r wE ⟨rfl, hbE⟩
      have hBE := hBwD.trans (hbE.mono hBwD.size)
      clear x0 x1
      rw [← HPE.out]
      have t8 : (E == 0) = false := by simpa using h0
      have t9 : (E != 0) = true := by simpa using h0
      go_wp2_with fail
      go_ret
      exact ⟨rfl, hBE⟩
  · rw [decide_eq_false hfew]
    go_wp2_with fail
    go_ret
    exact ⟨rfl, hB1⟩
end Go.Proofs.Ytdimjagmecnldaa
