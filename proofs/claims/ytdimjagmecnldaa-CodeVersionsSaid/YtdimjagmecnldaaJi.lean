/- CodeVersions: the walk. -/
import Derived.Test.YtdimjagmecnldaaJe
import Derived.Test.YtdimjagmecnldaaJh
import Derived.Test.YtdimjagmecnldaaId
import Derived.Test.YtdimjagmecnldaaFc
import Derived.Deep.DeepCutAuto
namespace Go.Proofs.Ytdimjagmecnldaa
open Go.RowKit Go.Shelf
theorem bstep3 {B : Nat} {w1 W w2 : World} {p q r : Prop} (hb : Below W.heap.size W w2) (h : p ∧ q ∧ r ∧ Below B w1 W) (hB : B ≤ w1.heap.size) : Below B w1 w2 := h.2.2.2.trans (hb.mono (Nat.le_trans hB h.2.2.2.size))
/-- What a result holds: nothing, where there is an error; else n numbers. -/
def ResV (E : Int) (n : Nat) (F : Nat → Int) (v : Value) (w' : World) : Prop := (E ≠ 0 ∧ v = .slice none 0 0) ∨ (E = 0 ∧ ∃ A c, v = .slice A n c ∧ IntsAt w' 0 A n F)
theorem ResV.keep {E : Int} {n : Nat} {F : Nat → Int} {v : Value} {w w' : World} (h : ResV E n F v w) (hb : Below w.heap.size w w') : ResV E n F v w' := by
  rcases h with h | ⟨h, A, c, e, hI⟩
  · exact .inl h
  · exact .inr ⟨h, A, c, e, hI.below hb⟩
theorem res_of {E : Int} {n : Nat} {F : Nat → Int} {w : World} {e : Ending} {w' : World} (h : GaveOr E n F w e w') : ∃ v, e = .returned (.tuple #[v, .int .i64 E]) ∧ ResV E n F v w' ∧ Below w.heap.size w w' := by
  rcases h with ⟨h0, e, hb⟩ | ⟨h0, v, e, A, c, ev, -, hI, hb⟩
  · exact ⟨_, e, .inl ⟨h0, rfl⟩, hb⟩
  · exact ⟨v, by rw [h0]; exact e, .inr ⟨h0, A, c, ev, hI.weak (Nat.zero_le _)⟩, hb⟩
theorem Match_res (A : Option Addr) (n c : Nat) (v C : Int) (B : Nat → Int) (w : World) (hI : IntsAt w 0 A n B) (hn : n ≤ 1000) :
    Calls Try.prog 39 #[.slice A n c, .int .i64 v, .int .i64 C] w fun e w' => ∃ x, e = .returned (.tuple #[x, .int .i64 (matchErr n B v C)]) ∧ ResV (matchErr n B v C) C.toNat (fun k => B (placeN v.toNat n k)) x w' ∧ Below w.heap.size w w' :=
  (Match_any A n c v C B w hI hn).mono fun _ _ h => res_of h
theorem Gathered_res (A : Option Addr) (n c : Nat) (v l : Int) (S : Nat → Int) (w : World) (hI : IntsAt w 0 A n S) (hn : n ≤ 1000) :
    Calls Try.prog 40 #[.slice A n c, .int .i64 v, .int .i64 l] w fun e w' => ∃ x, e = .returned (.tuple #[x, .int .i64 (gathErr n S v l)]) ∧ ResV (gathErr n S v l) l.toNat (gatherF v.toNat l.toNat S n) x w' ∧ Below w.heap.size w w' :=
  (Gathered_any A n c v l S w hI hn).mono fun _ _ h => res_of h
theorem Combined_res (A C : Option Addr) (n m c d : Nat) (F G : Nat → Int) (w : World) (hF : IntsAt w 0 A n F) (hG : IntsAt w 0 C m G) (hn : n ≤ 1000) (hm : m ≤ 1000) :
    Calls Try.prog 41 #[.slice A n c, .slice C m d] w fun e w' => ∃ x, e = .returned (.tuple #[x, .int .i64 (combAll n m F G)]) ∧ ResV (combAll n m F G) n (fun j => F j + G j) x w' ∧ Below w.heap.size w w' :=
  (Combined_any A C n m c d F G w hF hG hn hm).mono fun _ _ h => res_of h
theorem matchErr_if (n : Nat) (F : Nat → Int) (v c : Int) : matchErr n F v c = if (if bitsErrR n F = 0 then unI (withinB v 0 3) 15 else bitsErrR n F) = 0 then unI (withinB c 1 400) 2 else (if bitsErrR n F = 0 then unI (withinB v 0 3) 15 else bitsErrR n F) := by
  unfold matchErr
  by_cases h : bitsErrR n F = 0
  · rw [if_pos h, if_pos h]
  · rw [if_neg h, if_neg h, if_neg h]
theorem gathErr_if (n : Nat) (S : Nat → Int) (v l : Int) : gathErr n S v l = if (if sizedErrI n 400 S 1000000 = 0 then unI (withinB v 0 3) 15 else sizedErrI n 400 S 1000000) = 0 then unI (withinB l 1 200) 2 else (if sizedErrI n 400 S 1000000 = 0 then unI (withinB v 0 3) 15 else sizedErrI n 400 S 1000000) := by
  unfold gathErr
  by_cases h : sizedErrI n 400 S 1000000 = 0
  · rw [if_pos h, if_pos h]
  · rw [if_neg h, if_neg h, if_neg h]
theorem combAll_if (n m : Nat) (F S : Nat → Int) : combAll n m F S = if (if sizedErrI n 200 F 1000000000 = 0 then sizedErrI m 200 S 1000000000 else sizedErrI n 200 F 1000000000) = 0 then combErrI n m F S else (if sizedErrI n 200 F 1000000000 = 0 then sizedErrI m 200 S 1000000000 else sizedErrI n 200 F 1000000000) := by
  unfold combAll
  by_cases h : sizedErrI n 200 F 1000000000 = 0
  · rw [if_pos h, if_pos h]
  · rw [if_neg h, if_neg h, if_neg h]
theorem comb_zero {a b : Int} (h : (if a = 0 then b else a) = 0) : a = 0 ∧ b = 0 := by
  by_cases h1 : a = 0
  · rw [if_pos h1] at h; exact ⟨h1, h⟩
  · rw [if_neg h1] at h; exact absurd h h1
set_option maxHeartbeats 8000000 in
set_option maxRecDepth 100000 in
theorem codeVersions_walk (A C : Option Addr) (n c m d : Nat) (F S : Nat → Int) (x0 x1 x2 : Int) (w : World) (hn : n ≤ 9223372036854775807) (hm : m ≤ 9223372036854775807) (hI : IntsAt w 0 A n F) (hJ : IntsAt w 0 C m S) :
    Calls Try.prog 8 #[.slice A n c, .slice C m d, .agg #[.int .i64 x0, .int .i64 x1, .int .i64 x2]] w fun r w' => r = .returned (.bool true) ∧ Below w.heap.size w w' := by
  have HI := hide hI
  have HJ := hide hJ
  clear hI hJ
  go_enter Try.func8, Try.ntmps8
  go_wp2_with fail
  refine (awake_any _).mono ?_
  rintro r wA ⟨rfl, hb1⟩
  have bxwA : Box wA w.heap.size 60 #[.int .i64 x0, .int .i64 x1, .int .i64 x2] := (Box.made rfl).below hb1
  have hBwA : Below w.heap.size w wA := below_of_alloc hb1
  clear hb1
  have y1 : wA.cell? ⟨w.heap.size, 1, none⟩ = some (.int .i64 x1) := bxwA.at_ 1
  have y2 : wA.cell? ⟨w.heap.size, 2, none⟩ = some (.int .i64 x2) := bxwA.at_ 2
  have hltA := bxwA.lt
  go_wp2_with fail
  refine (few_any A n c 200 _ hn (by decide)).mono ?_
  rintro r w2 ⟨rfl, rfl⟩
  by_cases f1 : n ≤ 40 ∨ 200 < n ∧ n ≤ 200 + 2
  · rw [decide_eq_true f1]
    have hn2 : n ≤ 202 := by omega
    clear f1
    go_wp2_with fail
    refine (few_any C m d 400 _ hm (by decide)).mono ?_
    rintro r w2 ⟨rfl, rfl⟩
    by_cases f2 : m ≤ 40 ∨ 400 < m ∧ m ≤ 400 + 2
    · rw [decide_eq_true f2]
      have hm2 : m ≤ 402 := by omega
      clear f2
      go_wp2_with fail
      refine (within_any _ _ _ _).mono ?_
      rintro r w2 ⟨rfl, rfl⟩
      cases f3 : withinB x1 61 400
      · go_wp2_with fail
        refine (within_any _ _ _ _).mono ?_
        rintro r w2 ⟨rfl, rfl⟩
        cases f4 : withinB x2 61 200
        · clear f3 f4 y1 y2 hltA
          have y0 : wA.cell? ⟨w.heap.size, 0, none⟩ = some (.int .i64 x0) := bxwA.at_ 0
          have y1 : wA.cell? ⟨w.heap.size, 1, none⟩ = some (.int .i64 x1) := bxwA.at_ 1
          have y2 : wA.cell? ⟨w.heap.size, 2, none⟩ = some (.int .i64 x2) := bxwA.at_ 2
          have hltwA := bxwA.lt
          go_wp2_with fail
          have SOF := hide (fun W' (h : Below wA.heap.size wA W') => (⟨(h.cell (p := ⟨w.heap.size, 0, none⟩) hltwA).trans y0, (h.cell (p := ⟨w.heap.size, 1, none⟩) hltwA).trans y1, (h.cell (p := ⟨w.heap.size, 2, none⟩) hltwA).trans y2, h⟩ :
            W'.cell? ⟨w.heap.size, 0, none⟩ = some (.int .i64 x0) ∧ W'.cell? ⟨w.heap.size, 1, none⟩ = some (.int .i64 x1) ∧ W'.cell? ⟨w.heap.size, 2, none⟩ = some (.int .i64 x2) ∧ Below wA.heap.size wA W'))
          have KI := hide (fun W' (h : W'.cell? ⟨w.heap.size, 0, none⟩ = some (.int .i64 x0) ∧ W'.cell? ⟨w.heap.size, 1, none⟩ = some (.int .i64 x1) ∧ W'.cell? ⟨w.heap.size, 2, none⟩ = some (.int .i64 x2) ∧ Below wA.heap.size wA W') => HI.out.below (hBwA.trans (h.2.2.2.mono hBwA.size)))
          have bb0 : Below wA.heap.size wA wA := Below.refl _ _
          have HBB := hide hBwA
          clear y0 y1 y2 hBwA
          go_region_held3 (fun w' => w'.cell? ⟨w.heap.size, 0, none⟩ = some (.int .i64 x0) ∧ w'.cell? ⟨w.heap.size, 1, none⟩ = some (.int .i64 x1) ∧ w'.cell? ⟨w.heap.size, 2, none⟩ = some (.int .i64 x2) ∧ Below wA.heap.size wA w')
              (first | assumption | exact SOF.out _ (by assumption) | exact SOF.out _ bb0.drew | exact SOF.out _ (balloc' (by assumption) (Nat.le_refl _) _))
              (first
                | (go_at_call 11; refine (copyInts_own A n c F _ (by omega) (KI.out _ (by assumption))).mono ?_; rintro e wk ⟨vk, rfl, hownk, hbk⟩; obtain ⟨Ak, ck, rfl, hnck, hIk⟩ := hownk.form; have hsk : Below wA.heap.size wA wk := bstep3 hbk (by assumption) (Nat.le_refl _))
                | (go_at_call 39; refine (Match_res Ak n ck x0 x1 F _ (hIk.weak (Nat.zero_le _)) (by omega)).mono ?_; rintro e wB ⟨v1, rfl, hr1, hbwB⟩; have hswB : Below wA.heap.size wA wB := bstep3 hbwB (by assumption) (Nat.le_refl _)))
          have bxwB := bxwA.below hswB
          have hBwB : Below w.heap.size w wB := HBB.out.trans (hswB.mono HBB.out.size)
          have R1 := hide hr1
          clear hr1
          clear SOF KI hsk hbk hbwB hownk hIk hnck bb0 HBB hswB hltwA bxwA
          have y0 : wB.cell? ⟨w.heap.size, 0, none⟩ = some (.int .i64 x0) := bxwB.at_ 0
          have y1 : wB.cell? ⟨w.heap.size, 1, none⟩ = some (.int .i64 x1) := bxwB.at_ 1
          have y2 : wB.cell? ⟨w.heap.size, 2, none⟩ = some (.int .i64 x2) := bxwB.at_ 2
          have hltwB := bxwB.lt
          go_wp2_with fail
          have SOF := hide (fun W' (h : Below wB.heap.size wB W') => (⟨(h.cell (p := ⟨w.heap.size, 0, none⟩) hltwB).trans y0, (h.cell (p := ⟨w.heap.size, 1, none⟩) hltwB).trans y1, (h.cell (p := ⟨w.heap.size, 2, none⟩) hltwB).trans y2, h⟩ :
            W'.cell? ⟨w.heap.size, 0, none⟩ = some (.int .i64 x0) ∧ W'.cell? ⟨w.heap.size, 1, none⟩ = some (.int .i64 x1) ∧ W'.cell? ⟨w.heap.size, 2, none⟩ = some (.int .i64 x2) ∧ Below wB.heap.size wB W'))
          have KI := hide (fun W' (h : W'.cell? ⟨w.heap.size, 0, none⟩ = some (.int .i64 x0) ∧ W'.cell? ⟨w.heap.size, 1, none⟩ = some (.int .i64 x1) ∧ W'.cell? ⟨w.heap.size, 2, none⟩ = some (.int .i64 x2) ∧ Below wB.heap.size wB W') => HJ.out.below (hBwB.trans (h.2.2.2.mono hBwB.size)))
          have bb0 : Below wB.heap.size wB wB := Below.refl _ _
          have HBB := hide hBwB
          clear y0 y1 y2 hBwB
          go_region_held3 (fun w' => w'.cell? ⟨w.heap.size, 0, none⟩ = some (.int .i64 x0) ∧ w'.cell? ⟨w.heap.size, 1, none⟩ = some (.int .i64 x1) ∧ w'.cell? ⟨w.heap.size, 2, none⟩ = some (.int .i64 x2) ∧ Below wB.heap.size wB w')
              (first | assumption | exact SOF.out _ (by assumption) | exact SOF.out _ bb0.drew | exact SOF.out _ (balloc' (by assumption) (Nat.le_refl _) _))
              (first
                | (go_at_call 11; refine (copyInts_own C m d S _ (by omega) (KI.out _ (by assumption))).mono ?_; rintro e wk ⟨vk, rfl, hownk, hbk⟩; obtain ⟨Ak, ck, rfl, hnck, hIk⟩ := hownk.form; have hsk : Below wB.heap.size wB wk := bstep3 hbk (by assumption) (Nat.le_refl _))
                | (go_at_call 40; refine (Gathered_res Ak m ck x0 x2 S _ (hIk.weak (Nat.zero_le _)) (by omega)).mono ?_; rintro e wC ⟨v2, rfl, hr2, hbwC⟩; have hswC : Below wB.heap.size wB wC := bstep3 hbwC (by assumption) (Nat.le_refl _)))
          have bxwC := bxwB.below hswC
          have hBwC : Below w.heap.size w wC := HBB.out.trans (hswC.mono HBB.out.size)
          have R1 := hide (R1.out.keep hswC)
          have R2 := hide hr2
          clear hr2
          clear SOF KI hsk hbk hbwC hownk hIk hnck bb0 HBB hswC hltwB bxwB
          go_wp2_with fail
          refine (copyInts_own A n c F _ (by omega) (HI.out.below hBwC)).mono ?_
          rintro r wD ⟨vD, rfl, hownD, hbD⟩
          obtain ⟨AD, cD, rfl, -, hID⟩ := hownD.form
          have hBD := hBwC.trans (hbD.mono hBwC.size)
          go_wp2_with fail
          refine (copyInts_own C m d S _ (by omega) (HJ.out.below hBD)).mono ?_
          rintro r wE ⟨vE, rfl, hownE, hbE⟩
          obtain ⟨AE, cE, rfl, -, hIE⟩ := hownE.form
          have hBE := hBD.trans (hbE.mono hBD.size)
          go_wp2_with fail
          refine (Combined_res AD AE n m cD cE F S _ ((hID.below hbE).weak (Nat.zero_le _)) (hIE.weak (Nat.zero_le _)) (by omega) (by omega)).mono ?_
          rintro r wF ⟨v3, rfl, hr3, hbF⟩
          have hBwF := hBE.trans (hbF.mono hBE.size)
          have hCF : Below wC.heap.size wC wF := (hbD.trans (hbE.mono hbD.size)).trans (hbF.mono (Nat.le_trans hbD.size hbE.size))
          have bxwF := bxwC.below hCF
          have R1 := hide (R1.out.keep hCF)
          have R2 := hide (R2.out.keep hCF)
          have R3 := hide hr3
          clear hr3 hBwC hbD hBD hbE hBE hbF hownD hownE hID hIE bxwC hCF
          go_upto_if 66 with (go_at_call 18; refine (bitsErrR_any A n c F _ hn (HI.out.below hBwF)).mono ?_; rintro e wx ⟨rfl, qx, rfl⟩)
          have hbq : Below wF.heap.size wF (wF.drewN qx) := below_drewN (Below.refl _ _) qx
          have hBwG := below_drewN hBwF qx
          have bxwG := bxwF.drewN qx
          have R1 := hide (R1.out.keep hbq)
          have R2 := hide (R2.out.keep hbq)
          have R3 := hide (R3.out.keep hbq)
          clear hbq hBwF bxwF
          generalize wF.drewN qx = wG at *
          have y0 : wG.cell? ⟨w.heap.size, 0, none⟩ = some (.int .i64 x0) := bxwG.at_ 0
          have y1 : wG.cell? ⟨w.heap.size, 1, none⟩ = some (.int .i64 x1) := bxwG.at_ 1
          have y2 : wG.cell? ⟨w.heap.size, 2, none⟩ = some (.int .i64 x2) := bxwG.at_ 2
          have hltwG := bxwG.lt
          go_cut [13] (fun s wc => s = .int .i64 (if bitsErrR n F = 0 then unI (withinB x0 0 3) 15 else bitsErrR n F) ∧ wc = wG)
          case first =>
            by_cases hb : bitsErrR n F = 0
            · have t := (show (bitsErrR n F == 0) = true from by simpa using hb)
              have HB0 := hide hb
              clear hb
              go_wp2_with (go_at_call 42; refine (versionErrR_any _ _).mono ?_; rintro e wy ⟨rfl, rfl⟩)
              go_meet
              case rel => exact ⟨by rw [if_pos HB0.out], rfl⟩
            · have t := (show (bitsErrR n F == 0) = false from by simpa using hb)
              have HB0 := hide hb
              clear hb
              go_wp2_with fail
              go_meet
              case rel => exact ⟨by rw [if_neg HB0.out], rfl⟩
          case rest =>
            obtain ⟨rfl, rfl⟩ := hcut
            obtain ⟨e1, he1⟩ : ∃ e1, e1 = (if bitsErrR n F = 0 then unI (withinB x0 0 3) 15 else bitsErrR n F) := ⟨_, rfl⟩
            rw [← he1]
            have HE1 := hide (show matchErr n F x0 x1 = if e1 = 0 then unI (withinB x1 1 400) 2 else e1 from by rw [he1]; exact matchErr_if n F x0 x1)
            clear he1
            go_upto_if 71 with fail
            go_cut [13] (fun s w8 => s = .int .i64 (matchErr n F x0 x1) ∧ w8 = wc)
            case first =>
              by_cases hb : e1 = 0
              · have t := (show (e1 == 0) = true from by simpa using hb)
                have HB0 := hide hb
                clear hb
                go_wp2_with (go_at_call 43; refine (countErrR_any _ _).mono ?_; rintro e wy ⟨rfl, rfl⟩)
                go_meet
                case rel => exact ⟨by rw [HE1.out, if_pos HB0.out], rfl⟩
              · have t := (show (e1 == 0) = false from by simpa using hb)
                have HB0 := hide hb
                clear hb
                go_wp2_with fail
                go_meet
                case rel => exact ⟨by rw [HE1.out, if_neg HB0.out], rfl⟩
            case rest =>
              obtain ⟨rfl, rfl⟩ := hcut
              clear HE1
              go_upto_region 13 with fail
              go_cut [7, 8, 13, 101] (fun _ _ _ s w7 => s = .bool false ∧ Below wc.heap.size wc w7)
              case first =>
                rcases R1.out with ⟨h0, rfl⟩ | ⟨h0, A1, c1, rfl, hI1⟩
                · have t1 := (show (matchErr n F x0 x1 != 0) = true from by simpa using h0)
                  have t2 := (show (matchErr n F x0 x1 == 0) = false from by simpa using h0)
                  clear h0 R1 R2 R3
                  generalize matchErr n F x0 x1 = E at *
                  go_wp2_with fail
                  go_meet
                  case rel => exact ⟨rfl, Below.refl _ _⟩
                · rw [h0]
                  obtain ⟨g1, ⟨v0, v9⟩, c0, c9⟩ := matchErr_zero h0
                  obtain ⟨n0, n1, -⟩ := bitsErrR_zero g1
                  have HI1 := hide hI1
                  clear R1 R2 R3 h0 g1 hI1
                  obtain ⟨x0, rfl⟩ := Int.eq_ofNat_of_zero_le v0
                  obtain ⟨x1, rfl⟩ := Int.eq_ofNat_of_zero_le (show 0 ≤ x1 by omega)
                  go_wp2_with fail
                  refine (matchR_any A n c x0 x1 F _ (HI.out.below hBwG) (by omega) (by omega) (by omega) (by omega)).mono ?_
                  rintro e wH ⟨vH, rfl, hownH, hbH⟩
                  obtain ⟨AH, cH, rfl, -, hIH⟩ := hownH.form
                  go_wp2_with fail
                  refine (ints_any A1 AH _ x1 c1 cH _ _ _ (by simp; omega) (by omega) (HI1.out.below hbH) (hIH.weak (Nat.zero_le _))).mono ?_
                  rintro e wI ⟨rfl, qI, rfl⟩
                  rw [Int.toNat_natCast, Int.toNat_natCast, intsB_iff.2 ⟨rfl, fun _ _ => rfl⟩]
                  go_wp2_with fail
                  go_meet
                  case rel => exact ⟨rfl, below_drewN hbH qI⟩
              case rest =>
                obtain ⟨rfl, hcb⟩ := hcut
                have hBwW := hBwG.trans (hcb.mono hBwG.size)
                have bxwW := bxwG.below hcb
                have R2 := hide (R2.out.keep hcb)
                have R3 := hide (R3.out.keep hcb)
                clear R1 hcb hBwG bxwG y0 y1 y2 hltwG
                have R1 := hide (trivial : True)
                obtain ⟨wW, rfl⟩ : ∃ w9 : World, w9 = wc := ⟨_, rfl⟩
                go_upto_if 105 with (go_at_call 45; refine (softErrR_any C m d S _ hm (HJ.out.below hBwW)).mono ?_; rintro e wx ⟨rfl, qx, rfl⟩)
                have hbq : Below wW.heap.size wW (wW.drewN qx) := below_drewN (Below.refl _ _) qx
                have hBwX := below_drewN hBwW qx
                have bxwX := bxwW.drewN qx
                have R2 := hide (R2.out.keep hbq)
                have R3 := hide (R3.out.keep hbq)
                clear hbq hBwW bxwW
                generalize wW.drewN qx = wX at *
                have y0 : wX.cell? ⟨w.heap.size, 0, none⟩ = some (.int .i64 x0) := bxwX.at_ 0
                have y1 : wX.cell? ⟨w.heap.size, 1, none⟩ = some (.int .i64 x1) := bxwX.at_ 1
                have y2 : wX.cell? ⟨w.heap.size, 2, none⟩ = some (.int .i64 x2) := bxwX.at_ 2
                have hltwX := bxwX.lt
                go_cut [13] (fun s wc => s = .int .i64 (if sizedErrI m 400 S 1000000 = 0 then unI (withinB x0 0 3) 15 else sizedErrI m 400 S 1000000) ∧ wc = wX)
                case first =>
                  by_cases hb : sizedErrI m 400 S 1000000 = 0
                  · have t := (show (sizedErrI m 400 S 1000000 == 0) = true from by simpa using hb)
                    have HB0 := hide hb
                    clear hb
                    go_wp2_with (go_at_call 42; refine (versionErrR_any _ _).mono ?_; rintro e wy ⟨rfl, rfl⟩)
                    go_meet
                    case rel => exact ⟨by rw [if_pos HB0.out], rfl⟩
                  · have t := (show (sizedErrI m 400 S 1000000 == 0) = false from by simpa using hb)
                    have HB0 := hide hb
                    clear hb
                    go_wp2_with fail
                    go_meet
                    case rel => exact ⟨by rw [if_neg HB0.out], rfl⟩
                case rest =>
                  obtain ⟨rfl, rfl⟩ := hcut
                  obtain ⟨e1, he1⟩ : ∃ e1, e1 = (if sizedErrI m 400 S 1000000 = 0 then unI (withinB x0 0 3) 15 else sizedErrI m 400 S 1000000) := ⟨_, rfl⟩
                  rw [← he1]
                  have HE2 := hide (show gathErr m S x0 x2 = if e1 = 0 then unI (withinB x2 1 200) 2 else e1 from by rw [he1]; exact gathErr_if m S x0 x2)
                  clear he1
                  go_upto_if 110 with fail
                  go_cut [13] (fun s w8 => s = .int .i64 (gathErr m S x0 x2) ∧ w8 = wc)
                  case first =>
                    by_cases hb : e1 = 0
                    · have t := (show (e1 == 0) = true from by simpa using hb)
                      have HB0 := hide hb
                      clear hb
                      go_wp2_with (go_at_call 46; refine (lengthErrR_any _ _).mono ?_; rintro e wy ⟨rfl, rfl⟩)
                      go_meet
                      case rel => exact ⟨by rw [HE2.out, if_pos HB0.out], rfl⟩
                    · have t := (show (e1 == 0) = false from by simpa using hb)
                      have HB0 := hide hb
                      clear hb
                      go_wp2_with fail
                      go_meet
                      case rel => exact ⟨by rw [HE2.out, if_neg HB0.out], rfl⟩
                  case rest =>
                    obtain ⟨rfl, rfl⟩ := hcut
                    clear HE2
                    go_upto_region 20 with fail
                    go_cut [9, 10, 13, 140] (fun _ _ _ s w7 => s = .bool false ∧ Below wc.heap.size wc w7)
                    case first =>
                      rcases R2.out with ⟨h0, rfl⟩ | ⟨h0, A1, c1, rfl, hI1⟩
                      · have t1 := (show (gathErr m S x0 x2 != 0) = true from by simpa using h0)
                        have t2 := (show (gathErr m S x0 x2 == 0) = false from by simpa using h0)
                        clear h0 R1 R2 R3
                        generalize gathErr m S x0 x2 = E at *
                        go_wp2_with fail
                        go_meet
                        case rel => exact ⟨rfl, Below.refl _ _⟩
                      · rw [h0]
                        obtain ⟨g1, ⟨v0, v9⟩, c0, c9⟩ := gathErr_zero h0
                        obtain ⟨n0, n1, hS9⟩ := sizedErr_zero g1
                        have HS9 := hide hS9
                        have HI1 := hide hI1
                        clear R1 R2 R3 h0 g1 hI1 hS9
                        obtain ⟨x0, rfl⟩ := Int.eq_ofNat_of_zero_le v0
                        obtain ⟨x2, rfl⟩ := Int.eq_ofNat_of_zero_le (show 0 ≤ x2 by omega)
                        go_wp2_with fail
                        refine (gatheredR_any C m d x0 x2 S _ (HJ.out.below hBwX) HS9.out (by omega) (by omega) (by omega) (by omega)).mono ?_
                        rintro e wH ⟨vH, rfl, AH, cH, rfl, -, hIH, hbH⟩
                        go_wp2_with fail
                        refine (ints_any A1 AH _ x2 c1 cH _ _ _ (by simp; omega) (by omega) (HI1.out.below hbH) (hIH.weak (Nat.zero_le _))).mono ?_
                        rintro e wI ⟨rfl, qI, rfl⟩
                        rw [Int.toNat_natCast, Int.toNat_natCast, intsB_iff.2 ⟨rfl, fun _ _ => rfl⟩]
                        go_wp2_with fail
                        go_meet
                        case rel => exact ⟨rfl, below_drewN hbH qI⟩
                    case rest =>
                      obtain ⟨rfl, hcb⟩ := hcut
                      have hBwY := hBwX.trans (hcb.mono hBwX.size)
                      have R3 := hide (R3.out.keep hcb)
                      clear R1 R2 hcb hBwX bxwX y0 y1 y2 hltwX
                      obtain ⟨wY, rfl⟩ : ∃ w9 : World, w9 = wc := ⟨_, rfl⟩
                      go_upto_if 144 with (go_at_call 48; refine (sumsErrR_any A n c F _ hn (HI.out.below hBwY)).mono ?_; rintro e wx ⟨rfl, qx, rfl⟩)
                      have hbq : Below wY.heap.size wY (wY.drewN qx) := below_drewN (Below.refl _ _) qx
                      have hBwZ := below_drewN hBwY qx
                      have R3 := hide (R3.out.keep hbq)
                      clear hbq hBwY
                      generalize wY.drewN qx = wZ at *
                      go_cut [13] (fun s w8 => s = .int .i64 (if sizedErrI n 200 F 1000000000 = 0 then sizedErrI m 200 S 1000000000 else sizedErrI n 200 F 1000000000) ∧ Below wZ.heap.size wZ w8)
                      case first =>
                        by_cases hb : sizedErrI n 200 F 1000000000 = 0
                        · have t := (show (sizedErrI n 200 F 1000000000 == 0) = true from by simpa using hb)
                          have HB0 := hide hb
                          clear hb
                          go_wp2_with (go_at_call 48; refine (sumsErrR_any C m d S _ hm (HJ.out.below hBwZ)).mono ?_; rintro e wy ⟨rfl, qy, rfl⟩)
                          go_meet
                          case rel => exact ⟨by rw [if_pos HB0.out], below_drewN (Below.refl _ _) _⟩
                        · have t := (show (sizedErrI n 200 F 1000000000 == 0) = false from by simpa using hb)
                          have HB0 := hide hb
                          clear hb
                          go_wp2_with fail
                          go_meet
                          case rel => exact ⟨by rw [if_neg HB0.out], Below.refl _ _⟩
                      case rest =>
                        obtain ⟨rfl, hcz⟩ := hcut
                        have hBV := hBwZ.trans (hcz.mono hBwZ.size)
                        have R3 := hide (R3.out.keep hcz)
                        clear hcz hBwZ
                        obtain ⟨e1, he1⟩ : ∃ e1, e1 = (if sizedErrI n 200 F 1000000000 = 0 then sizedErrI m 200 S 1000000000 else sizedErrI n 200 F 1000000000) := ⟨_, rfl⟩
                        rw [← he1]
                        have HE3 : combAll n m F S = if e1 = 0 then combErrI n m F S else e1 := by rw [he1]; exact combAll_if n m F S
                        by_cases hb : e1 = 0
                        · rw [if_pos hb] at HE3
                          obtain ⟨z1, z2⟩ := comb_zero (he1.symm.trans hb)
                          obtain ⟨n0, n1, bF⟩ := sizedErr_zero z1
                          obtain ⟨m0, m1, bG⟩ := sizedErr_zero z2
                          have BF := hide bF
                          have BG := hide bG
                          have HV := R3.out
                          rw [HE3] at HV ⊢
                          rw [hb]
                          have HV := hide HV
                          clear he1 z1 z2 bF bG R3 HE3 hb
                          go_wp2_with fail
                          refine (combinedR_any A C n m c d F S _ (HI.out.below hBV) (HJ.out.below hBV) n0 n1 m1 BF.out BG.out).mono ?_
                          rintro r wU ⟨⟨h0, rfl⟩ | ⟨h0, vU, rfl, hownU⟩, hbU⟩
                          · rcases HV.out with ⟨-, rfl⟩ | ⟨h9, -⟩
                            · have hBU := hBV.trans (hbU.mono hBV.size)
                              clear HV h0
                              generalize combErrI n m F S = ce at *
                              go_wp2_with fail
                              refine (ints_any none none 0 0 0 0 F F _ (by omega) (by omega) IntsAt.nil_ IntsAt.nil_).mono ?_
                              rintro e wI ⟨rfl, qI, rfl⟩
                              rw [intsB_iff.2 ⟨rfl, fun _ _ => rfl⟩]
                              go_wp2_with fail
                              go_ret
                              exact ⟨rfl, below_drewN hBU _⟩
                            · exact absurd h9 h0
                          · rcases HV.out with ⟨h9, -⟩ | ⟨-, A1, c1, rfl, hI1⟩
                            · exact absurd h0 h9
                            · have hBU := hBV.trans (hbU.mono hBV.size)
                              obtain ⟨AU, cU, rfl, -, hIU⟩ := hownU.form
                              rw [h0]
                              clear HV h0
                              go_wp2_with fail
                              refine (ints_any A1 AU n n c1 cU _ _ _ (by omega) (by omega) (hI1.below hbU) (hIU.weak (Nat.zero_le _))).mono ?_
                              rintro e wI ⟨rfl, qI, rfl⟩
                              rw [intsB_iff.2 ⟨rfl, fun _ _ => rfl⟩]
                              go_wp2_with fail
                              go_ret
                              exact ⟨rfl, below_drewN hBU _⟩
                        · rw [if_neg hb] at HE3
                          have HV := R3.out
                          rw [HE3] at HV ⊢
                          have t := (show (e1 == 0) = false from by simpa using hb)
                          rcases HV with ⟨-, rfl⟩ | ⟨h9, -⟩
                          · clear R3 HE3 he1 hb
                            go_wp2_with fail
                            refine (ints_any none none 0 0 0 0 F F _ (by omega) (by omega) IntsAt.nil_ IntsAt.nil_).mono ?_
                            rintro e wI ⟨rfl, qI, rfl⟩
                            rw [intsB_iff.2 ⟨rfl, fun _ _ => rfl⟩]
                            go_wp2_with fail
                            go_ret
                            exact ⟨rfl, below_drewN hBV _⟩
                          · exact absurd h9 hb
        · go_wp2_with fail
          go_ret
          exact ⟨rfl, hBwA⟩
      · go_wp2_with fail
        go_ret
        exact ⟨rfl, hBwA⟩
    · rw [decide_eq_false f2]
      go_wp2_with fail
      go_ret
      exact ⟨rfl, hBwA⟩
  · rw [decide_eq_false f1]
    go_wp2_with fail
    go_ret
    exact ⟨rfl, hBwA⟩
end Go.Proofs.Ytdimjagmecnldaa
