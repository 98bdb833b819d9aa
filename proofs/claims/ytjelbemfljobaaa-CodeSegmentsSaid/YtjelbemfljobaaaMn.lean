/- CodeSegments: the walk. -/
import Derived.Test.YtjelbemfljobaaaMm
import Derived.Test.YtjelbemfljobaaaMe
import Derived.Test.YtjelbemfljobaaaMf
import Derived.Test.YtjelbemfljobaaaFc
import Derived.Test.YtjelbemfljobaaaLb
import Derived.Test.YtjelbemfljobaaaHb
import Derived.Deep.DeepCutAuto
namespace Go.Proofs.Ytjelbemfljobaaa
open Go.RowKit Go.Shelf
theorem parts_cells {W : World} {b : Nat} {v : Value} {l : Int} (bx : Box W b 73 #[v, .int .i64 l]) :
    W.cell? ⟨b, 0, none⟩ = some v ∧ W.cell? ⟨b, 1, none⟩ = some (.int .i64 l) ∧ b < W.heap.size := ⟨bx.at_ 0, bx.at_ 1, bx.lt⟩
theorem pre_if (d t M len : Int) : preErrI d t M len = if ruleErrI d t M = 0 then unI (withinB len 1 200) 2 else ruleErrI d t M := by
  unfold preErrI firstE firstE firstE
  by_cases h : ruleErrI d t M = 0
  · rw [if_pos h, if_pos h]; split <;> simp_all
  · rw [if_neg h, if_neg h]
theorem segPre_if (d t M : Int) (n : Nat) (B : Nat → Int) : segPreI d t M n B = if ruleErrI d t M = 0 then bitsErrR n B else ruleErrI d t M := by
  have h : firstE [firstE [unI (decide (0 < n)) 10, unI (decide (n ≤ 200)) 8], unI (bitsB n B) 15] = bitsErrR n B := bitsErrC_eq n B
  unfold segPreI
  rw [h]
  unfold firstE firstE firstE
  by_cases h : ruleErrI d t M = 0
  · rw [if_pos h, if_pos h]; split <;> simp_all
  · rw [if_neg h, if_neg h]
/-- What joining gave, in any world: nothing beside an error, else so many numbers. -/
def GaveV (E : Int) (l : Nat) (G : Nat → Int) (v : Value) (W : World) : Prop := (E ≠ 0 ∧ v = .slice none 0 0) ∨ (E = 0 ∧ ∃ A c, v = .slice A l c ∧ IntsAt W 0 A l G)
theorem GaveV.below {E : Int} {l : Nat} {G : Nat → Int} {v : Value} {W W' : World} (h : GaveV E l G v W) (hb : Below W.heap.size W W') : GaveV E l G v W' :=
  h.elim (fun h => .inl h) fun ⟨h0, A, c, e, hI⟩ => .inr ⟨h0, A, c, e, hI.below hb⟩
set_option maxHeartbeats 8000000 in
set_option maxRecDepth 100000 in
theorem codeSegments_walk (d t M len : Int) (A P : Option Addr) (n c k e : Nat) (B : Nat → Int) (L : Nat → Nat) (F : Nat → Nat → Int) (w : World) (hn : n ≤ 9223372036854775807) (hk9 : k ≤ 9223372036854775807) (hke : k ≤ e)
    (hI : IntsAt w 0 A n B) (hJ : ListsAt w 0 P k L F) :
    Calls Try.prog 6 #[.agg #[.int .i64 d, .int .i64 t, .int .i64 M], .slice A n c, .agg #[.slice P k e, .int .i64 len]] w fun r w' => r = .returned (.bool true) ∧ Below w.heap.size w w' := by
  have HI := hide hI
  have HJ := hide hJ
  clear hI hJ
  go_enter Try.func6, Try.ntmps6
  go_wp2_with fail
  refine (awake_any _).mono ?_
  rintro r w1 ⟨rfl, hb1⟩
  have bx1 : Box w1 w.heap.size 71 #[.int .i64 d, .int .i64 t, .int .i64 M] := ((Box.made rfl).alloc _).below hb1
  have by1 : Box w1 (w.heap.size + 1) 73 #[.slice P k e, .int .i64 len] := (Box.made (by simp)).below hb1
  have hB1 : Below w.heap.size w w1 := ((((Below.refl _ _).alloc (Nat.le_refl _) _).alloc (by simp) _).trans (hb1.mono (by simp; omega)))
  clear hb1
  obtain ⟨y0, y1, hly⟩ := parts_cells by1
  obtain ⟨x0, x1, x2, hlx⟩ := rule_cells bx1
  go_wp2_with fail
  refine (few_any A n c 200 _ hn (by decide)).mono ?_
  rintro r w2 ⟨rfl, rfl⟩
  by_cases hfew : n ≤ 40 ∨ 200 < n ∧ n ≤ 200 + 2
  · rw [decide_eq_true hfew]
    have hn2 : n ≤ 202 := by omega
    clear hfew
    by_cases hk : k ≤ 10
    · have tk : decide ((10 : Int) < (k : Int)) = false := decide_eq_false (by omega)
      have tk2 : decide (10 < k) = false := decide_eq_false (by omega)
      have HK := hide hk
      clear x0 x1 x2 hlx y0 y1 hly tk tk2
      obtain ⟨y0, y1, hly⟩ := parts_cells by1
      have tk : decide ((10 : Int) < (k : Int)) = false := decide_eq_false (by omega)
      go_wp2_with fail
      obtain ⟨wo, rfl⟩ : ∃ wo : World, wo = w1 := ⟨_, rfl⟩
      go_loopw [7] (fun i wr => ∃ j : Nat, j ≤ k ∧ i = .int .i64 j ∧ Hid (∀ q, q < j → L q ≤ 110) ∧ wr = wo) (fun i _ => k - (intOf i).toNat)
      case atStart => exact ⟨0, Nat.zero_le _, rfl, hide fun q hq => absurd hq (Nat.not_lt_zero q), rfl⟩
      case round =>
        obtain ⟨j, hj, rfl, HL, rfl⟩ := hrel
        by_cases hlt : j < k
        · have hltz : (j : Int) < (k : Int) := by omega
          obtain ⟨b, o, Ai, ci, rfl, -, hb, hcell, hlc, hc9, -⟩ := (HJ.out.below hB1) j hlt
          by_cases hl : L j ≤ 110
          · have tl : decide ((110 : Int) < (L j : Int)) = false := decide_eq_false (by omega)
            go_wp2_with fail
            go_roundw
            case rel => exact ⟨j + 1, by omega, by go_num, hide fun q hq => (by
              rcases Nat.lt_or_ge q j with h | h
              · exact HL.out q h
              · obtain rfl : q = j := by omega
                exact hl), by first | rfl | trivial⟩
            case measure => simp [intOf]; omega
          · have tl : decide ((110 : Int) < (L j : Int)) = true := decide_eq_true (by omega)
            go_wp2_with fail
            go_ret
            exact ⟨rfl, hB1⟩
        · obtain rfl : j = k := by omega
          clear y0 y1 hly tk
          obtain ⟨wA, rfl⟩ : ∃ wA : World, wA = wr := ⟨_, rfl⟩
          obtain ⟨y0, y1, hly⟩ := parts_cells by1
          obtain ⟨x0, x1, x2, hlx⟩ := rule_cells bx1
          have HLL := hide (fun i (hi : i < j) => (by have := HL.out i hi; omega : L i ≤ 100000))
          have SOF := hide (fun W' (h : Below wA.heap.size wA W') => (⟨(h.cell (p := ⟨w.heap.size, 0, none⟩) hlx).trans x0, (h.cell (p := ⟨w.heap.size, 1, none⟩) hlx).trans x1, (h.cell (p := ⟨w.heap.size, 2, none⟩) hlx).trans x2, (h.cell (p := ⟨w.heap.size + 1, 0, none⟩) hly).trans y0, (h.cell (p := ⟨w.heap.size + 1, 1, none⟩) hly).trans y1, h⟩ :
            W'.cell? ⟨w.heap.size, 0, none⟩ = some (.int .i64 d) ∧ W'.cell? ⟨w.heap.size, 1, none⟩ = some (.int .i64 t) ∧ W'.cell? ⟨w.heap.size, 2, none⟩ = some (.int .i64 M) ∧ W'.cell? ⟨w.heap.size + 1, 0, none⟩ = some (.slice P j e) ∧ W'.cell? ⟨w.heap.size + 1, 1, none⟩ = some (.int .i64 len) ∧ Below wA.heap.size wA W'))
          have KJ := hide (fun W' (h : W'.cell? ⟨w.heap.size, 0, none⟩ = some (.int .i64 d) ∧ W'.cell? ⟨w.heap.size, 1, none⟩ = some (.int .i64 t) ∧ W'.cell? ⟨w.heap.size, 2, none⟩ = some (.int .i64 M) ∧ W'.cell? ⟨w.heap.size + 1, 0, none⟩ = some (.slice P j e) ∧ W'.cell? ⟨w.heap.size + 1, 1, none⟩ = some (.int .i64 len) ∧ Below wA.heap.size wA W') => HJ.out.below (hB1.trans (h.2.2.2.2.2.mono hB1.size)))
          have bb0 : Below wA.heap.size wA wA := Below.refl _ _
          have HBB := hide hB1
          have HX := hide bx1
          have HY := hide by1
          have HCJ := hide (fun (W : World) (A' : Option Addr) (c' : Nat) (h : ListsAt W 0 A' j L F) => Joined_any d t M len j c' A' L F W (by have := HK.out; omega) HLL.out h)
          obtain ⟨JE, hJE⟩ : ∃ z, z = jErrI d t M len j L F := ⟨_, rfl⟩
          obtain ⟨JN, hJN⟩ : ∃ z, z = jNumI d t M len j L F := ⟨_, rfl⟩
          obtain ⟨JF, hJF⟩ : ∃ z, z = jF d M len F := ⟨_, rfl⟩
          rw [← hJE, ← hJN, ← hJF] at HCJ
          have HJE := hide hJE
          have HJN := hide hJN
          have HJF := hide hJF
          clear hJE hJN hJF hB1 bx1 by1 x0 x1 x2
          go_wp2_with fail
          clear y0 y1
          go_region_held3 (fun w' => w'.cell? ⟨w.heap.size, 0, none⟩ = some (.int .i64 d) ∧ w'.cell? ⟨w.heap.size, 1, none⟩ = some (.int .i64 t) ∧ w'.cell? ⟨w.heap.size, 2, none⟩ = some (.int .i64 M) ∧ w'.cell? ⟨w.heap.size + 1, 0, none⟩ = some (.slice P j e) ∧ w'.cell? ⟨w.heap.size + 1, 1, none⟩ = some (.int .i64 len) ∧ Below wA.heap.size wA w')
              (first | assumption | exact SOF.out _ (by assumption) | exact SOF.out _ bb0.drew | exact SOF.out _ (balloc' (by assumption) (Nat.le_refl _) _))
              (first
                | (go_at_call 35; refine (copyLists_any P j e L F _ (by omega) HLL.out (KJ.out _ (by assumption))).mono ?_; rintro r w3 ⟨v3, rfl, hown3, hb3⟩; obtain ⟨A3, c3, rfl, hnc3, hc39, hL3⟩ := hown3.form; have hs3 : Below wA.heap.size wA w3 := bstep5 hb3 (by assumption) (Nat.le_refl _))
                | (go_at_call 34; refine (HCJ.out _ A3 c3 (hL3.weak (Nat.zero_le _))).mono ?_; rintro r w4 ⟨⟨v4, rfl, hv4⟩, hb4⟩; have hs4 : Below wA.heap.size wA w4 := bstep5 hb4 (by assumption) (Nat.le_refl _)))
          have bx4 := HX.out.below hs4
          have by4 := HY.out.below hs4
          have hB4 : Below w.heap.size w w4 := HBB.out.trans (hs4.mono HBB.out.size)
          clear hs3 hs4 hb3 hb4 hown3 hL3 bb0 HBB HX HY SOF KJ HCJ
          obtain ⟨x0, x1, x2, hlx⟩ := rule_cells bx4
          go_wp2_with fail
          refine (ruleErrR_any d t M _).mono ?_
          rintro r w5 ⟨rfl, hb5⟩
          have bx5 := bx4.below hb5
          have by5 := by4.below hb5
          have hB5 := hB4.trans (hb5.mono hB4.size)
          have HV5 := hide (GaveV.below hv4 hb5)
          clear x0 x1 x2 hlx bx4 by4 hB4 hb5 hv4
          have HPI := hide (pre_if d t M len)
          generalize ruleErrI d t M = R at *
          obtain ⟨y0, y1, hly⟩ := parts_cells by5
          go_upto_if 59 with fail
          go_cut [11] (fun s wc => s = .int .i64 (if R = 0 then unI (withinB len 1 200) 2 else R) ∧ wc = w5)
          case first =>
            by_cases hb : R = 0
            · have tr := (show (R == 0) = true from by simpa using hb)
              have HB0 := hide hb
              clear hb
              go_wp2_with (go_at_call 37; refine (lengthErrR_any _ _).mono ?_; rintro e wy ⟨rfl, rfl⟩)
              go_meet
              case rel => exact ⟨by rw [if_pos HB0.out], rfl⟩
            · have tr := (show (R == 0) = false from by simpa using hb)
              have HB0 := hide hb
              clear hb
              go_wp2_with fail
              go_meet
              case rel => exact ⟨by rw [if_neg HB0.out], rfl⟩
          case rest =>
            obtain ⟨rfl, rfl⟩ := hcut
            rw [← HPI.out]
            clear y0 y1 hly
            obtain ⟨PE, hPE⟩ : ∃ z, z = preErrI d t M len := ⟨_, rfl⟩
            rw [← hPE]
            have HPE := hide hPE
            clear hPE HPI
            obtain ⟨y0, y1, hly⟩ := parts_cells by5
            obtain ⟨x0, x1, x2, hlx⟩ := rule_cells bx5
            go_upto_if 64 with fail
            go_cut [11, 12, 13] (fun s v q wx => s = .int .i64 JE ∧ q = .int .i64 (JN : Int) ∧ Hid (GaveV JE len.toNat JF v wx) ∧ Below wc.heap.size wc wx)
            case first =>
              by_cases hb : PE = 0
              · have tpe := (show (PE == 0) = true from by simpa using hb)
                have h0 : preErrI d t M len = 0 := by rw [← HPE.out]; exact hb
                obtain ⟨hr, l, rfl, l0, l9⟩ := preErr_zero h0
                obtain ⟨x, y, m, ho⟩ := ruleErr_zero hr
                obtain ⟨rfl, rfl, rfl, d0, d1, t1, m0, m9⟩ := ho
                have HJR := hide (fun W hW => joinedR_any x y m l j e P L F W d0 d1 t1 m0 m9 l0 l9 (by have := HK.out; omega) (fun i hi => by have := HL.out i hi; omega) hW)
                have e1 : joinErrI x y m l j L F = JE := by rw [HJE.out]; unfold jErrI; rw [if_pos h0]; simp only [Int.toNat_natCast]
                have e2 : joinNum x y m l j L F = JN := by rw [HJN.out]; unfold jNumI; rw [if_pos h0]; simp only [Int.toNat_natCast]
                have e3 : joinF x m l F = JF := by rw [HJF.out]; unfold jF; simp only [Int.toNat_natCast]
                rw [e1, e2, e3] at HJR
                clear hb h0 hr l0 l9 d0 d1 t1 m0 m9 e1 e2 e3
                go_wp2_with fail
                refine (HJR.out _ (HJ.out.below hB5)).mono ?_
                rintro r w6 ⟨⟨v6, rfl, hv6⟩, hb6⟩
                have HV6 := hide (show GaveV JE l JF v6 w6 from hv6)
                clear hv6
                go_wp2_with fail
                go_meet
                case rel => exact ⟨rfl, rfl, HV6, hb6⟩
              · have tpe := (show (PE == 0) = false from by simpa using hb)
                have h0 : ¬ preErrI d t M len = 0 := by rw [← HPE.out]; exact hb
                have HE := hide (show JE = PE from by rw [HJE.out, HPE.out]; unfold jErrI; rw [if_neg h0])
                have HN := hide (show JN = 0 from by rw [HJN.out]; unfold jNumI; rw [if_neg h0])
                have HB0 := hide hb
                clear hb h0
                go_wp2_with fail
                go_meet
                case rel => exact ⟨by rw [HE.out], by rw [HN.out]; rfl, hide (.inl ⟨by rw [HE.out]; exact HB0.out, rfl⟩), Below.refl _ _⟩
            case rest =>
              obtain ⟨rfl, rfl, HV6, hb6⟩ := hcut
              obtain ⟨wE, rfl⟩ : ∃ wE : World, wE = wc := ⟨_, rfl⟩
              have HLE := hide (show JE = 0 → len.toNat ≤ 200 from fun h => by
                have h0 : preErrI d t M len = 0 := by
                  rw [HJE.out] at h
                  unfold jErrI at h
                  by_cases hp : preErrI d t M len = 0
                  · exact hp
                  · rw [if_neg hp] at h; exact h
                obtain ⟨-, l, rfl, -, l9⟩ := preErr_zero h0
                omega)
              have bx6 := bx5.below hb6
              have hB6 := hB5.trans (hb6.mono hB5.size)
              clear x0 x1 x2 hlx y0 y1 hly bx5 by5
              go_upto_region 18 with fail
              go_cut [88] (fun s wy => s = .bool false ∧ Below wE.heap.size wE wy)
              case first =>
                have tj : (JE != JE) = false := by simp
                have tn : ((JN : Int) != (JN : Int)) = false := by simp
                rcases HV5.out with ⟨h0, rfl⟩ | ⟨h0, A1, c1, rfl, hI1⟩
                · rcases HV6.out with ⟨h2, rfl⟩ | ⟨h2, -⟩
                  · clear h0 h2
                    go_wp2_with fail
                    refine (ints_b none none 0 0 0 0 (fun _ => 0) (fun _ => 0) _ (by omega) (by omega) (fun k hk => absurd hk (Nat.not_lt_zero k)) (fun k hk => absurd hk (Nat.not_lt_zero k))).mono ?_
                    rintro r wz ⟨rfl, hbz⟩
                    rw [show intsB 0 (fun _ => 0) 0 (fun _ => 0) = true from rfl]
                    go_wp2_with fail
                    go_meet
                    case rel => exact ⟨rfl, hbz⟩
                  · exact absurd h2 h0
                · rcases HV6.out with ⟨h2, -⟩ | ⟨h2, A2, c2, rfl, hI2⟩
                  · exact absurd h0 h2
                  · have hl9 := HLE.out h0
                    generalize len.toNat = l at *
                    have H1 := hide (hI1.below hb6)
                    have H2 := hide hI2
                    clear h0 h2 hI1 hI2
                    go_wp2_with fail
                    refine (ints_b A1 A2 l l c1 c2 JF JF _ (by omega) (by omega) H1.out H2.out).mono ?_
                    rintro r wz ⟨rfl, hbz⟩
                    rw [show intsB l JF l JF = true from intsB_iff.2 ⟨rfl, fun _ _ => rfl⟩]
                    go_wp2_with fail
                    go_meet
                    case rel => exact ⟨rfl, hbz⟩
              case rest =>
                obtain ⟨rfl, hb7⟩ := hcut
                obtain ⟨wG, rfl⟩ : ∃ wG : World, wG = wc := ⟨_, rfl⟩
                have bx7 := bx6.below hb7
                have hB7 := hB6.trans (hb7.mono hB6.size)
                clear bx6 hB6 hb7 hb6 hB5 HV5 HV6 HLE
                obtain ⟨x0, x1, x2, hlx⟩ := rule_cells bx7
                have SOF := hide (fun W' (h : Below wG.heap.size wG W') => (⟨(h.cell (p := ⟨w.heap.size, 0, none⟩) hlx).trans x0, (h.cell (p := ⟨w.heap.size, 1, none⟩) hlx).trans x1, (h.cell (p := ⟨w.heap.size, 2, none⟩) hlx).trans x2, h⟩ :
                  W'.cell? ⟨w.heap.size, 0, none⟩ = some (.int .i64 d) ∧ W'.cell? ⟨w.heap.size, 1, none⟩ = some (.int .i64 t) ∧ W'.cell? ⟨w.heap.size, 2, none⟩ = some (.int .i64 M) ∧ Below wG.heap.size wG W'))
                have KI := hide (fun W' (h : W'.cell? ⟨w.heap.size, 0, none⟩ = some (.int .i64 d) ∧ W'.cell? ⟨w.heap.size, 1, none⟩ = some (.int .i64 t) ∧ W'.cell? ⟨w.heap.size, 2, none⟩ = some (.int .i64 M) ∧ Below wG.heap.size wG W') => HI.out.below (hB7.trans (h.2.2.2.mono hB7.size)))
                have bb0 : Below wG.heap.size wG wG := Below.refl _ _
                have HBB := hide hB7
                have HX := hide bx7
                clear bx7 hB7 x0 x1 x2
                go_wp2_with fail
                go_region_held3 (fun w' => w'.cell? ⟨w.heap.size, 0, none⟩ = some (.int .i64 d) ∧ w'.cell? ⟨w.heap.size, 1, none⟩ = some (.int .i64 t) ∧ w'.cell? ⟨w.heap.size, 2, none⟩ = some (.int .i64 M) ∧ Below wG.heap.size wG w')
                  (first | assumption | exact SOF.out _ (by assumption) | exact SOF.out _ bb0.drew | exact SOF.out _ (balloc' (by assumption) (Nat.le_refl _) _))
                  (first
                    | (go_at_call 15; refine (copyInts_own A n c B _ (by omega) (KI.out _ (by assumption))).mono ?_; rintro r w8 ⟨v8, rfl, hown8, hb8⟩; obtain ⟨A8, c8, rfl, hnc8, hI8⟩ := hown8.form; have hs8 : Below wG.heap.size wG w8 := bstep4 hb8 (by assumption) (Nat.le_refl _))
                    | (go_at_call 39; refine (Segments_any d t M A8 n c8 B _ (by omega) (hI8.weak (Nat.zero_le _))).mono ?_; rintro r w9 ⟨⟨v9, rfl, hv9⟩, hb9⟩; have hs9 : Below wG.heap.size wG w9 := bstep4 hb9 (by assumption) (Nat.le_refl _)))
                have bx9 := HX.out.below hs9
                have hB9 : Below w.heap.size w w9 := HBB.out.trans (hs9.mono HBB.out.size)
                have HV9 := hide hv9
                clear hs8 hs9 hb8 hb9 hown8 hI8 bb0 HBB HX SOF KI hv9
                obtain ⟨x0, x1, x2, hlx⟩ := rule_cells bx9
                go_wp2_with fail
                refine (ruleErrR_any d t M _).mono ?_
                rintro r wH ⟨rfl, hbH⟩
                have bxH := bx9.below hbH
                have hBH := hB9.trans (hbH.mono hB9.size)
                have HIH := hide (HI.out.below hBH)
                have HPI := hide (segPre_if d t M n B)
                clear x0 x1 x2 hlx bx9 hB9
                generalize ruleErrI d t M = R2 at *
                go_upto_if 99 with fail
                go_cut [11] (fun s wy => s = .int .i64 (if R2 = 0 then bitsErrR n B else R2) ∧ Below wH.heap.size wH wy)
                case first =>
                  by_cases hb : R2 = 0
                  · have tr := (show (R2 == 0) = true from by simpa using hb)
                    have HB0 := hide hb
                    clear hb
                    go_wp2_with fail
                    refine (bitsErrR_any A n c B _ (by omega) HIH.out).mono ?_
                    rintro r wy ⟨rfl, qy, rfl⟩
                    go_wp2_with fail
                    go_meet
                    case rel => exact ⟨by rw [if_pos HB0.out], below_drewN (Below.refl _ _) _⟩
                  · have tr := (show (R2 == 0) = false from by simpa using hb)
                    have HB0 := hide hb
                    clear hb
                    go_wp2_with fail
                    go_meet
                    case rel => exact ⟨by rw [if_neg HB0.out], Below.refl _ _⟩
                case rest =>
                  obtain ⟨rfl, hbJ⟩ := hcut
                  obtain ⟨wJ, rfl⟩ : ∃ wJ : World, wJ = wc := ⟨_, rfl⟩
                  rw [← HPI.out]
                  have bxJ := bxH.below hbJ
                  have hBJ := hBH.trans (hbJ.mono hBH.size)
                  have HH := hide (hbH.trans (hbJ.mono hbH.size))
                  clear bxH hBH HIH HPI
                  by_cases hse : segPreI d t M n B = 0
                  · rcases HV9.out with ⟨h0, -⟩ | ⟨-, hown9⟩
                    · exact absurd hse h0
                    · obtain ⟨h2, n0, n9, hbits⟩ := segPre_zero hse
                      obtain ⟨x, y, m, ho⟩ := ruleErr_zero h2
                      obtain ⟨rfl, rfl, rfl, d0, d1, t1, m0, m9⟩ := ho
                      have HSE := hide hse
                      rw [hse]
                      have HSR := hide (fun W hW => segmentsR_any x y m n c A B W d0 d1 t1 m0 m9 n0 n9 hW hbits)
                      have HJB := hide (fun c' A' W hW => Joined_back (x : Int) (y : Int) (m : Int) n c' A' B W hse hW)
                      simp only [Int.toNat_natCast] at hown9 HJB
                      obtain ⟨c1, c2, c3, c4, -, -⟩ := cut_facts m0 m9 n0 n9
                      obtain ⟨fF, hfF⟩ : ∃ z, z = segF x y (aheadN x m n) (cntN x m n * aheadN x m n - n) B := ⟨_, rfl⟩
                      rw [← hfF] at hown9 HJB HSR
                      clear hfF HV9 hse h2
                      generalize cntN x m n = N at *
                      generalize aheadN x m n = a at *
                      obtain ⟨s, hs⟩ : ∃ s : Nat, s = a + x := ⟨_, rfl⟩
                      rw [← hs] at hown9 HJB HSR
                      have hsm : s ≤ m := by omega
                      have hsmz : (s : Int) ≤ (m : Int) := by omega
                      obtain ⟨A9, c9, rfl, hNc, hc99, hL9⟩ := hown9.form
                      have HL9 := hide ((hL9.weak (Nat.zero_le _)).below HH.out)
                      clear hs c3 c4 hL9 hown9 HH hbits d0 d1 t1 m0
                      obtain ⟨x0, x1, x2, hlx⟩ := rule_cells bxJ
                      go_wp2_with fail
                      refine (HSR.out _ (HI.out.below hBJ)).mono ?_
                      rintro r wK ⟨vK, rfl, hownK, hbK⟩
                      obtain ⟨AK, cK, rfl, hnK, hcK9, hLK⟩ := hownK.form
                      have HLK := hide (hLK.weak (Nat.zero_le _))
                      have HL9K := hide (HL9.out.below hbK)
                      clear hLK hownK
                      go_wp2_with fail
                      refine (lists_same A9 AK N c9 cK (fun _ => s) fF _ (by omega) (fun _ _ => by omega) HL9K.out HLK.out).mono ?_
                      rintro r wL ⟨rfl, qL, rfl⟩
                      have hbL := below_drewN hbK qL
                      have bxL := bxJ.below hbL
                      have hBL := hBJ.trans (hbL.mono hBJ.size)
                      have HLL9 := hide (HL9.out.below hbL)
                      clear x0 x1 x2 hlx bxJ hBJ hbK HL9 HL9K HLK HSR
                      generalize wK.drewN qL = wM at *
                      go_wp2_with fail
                      go_loopw [16] (fun i wr => ∃ q : Nat, q ≤ N ∧ i = .int .i64 q ∧ Below wM.heap.size wM wr) (fun i _ => N - (intOf i).toNat)
                      case atStart => exact ⟨0, Nat.zero_le _, rfl, Below.refl _ _⟩
                      case round =>
                        obtain ⟨q, hq, rfl, hB⟩ := hrel
                        by_cases hlt : q < N
                        · have hltz : (q : Int) < (N : Int) := by omega
                          have hNz : (0 : Int) < (N : Int) := by omega
                          obtain ⟨b, o, Ai, ci, rfl, -, hb, hcell, hlc, hc9', -⟩ := (HLL9.out.below hB) q hlt
                          obtain ⟨b', o', A0, c0, e', -, -, hcell0, hl0, -, -⟩ := (HLL9.out.below hB) 0 (by omega)
                          injection e' with e'
                          injection e' with e1 e2
                          subst e1
                          subst e2
                          rw [Nat.add_zero] at hcell0
                          have tne : ((s : Int) != (s : Int)) = false := by simp
                          have tlt : decide ((m : Int) < (s : Int)) = false := decide_eq_false (by omega)
                          obtain ⟨x0, x1, x2, hlx⟩ := rule_cells (bxL.below hB)
                          go_wp2_with fail
                          go_quiet (fail)
                          go_wp2_with fail
                          go_roundw
                          case rel => exact ⟨q + 1, by omega, by go_num, below_drewN hB _⟩
                          case measure => simp [intOf]; omega
                        · obtain rfl : q = N := by omega
                          obtain ⟨wP, rfl⟩ : ∃ wP : World, wP = wr := ⟨_, rfl⟩
                          have bxP := bxL.below hB
                          have hBP := hBL.trans (hB.mono hBL.size)
                          have HLP := hide (HLL9.out.below hB)
                          clear bxL hBL HLL9 hB hq hlt
                          obtain ⟨x0, x1, x2, hlx⟩ := rule_cells bxP
                          have SOF := hide (fun W' (h : Below wP.heap.size wP W') => (⟨(h.cell (p := ⟨w.heap.size, 0, none⟩) hlx).trans x0, (h.cell (p := ⟨w.heap.size, 1, none⟩) hlx).trans x1, (h.cell (p := ⟨w.heap.size, 2, none⟩) hlx).trans x2, h⟩ :
                            W'.cell? ⟨w.heap.size, 0, none⟩ = some (.int .i64 (x : Int)) ∧ W'.cell? ⟨w.heap.size, 1, none⟩ = some (.int .i64 (y : Int)) ∧ W'.cell? ⟨w.heap.size, 2, none⟩ = some (.int .i64 (m : Int)) ∧ Below wP.heap.size wP W'))
                          have KL := hide (fun W' (h : W'.cell? ⟨w.heap.size, 0, none⟩ = some (.int .i64 (x : Int)) ∧ W'.cell? ⟨w.heap.size, 1, none⟩ = some (.int .i64 (y : Int)) ∧ W'.cell? ⟨w.heap.size, 2, none⟩ = some (.int .i64 (m : Int)) ∧ Below wP.heap.size wP W') => HLP.out.below h.2.2.2)
                          have bb0 : Below wP.heap.size wP wP := Below.refl _ _
                          have HBB := hide hBP
                          clear hBP x0 x1 x2 bxP
                          go_wp2_with fail
                          go_region_held3 (fun w' => w'.cell? ⟨w.heap.size, 0, none⟩ = some (.int .i64 (x : Int)) ∧ w'.cell? ⟨w.heap.size, 1, none⟩ = some (.int .i64 (y : Int)) ∧ w'.cell? ⟨w.heap.size, 2, none⟩ = some (.int .i64 (m : Int)) ∧ Below wP.heap.size wP w')
                            (first | assumption | exact SOF.out _ (by assumption) | exact SOF.out _ bb0.drew | exact SOF.out _ (balloc' (by assumption) (Nat.le_refl _) _))
                            (first
                              | (go_at_call 35; refine (copyLists_any A9 q c9 (fun _ => s) fF _ (by omega) (fun _ _ => by omega) (KL.out _ (by assumption))).mono ?_; rintro r wQ ⟨vQ, rfl, hownQ, hbQ⟩; obtain ⟨AQ, cQ, rfl, hnQ, hcQ9, hLQ⟩ := hownQ.form; have hsQ : Below wP.heap.size wP wQ := bstep4 hbQ (by assumption) (Nat.le_refl _))
                              | (go_at_call 34; refine (HJB.out cQ AQ _ (hLQ.weak (Nat.zero_le _))).mono ?_; rintro r wR ⟨AZ, cZ, rfl, hIZ, hbR⟩; have hsR : Below wP.heap.size wP wR := bstep4 hbR (by assumption) (Nat.le_refl _)))
                          have hBR : Below w.heap.size w wR := HBB.out.trans (hsR.mono HBB.out.size)
                          clear SOF KL hsQ hbQ hownQ hLQ bb0 HBB hsR hbR HJB HLP
                          have HIR := hide (HI.out.below hBR)
                          have HIZ := hide hIZ
                          clear hIZ
                          go_wp2_with fail
                          refine (ints_b AZ A n n cZ c B B _ (by omega) (by omega) HIZ.out HIR.out).mono ?_
                          rintro r wS ⟨rfl, hbS⟩
                          rw [show intsB n B n B = true from intsB_iff.2 ⟨rfl, fun _ _ => rfl⟩]
                          go_wp2_with fail
                          go_ret
                          exact ⟨rfl, hBR.trans (hbS.mono hBR.size)⟩
                  · rcases HV9.out with ⟨-, rfl⟩ | ⟨h0, -⟩
                    · have t1 : (segPreI d t M n B != 0) = true := by simpa using hse
                      have t2 : (segPreI d t M n B == segPreI d t M n B) = true := by simp
                      clear hse HV9
                      generalize segPreI d t M n B = SE at *
                      go_wp2_with fail
                      go_ret
                      exact ⟨rfl, hBJ⟩
                    · exact absurd h0 hse
    · have tk : decide ((10 : Int) < (k : Int)) = true := decide_eq_true (by omega)
      have tk2 : decide (10 < k) = true := decide_eq_true (by omega)
      go_wp2_with fail
      go_ret
      exact ⟨rfl, hB1⟩
  · rw [decide_eq_false hfew]
    go_wp2_with fail
    go_ret
    exact ⟨rfl, hB1⟩
end Go.Proofs.Ytjelbemfljobaaa
