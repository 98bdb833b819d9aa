/- Joined of the reference. -/
import Derived.Test.YtjelbemfljobaaaMc
import Derived.Test.YtjelbemfljobaaaId
namespace Go.Proofs.Ytjelbemfljobaaa
open Go.RowKit Go.Shelf
theorem intsB_swap {n m : Nat} {F G : Nat → Int} : intsB n F m G = intsB m G n F := by
  rw [Bool.eq_iff_iff, intsB_iff, intsB_iff]
  exact ⟨fun ⟨a, h⟩ => ⟨a.symm, fun k hk => (h k (by omega)).symm⟩, fun ⟨a, h⟩ => ⟨a.symm, fun k hk => (h k (by omega)).symm⟩⟩
theorem isRightR_b (d t b o n c : Nat) (F : Nat → Int) (w : World) (h0 : 1 ≤ d) (h1 : d ≤ 16) (t1 : t < 2 ^ d) (hdn : d < n) (hn : n ≤ 1000) (hnc : n ≤ c) (hc : c ≤ 9223372036854775807) (hI : IntsAt w 0 (some ⟨b, o, none⟩) n F) (hb : ∀ k, k < n → IsBit (F k)) :
    Calls Try.prog 78 #[.agg #[.int .i64 (d : Int), .int .i64 (t : Int)], .slice (some ⟨b, o, none⟩) n c] w fun e w' => e = .returned (.bool (rightB d t n F)) ∧ Below w.heap.size w w' :=
  (isRightR_any d t b o n c F w h0 h1 t1 hdn hn hnc hc hI hb).mono fun e w' h => ⟨by rw [h.1, intsB_swap]; rfl, h.2⟩
set_option maxHeartbeats 8000000 in
set_option maxRecDepth 100000 in
theorem joinedR_any (x y m len n c : Nat) (A : Option Addr) (L : Nat → Nat) (F : Nat → Nat → Int) (w : World) (h0 : 1 ≤ x) (h1 : x ≤ 16) (t1 : y < 2 ^ x) (hx : x < m) (hm : m ≤ 100) (l0 : 0 < len) (l9 : len ≤ 200) (hn : n ≤ 1000) (hL : ∀ i, i < n → L i ≤ 1000) (hI : ListsAt w 0 A n L F) :
    Calls Try.prog 38 #[.agg #[.int .i64 (x : Int), .int .i64 (y : Int), .int .i64 (m : Int)], .slice A n c, .int .i64 (len : Int)] w (GaveJoin (joinErrI x y m len n L F) (joinNum x y m len n L F) len (joinF x m len F) w) := by
  obtain ⟨c1, c2, c3, c4, c5, c6⟩ := cut_facts hx hm l0 l9
  have HI := hide hI
  have HL := hide hL
  have HCO := hide (fun W => cut_any x y m len W hx hm l0 l9)
  have HJE := hide (joinErr_def x y m len n L F)
  have HJN := hide (joinNum_def x y m len n L F)
  have HJF := hide (joinF_def x m len F)
  generalize joinErrI x y m len n L F = JE at *
  generalize joinNum x y m len n L F = JN at *
  generalize joinF x m len F = JF at *
  generalize cntN x m len = cnt at *
  generalize aheadN x m len = a at *
  obtain ⟨s, hs⟩ : ∃ s : Nat, s = cnt * a := ⟨_, rfl⟩
  rw [← hs] at c5 c6 HJE HJF
  have hsz : (cnt : Int) * (a : Int) = (s : Int) := by rw [hs]; simp
  obtain ⟨f, hf⟩ : ∃ f : Nat, f = s - len := ⟨_, rfl⟩
  rw [← hf] at HJE HJF
  have hsf : s = f + len := by omega
  have HS := hide hs
  have q2 : IntKind.i64.wrap ((cnt : Int) * (a : Int)) = (s : Int) := by rw [hsz]; exact IntWalk.i64_in _ (by omega)
  have q3 : IntKind.i64.wrap ((s : Int) - (len : Int)) = (f : Int) := by rw [IntWalk.i64_in _ (by omega)]; omega
  have q4 : IntKind.i64.wrap ((a : Int) + (x : Int)) = (a : Int) + (x : Int) := IntWalk.i64_in _ (by omega)
  clear hI hL hs hf hsz
  go_enter Try.func38, Try.ntmps38
  go_wp2_with fail
  refine (HCO.out _).mono ?_
  rintro e w1 ⟨rfl, hb1⟩
  have bx1 : Box w1 w.heap.size 71 #[.int .i64 (x : Int), .int .i64 (y : Int), .int .i64 (m : Int)] := (Box.made rfl).below hb1
  have hB1 := below_of_alloc hb1
  by_cases hnc : n = cnt
  · subst hnc
    rw [if_pos rfl] at HJE HJN
    have tn : ((n : Int) != (n : Int)) = false := by simp
    have HI1 := hide (HI.out.below hB1)
    have HB1 := hide hB1
    go_wp2_with fail
    clear hb1 hB1
    go_loopw [11, 12] (fun z i wr => ∃ k : Nat, k ≤ n ∧ i = .int .i64 k ∧ OwnInts wr w1.heap.size z (k * a) (allF a F) ∧ Hid (firstBad (fun i => segErrI x y a (L i) (F i)) k = 0) ∧ Below w1.heap.size w1 wr) (fun _ i _ => n - (intOf i).toNat)
    case atStart => exact ⟨0, Nat.zero_le _, rfl, by rw [Nat.zero_mul]; exact OwnInts.nil_ _ _ _, hide rfl, Below.refl _ _⟩
    case round =>
      obtain ⟨k, hk, rfl, hown, HZ, hB⟩ := hrel
      have hBs := hB.size
      have bx := bx1.below hB
      obtain ⟨x0, x1, x2, hlx⟩ := rule_cells bx
      by_cases hlt : k < n
      · have hltz : (k : Int) < (n : Int) := by omega
        obtain ⟨b, o, Ai, ci, rfl, -, hbk, hcell, hlc, hc9, hIk⟩ := (HI1.out.below hB) k hlt
        have hBw := HB1.out.trans (hB.mono HB1.out.size)
        have HLk := hide (HL.out k hlt)
        by_cases hlen : L k = a + x
        · have tl : ((L k : Int) != (a : Int) + (x : Int)) = false := by simp; omega
          obtain ⟨bi, oi, rfl, -, hbi, -⟩ := hIk 0 (by omega)
          have haL : a ≤ L k := by omega
          have hka : (a : Int) ≤ (ci : Int) := by omega
          have hka2 : a ≤ ci := by omega
          have HIk := hide hIk
          have HKE := hide (fun W hW => kindErr_any (some ⟨bi, oi, none⟩) (L k) ci (F k) W (by have := HLk.out; omega) hW)
          cases hbt : bitsB (L k) (F k)
          · rw [hbt] at HKE
            have HG := hide (show segErrI x y a (L k) (F k) = 15 from by unfold segErrI; rw [if_pos hlen, hbt]; rfl)
            have HFB := hide (show firstBad (fun i => segErrI x y a (L i) (F i)) n = 15 from by rw [firstBad_at HZ.out (by show segErrI x y a (L k) (F k) ≠ 0; rw [HG.out]; decide) n hlt]; exact HG.out)
            have HE := hide (show JE = 15 from by rw [HJE.out, HFB.out]; rfl)
            have HN := hide (show JN = k from by rw [HJN.out, HFB.out]; exact firstIdx_at HZ.out (by show segErrI x y a (L k) (F k) ≠ 0; rw [HG.out]; decide) n hlt)
            clear hlen hbt hIk
            go_wp2_with fail
            go_quiet (fail)
            go_wp2_with fail
            refine (HKE.out _ (HIk.out.drewN _)).mono ?_
            rintro e w2 ⟨rfl, q2', rfl⟩
            go_wp2_with fail
            go_ret3
            exact ⟨⟨_, by rw [HE.out, HN.out]; rfl, .inl ⟨by rw [HE.out]; decide, rfl⟩⟩, below_drewN hBw _⟩
          · rw [hbt] at HKE
            have hbits := bitsB_iff.1 hbt
            have HIR := hide (fun W hW => isRightR_b x y bi oi (L k) ci (F k) W h0 h1 t1 (by omega) HLk.out hlc hc9 hW hbits)
            cases hrt : rightB x y (L k) (F k)
            · rw [hrt] at HIR
              have HG := hide (show segErrI x y a (L k) (F k) = 21 from by unfold segErrI; rw [if_pos hlen, hbt, hrt]; rfl)
              have HFB := hide (show firstBad (fun i => segErrI x y a (L i) (F i)) n = 21 from by rw [firstBad_at HZ.out (by show segErrI x y a (L k) (F k) ≠ 0; rw [HG.out]; decide) n hlt]; exact HG.out)
              have HE := hide (show JE = 21 from by rw [HJE.out, HFB.out]; rfl)
              have HN := hide (show JN = k from by rw [HJN.out, HFB.out]; exact firstIdx_at HZ.out (by show segErrI x y a (L k) (F k) ≠ 0; rw [HG.out]; decide) n hlt)
              clear hlen hbt hIk hbits hrt
              go_wp2_with fail
              go_quiet (fail)
              go_wp2_with fail
              refine (HKE.out _ (HIk.out.drewN _)).mono ?_
              rintro e w2 ⟨rfl, q2', rfl⟩
              go_wp2_with fail
              have hb2 : Below wr.heap.size wr (wr.drewN (nq + q2')) := below_drewN (Below.refl _ _) _
              generalize wr.drewN (nq + q2') = w2 at *
              have SOF := hide (fun W' (h : Below wr.heap.size wr W') => (⟨(h.cell (p := ⟨w.heap.size, 0, none⟩) hlx).trans x0, (h.cell (p := ⟨w.heap.size, 1, none⟩) hlx).trans x1, (h.cell (p := ⟨b, o + k, none⟩) hbk).trans hcell, h⟩ :
                W'.cell? ⟨w.heap.size, 0, none⟩ = some (.int .i64 (x : Int)) ∧ W'.cell? ⟨w.heap.size, 1, none⟩ = some (.int .i64 (y : Int)) ∧ W'.cell? ⟨b, o + k, none⟩ = some (.slice (some ⟨bi, oi, none⟩) (L k) ci) ∧ Below wr.heap.size wr W'))
              have KI := hide (fun W' (h : W'.cell? ⟨w.heap.size, 0, none⟩ = some (.int .i64 (x : Int)) ∧ W'.cell? ⟨w.heap.size, 1, none⟩ = some (.int .i64 (y : Int)) ∧ W'.cell? ⟨b, o + k, none⟩ = some (.slice (some ⟨bi, oi, none⟩) (L k) ci) ∧ Below wr.heap.size wr W') => HIk.out.below h.2.2.2)
              go_region_held3 (fun w' => w'.cell? ⟨w.heap.size, 0, none⟩ = some (.int .i64 (x : Int)) ∧ w'.cell? ⟨w.heap.size, 1, none⟩ = some (.int .i64 (y : Int)) ∧ w'.cell? ⟨b, o + k, none⟩ = some (.slice (some ⟨bi, oi, none⟩) (L k) ci) ∧ Below wr.heap.size wr w')
                (first | assumption | exact SOF.out _ (by assumption) | exact SOF.out _ hb2.drew)
                (first
                  | (go_at_call 78; refine (HIR.out _ (KI.out _ (by assumption))).mono ?_; rintro e w3 ⟨rfl, hb3⟩; have hs3 : Below wr.heap.size wr w3 := bstep4 hb3 (by assumption) (Nat.le_refl _)))
              go_wp2_with fail
              go_ret3
              exact ⟨⟨_, by rw [HE.out, HN.out]; rfl, .inl ⟨by rw [HE.out]; decide, rfl⟩⟩, hBw.trans (hs3.mono hBw.size)⟩
            · rw [hrt] at HIR
              have HG := hide (show segErrI x y a (L k) (F k) = 0 from by unfold segErrI; rw [if_pos hlen, hbt, hrt]; rfl)
              clear hlen hbt hIk hbits hrt
              go_wp2_with fail
              go_quiet (fail)
              go_wp2_with fail
              refine (HKE.out _ (HIk.out.drewN _)).mono ?_
              rintro e w2 ⟨rfl, q2', rfl⟩
              go_wp2_with fail
              have hb2 : Below wr.heap.size wr (wr.drewN (nq + q2')) := below_drewN (Below.refl _ _) _
              generalize wr.drewN (nq + q2') = w2 at *
              have SOF := hide (fun W' (h : Below wr.heap.size wr W') => (⟨(h.cell (p := ⟨w.heap.size, 0, none⟩) hlx).trans x0, (h.cell (p := ⟨w.heap.size, 1, none⟩) hlx).trans x1, (h.cell (p := ⟨b, o + k, none⟩) hbk).trans hcell, h⟩ :
                W'.cell? ⟨w.heap.size, 0, none⟩ = some (.int .i64 (x : Int)) ∧ W'.cell? ⟨w.heap.size, 1, none⟩ = some (.int .i64 (y : Int)) ∧ W'.cell? ⟨b, o + k, none⟩ = some (.slice (some ⟨bi, oi, none⟩) (L k) ci) ∧ Below wr.heap.size wr W'))
              have KI := hide (fun W' (h : W'.cell? ⟨w.heap.size, 0, none⟩ = some (.int .i64 (x : Int)) ∧ W'.cell? ⟨w.heap.size, 1, none⟩ = some (.int .i64 (y : Int)) ∧ W'.cell? ⟨b, o + k, none⟩ = some (.slice (some ⟨bi, oi, none⟩) (L k) ci) ∧ Below wr.heap.size wr W') => HIk.out.below h.2.2.2)
              go_region_held3 (fun w' => w'.cell? ⟨w.heap.size, 0, none⟩ = some (.int .i64 (x : Int)) ∧ w'.cell? ⟨w.heap.size, 1, none⟩ = some (.int .i64 (y : Int)) ∧ w'.cell? ⟨b, o + k, none⟩ = some (.slice (some ⟨bi, oi, none⟩) (L k) ci) ∧ Below wr.heap.size wr w')
                (first | assumption | exact SOF.out _ (by assumption) | exact SOF.out _ hb2.drew)
                (first
                  | (go_at_call 78; refine (HIR.out _ (KI.out _ (by assumption))).mono ?_; rintro e w3 ⟨rfl, hb3⟩; have hs3 : Below wr.heap.size wr w3 := bstep4 hb3 (by assumption) (Nat.le_refl _)))
              obtain ⟨-, -, y3, -⟩ := SOF.out _ hs3
              obtain ⟨As, cs, rfl, hcs, hIs⟩ := hown.form
              have hs3s := hs3.size
              have hka9 : k * a ≤ s := by rw [HS.out]; exact Nat.mul_le_mul_right a hk
              go_wp2_with (at_builtin; refine (wpList_append_ints _ rfl (.tmp 61) (.tmp 67) rfl w1.heap.size 0 (.slice As (k * a) cs) (k * a) _ rfl (hown.below hs3) (some ⟨bi, oi, none⟩) a ci (F k) rfl ((HIk.out.below hs3).fewer haL) (Nat.le_trans (Nat.add_le_add_right hka9 a) (by omega)) (by omega) ?_); intro v' w' h1 hb4)
              refine ⟨⟨k + 1, by omega, by simp, ?_, hide ?_, (hB.trans (hs3.mono hBs)).trans hb4⟩, by simp [intOf]; omega⟩
              · rw [Nat.add_mul, Nat.one_mul]
                exact h1.congr fun j hj => allF_snoc c3 hj
              · rw [firstBad_succ HZ.out]; exact HG.out
        · have tl : ((L k : Int) != (a : Int) + (x : Int)) = true := by simp; omega
          have HG := hide (show segErrI x y a (L k) (F k) = 10 from by exact if_neg hlen)
          have HFB := hide (show firstBad (fun i => segErrI x y a (L i) (F i)) n = 10 from by rw [firstBad_at HZ.out (by show segErrI x y a (L k) (F k) ≠ 0; rw [HG.out]; decide) n hlt]; exact HG.out)
          have HE := hide (show JE = 10 from by rw [HJE.out, HFB.out]; rfl)
          have HN := hide (show JN = k from by rw [HJN.out, HFB.out]; exact firstIdx_at HZ.out (by show segErrI x y a (L k) (F k) ≠ 0; rw [HG.out]; decide) n hlt)
          clear hlen
          go_wp2_with fail
          go_quiet (fail)
          go_wp2_with fail
          go_ret3
          exact ⟨⟨_, by rw [HE.out, HN.out]; rfl, .inl ⟨by rw [HE.out]; decide, rfl⟩⟩, below_drewN hBw _⟩
      · obtain rfl : k = n := by omega
        have hBw := HB1.out.trans (hB.mono HB1.out.size)
        rw [← HS.out] at hown
        obtain ⟨gz, capz, rfl, hgz, hgz2⟩ := hown.row (by omega)
        obtain ⟨hsc, hcap9⟩ := hown.cap_any
        have HZ0 := hide HZ.out
        have HJE2 := hide (show JE = if hasB f (allF a F) 1 = true then 3 else 0 from by rw [HJE.out, HZ.out]; rfl)
        have HJN2 := hide (show JN = 0 from by rw [HJN.out, HZ.out]; rfl)
        have hfs : (f : Int) ≤ (s : Int) := by omega
        have hfc : (f : Int) ≤ (capz : Int) := by omega
        have hsub : s - f = len := by omega
        go_wp2_with fail
        go_loopw [15] (fun i wx => ∃ j : Nat, j ≤ f ∧ i = .int .i64 j ∧ wx = wr ∧ Hid (∀ q, q < j → allF a F q ≠ 1)) (fun i _ => f - (intOf i).toNat)
        case atStart => exact ⟨0, Nat.zero_le _, rfl, rfl, hide fun q h => absurd h (Nat.not_lt_zero _)⟩
        case round =>
          obtain ⟨j, hj, rfl, rfl, HY⟩ := hrel
          by_cases hlj : j < f
          · have hljz : (j : Int) < (f : Int) := by omega
            have hjs : (j : Int) < (s : Int) := by omega
            have hjs2 : j < s := by omega
            have hcj := hown.cellAt hjs2
            by_cases he : allF a F j = 1
            · have HE := hide (show JE = 3 from by rw [HJE2.out, if_pos (hasB_iff.2 ⟨j, hlj, he⟩)])
              rw [he] at hcj
              clear he
              go_wp2_with fail
              go_ret3
              exact ⟨⟨_, by rw [HE.out, HJN2.out]; rfl, .inl ⟨by rw [HE.out]; decide, rfl⟩⟩, hBw⟩
            · have t5 : (allF a F j == 1) = false := by simpa using he
              have HE := hide he
              clear he
              go_wp2_with fail
              go_roundw
              case rel => exact ⟨j + 1, by omega, by go_num, trivial, hide fun q hq => (by
                rcases Nat.lt_or_ge q j with h | h
                · exact HY.out q h
                · obtain rfl : q = j := by omega
                  exact HE.out)⟩
              case measure => simp [intOf]; omega
          · obtain rfl : j = f := by omega
            have HE := hide (show JE = 0 from by rw [HJE2.out, if_neg (fun h => by obtain ⟨q, h1, h2⟩ := hasB_iff.1 h; exact HY.out q h1 h2)])
            obtain ⟨Az, cz, ez, -, hIz⟩ := hown.form
            injection ez with ez _ ez2; subst ez; subst ez2
            go_wp2_with fail
            go_ret3
            refine ⟨⟨.slice (some ⟨gz, j, none⟩) len (capz - j), by rw [HE.out, HJN2.out]; rfl, .inr ⟨HE.out, _, _, rfl, ?_⟩⟩, hBw⟩
            rw [HJF.out]
            have h5 := IntsAt.cut (j := j) (m := len) (hIz.weak (Nat.zero_le _)) (by omega)
            rw [Nat.zero_add] at h5
            exact h5
  · rw [if_neg hnc] at HJE HJN
    have tn : ((n : Int) != (cnt : Int)) = true := by simp; omega
    clear hnc
    go_wp2_with fail
    go_ret3
    exact ⟨⟨_, by rw [HJE.out, HJN.out]; rfl, .inl ⟨by rw [HJE.out]; decide, rfl⟩⟩, hB1⟩
end Go.Proofs.Ytjelbemfljobaaa
