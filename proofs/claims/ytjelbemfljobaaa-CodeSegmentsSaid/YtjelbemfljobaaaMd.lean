/- Joined of the code. -/
import Derived.Test.YtjelbemfljobaaaMc
namespace Go.Proofs.Ytjelbemfljobaaa
open Go.RowKit Go.Shelf
theorem cutb_cells {W : World} {b : Nat} {d t M : Int} (bx : Box W b 120 #[.int .i64 d, .int .i64 t, .int .i64 M]) :
    W.cell? ⟨b, 0, none⟩ = some (.int .i64 d) ∧ W.cell? ⟨b, 1, none⟩ = some (.int .i64 t) ∧ W.cell? ⟨b, 2, none⟩ = some (.int .i64 M) ∧ b < W.heap.size := ⟨bx.at_ 0, bx.at_ 1, bx.at_ 2, bx.lt⟩
set_option maxHeartbeats 8000000 in
set_option maxRecDepth 100000 in
theorem Joined_ok (x y m len n c : Nat) (A : Option Addr) (L : Nat → Nat) (F : Nat → Nat → Int) (w : World) (hr0 : ruleErrI x y m = 0) (h0 : 1 ≤ x) (h1 : x ≤ 16) (t1 : y < 2 ^ x) (hx : x < m) (hm : m ≤ 100) (l0 : 0 < len) (l9 : len ≤ 200) (hn : n ≤ 1000) (hL : ∀ i, i < n → L i ≤ 100000) (hI : ListsAt w 0 A n L F) :
    Calls Try.prog 34 #[.agg #[.int .i64 (x : Int), .int .i64 (y : Int), .int .i64 (m : Int)], .slice A n c, .int .i64 (len : Int)] w (GaveJoin (joinErrI x y m len n L F) (joinNum x y m len n L F) len (joinF x m len F) w) := by
  obtain ⟨c1, c2, c3, c4, c5, c6⟩ := cut_facts hx hm l0 l9
  have HI := hide hI
  have HL := hide hL
  have HCO := hide (fun W => cutOf_any x y m len W hx hm l0 l9)
  have HRE := hide (fun W => ruleError_any x y m W)
  rw [hr0] at HRE
  have hwl : withinB len 1 200 = true := withinB_yes (by omega)
  have HJE := hide (joinErr_def x y m len n L F)
  have HJN := hide (joinNum_def x y m len n L F)
  have HJF := hide (joinF_def x m len F)
  generalize joinErrI x y m len n L F = JE at *
  generalize joinNum x y m len n L F = JN at *
  generalize joinF x m len F = JF at *
  generalize cntN x m len = cnt at *
  generalize aheadN x m len = a at *
  obtain ⟨s, hs⟩ : ∃ s : Nat, s = cnt * a := ⟨_, rfl⟩
  rw [← hs] at c5 c6 HJE HJF HCO
  obtain ⟨f, hf⟩ : ∃ f : Nat, f = s - len := ⟨_, rfl⟩
  rw [← hf] at HJE HJF HCO
  have hsf : s = f + len := by omega
  have HS := hide hs
  clear hI hL hr0 hs hf
  go_enter Try.func34, Try.ntmps34
  go_wp2_with fail
  refine (HRE.out _).mono ?_
  rintro e w1 ⟨rfl, hb1⟩
  go_wp2_with fail
  refine (lengthError_any _ _).mono ?_
  rintro e w2 ⟨rfl, rfl⟩
  rw [hwl]
  go_wp2_with fail
  refine (firstError_laid [0, unI true 2] 2 _ _ rfl (by decide)).mono ?_
  rintro e w3 ⟨rfl, hw3⟩
  rw [show firstE [0, unI true 2] = (0 : Int) from rfl]
  have bx : Box w3 w.heap.size 71 #[.int .i64 (x : Int), .int .i64 (y : Int), .int .i64 (m : Int)] := by rw [← hw3]; exact ((Box.made rfl).below hb1).alloc _
  have hB3 : Below w.heap.size w w3 := by
    rw [← hw3]
    have h1 := below_of_alloc hb1
    exact h1.alloc h1.size _
  clear hw3 hb1
  obtain ⟨x0, x1, x2, hl3⟩ := rule_cells bx
  go_wp2_with fail
  refine (HCO.out _).mono ?_
  rintro e w4 ⟨rfl, hb4⟩
  have bx4 := bx.below hb4
  have hB4 := hB3.trans (hb4.mono hB3.size)
  clear x0 x1 x2 hl3 bx hb4 hB3
  by_cases hnc : n = cnt
  · subst hnc
    rw [if_pos rfl] at HJE HJN
    have tn : ((n : Int) != (n : Int)) = false := by simp
    go_wp2_with fail
    generalize hW5 : World.alloc w4 _ = w5
    have bc5 : Box w5 w4.heap.size 120 #[.int .i64 (n : Int), .int .i64 (a : Int), .int .i64 (f : Int)] := by rw [← hW5]; exact Box.made rfl
    have bx5 : Box w5 w.heap.size 71 #[.int .i64 (x : Int), .int .i64 (y : Int), .int .i64 (m : Int)] := by rw [← hW5]; exact bx4.alloc _
    have hB5 : Below w.heap.size w w5 := by rw [← hW5]; exact hB4.alloc hB4.size _
    have HI5 := hide (HI.out.below hB5)
    have HB5 := hide hB5
    clear hW5 bx4 hB4 hB5
    go_loopw [11, 34] (fun z i wr => ∃ k : Nat, k ≤ n ∧ i = .int .i64 k ∧ OwnInts wr w5.heap.size z (k * a) (allF a F) ∧ Hid (firstBad (fun i => segErrI x y a (L i) (F i)) k = 0) ∧ Below w5.heap.size w5 wr) (fun _ i _ => n - (intOf i).toNat)
    case atStart => exact ⟨0, Nat.zero_le _, rfl, by rw [Nat.zero_mul]; exact OwnInts.nil_ _ _ _, hide rfl, Below.refl _ _⟩
    case round =>
      obtain ⟨k, hk, rfl, hown, HZ, hB⟩ := hrel
      have hBs := hB.size
      have hBw := HB5.out.trans (hB.mono HB5.out.size)
      have bx := bx5.below hB
      have bc := bc5.below hB
      obtain ⟨x0, x1, x2, hlx⟩ := rule_cells bx
      obtain ⟨z0, z1, z2, hlz⟩ := cutb_cells bc
      by_cases hlt : k < n
      · have hltz : (k : Int) < (n : Int) := by omega
        obtain ⟨b, o, Ai, ci, rfl, -, hbk, hcell, hlc, hc9, hIk⟩ := (HI5.out.below hB) k hlt
        have HIk := hide hIk
        have HSE := hide (fun W hW => segmentError_any x y a (L k) ci Ai (F k) W h0 h1 t1 c3 (by omega) (HL.out k hlt) hlc hc9 hW)
        by_cases hg : segErrI x y a (L k) (F k) = 0
        · obtain ⟨hlen, -⟩ := segErr_zero hg
          have HG := hide hg
          rw [hg] at HSE
          obtain ⟨bi, oi, rfl, -, -, -⟩ := hIk 0 (by omega)
          have haL : a ≤ L k := by omega
          have hka : (a : Int) ≤ (ci : Int) := by omega
          have hka2 : a ≤ ci := by omega
          have hka9 : k * a ≤ s := by rw [HS.out]; exact Nat.mul_le_mul_right a hk
          clear hg hIk hlen
          go_wp2_with fail
          refine (HSE.out _ HIk.out).mono ?_
          rintro e w6 ⟨rfl, hb6⟩
          have hb6s := hb6.size
          have bc6 := bc.below hb6
          clear x0 x1 x2 hlx z0 z1 z2 hlz
          obtain ⟨z0, z1, z2, hlz⟩ := cutb_cells bc6
          obtain ⟨As, cs, rfl, hcs, hIs⟩ := hown.form
          go_wp2_with (at_builtin; refine wpList_append_ints _ rfl (.tmp 49) (.tmp 53) rfl w5.heap.size 0 (.slice As (k * a) cs) (k * a) _ rfl (hown.below hb6) (some ⟨bi, oi, none⟩) a ci (F k) rfl ((HIk.out.below hb6).fewer haL) (Nat.le_trans (Nat.add_le_add_right hka9 a) (by omega)) (by omega) ?_; intro v' w' h1 hb7)
          refine ⟨⟨k + 1, by omega, by simp, ?_, hide ?_, (hB.trans (hb6.mono hBs)).trans hb7⟩, by simp [intOf]; omega⟩
          · rw [Nat.add_mul, Nat.one_mul]
            exact h1.congr fun j hj => allF_snoc c3 hj
          · rw [firstBad_succ HZ.out]; exact HG.out
        · have HFB := hide (show firstBad (fun i => segErrI x y a (L i) (F i)) n = segErrI x y a (L k) (F k) from firstBad_at HZ.out hg n hlt)
          have HE := hide (show JE = segErrI x y a (L k) (F k) from by rw [HJE.out, HFB.out, if_neg hg])
          have HN := hide (show JN = k from by rw [HJN.out, HFB.out, if_neg hg]; exact firstIdx_at HZ.out hg n hlt)
          have t5 : (segErrI x y a (L k) (F k) != 0) = true := by simpa using hg
          have HG := hide hg
          clear hg HFB
          generalize segErrI x y a (L k) (F k) = ge at *
          go_wp2_with fail
          refine (HSE.out _ HIk.out).mono ?_
          rintro e w6 ⟨rfl, hb6⟩
          go_wp2_with fail
          go_ret3
          exact ⟨⟨_, by rw [HE.out, HN.out]; rfl, .inl ⟨by rw [HE.out]; exact HG.out, rfl⟩⟩, hBw.trans (hb6.mono hBw.size)⟩
      · obtain rfl : k = n := by omega
        rw [← HS.out] at hown
        obtain ⟨gz, capz, rfl, hgz, hgz2⟩ := hown.row (by omega)
        obtain ⟨hsc, hcap9⟩ := hown.cap_any
        obtain ⟨Az, cz, ez, -, hIz⟩ := hown.form
        injection ez with ez _ ez2; subst ez; subst ez2
        have HJE2 := hide (show JE = if hasB f (allF a F) 1 = true then 3 else 0 from by rw [HJE.out, HZ.out]; rfl)
        have HJN2 := hide (show JN = 0 from by rw [HJN.out, HZ.out]; rfl)
        have hfs : (f : Int) ≤ (s : Int) := by omega
        have hfc : (f : Int) ≤ (capz : Int) := by omega
        have hfc2 : f ≤ capz := by omega
        have hsub : s - f = len := by omega
        have HCT := hide (fun W hW => contains_any (some ⟨gz, 0, none⟩) f capz (allF a F) 1 W (by omega) hW)
        have HIz := hide (hIz.weak (Nat.zero_le _))
        clear hIz
        go_wp2_with fail
        refine (HCT.out _ (HIz.out.fewer (by omega))).mono ?_
        rintro e w6 ⟨rfl, rfl⟩
        cases hh : hasB f (allF a F) 1
        · have HE := hide (show JE = 0 from by rw [HJE2.out, hh]; rfl)
          go_wp2_with fail
          go_ret3
          refine ⟨⟨.slice (some ⟨gz, f, none⟩) len (capz - f), by rw [HE.out, HJN2.out]; rfl, .inr ⟨HE.out, _, _, rfl, ?_⟩⟩, hBw⟩
          rw [HJF.out]
          have h5 := IntsAt.cut (j := f) (m := len) HIz.out (by omega)
          rw [Nat.zero_add] at h5
          exact h5
        · have HE := hide (show JE = 3 from by rw [HJE2.out, hh]; rfl)
          go_wp2_with fail
          go_ret3
          exact ⟨⟨_, by rw [HE.out, HJN2.out]; rfl, .inl ⟨by rw [HE.out]; decide, rfl⟩⟩, hBw⟩
  · rw [if_neg hnc] at HJE HJN
    have tn : ((n : Int) != (cnt : Int)) = true := by simp; omega
    clear hnc
    go_wp2_with fail
    go_ret3
    exact ⟨⟨_, by rw [HJE.out, HJN.out]; rfl, .inl ⟨by rw [HJE.out]; decide, rfl⟩⟩, hB4.alloc hB4.size _⟩
end Go.Proofs.Ytjelbemfljobaaa
