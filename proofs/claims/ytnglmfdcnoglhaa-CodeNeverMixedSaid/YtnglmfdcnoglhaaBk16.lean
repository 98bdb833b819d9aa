/- Lemmas: Pd, Pn. -/
import Derived.Test.YtnglmfdcnoglhaaBk13
import Derived.Test.YtnglmfdcnoglhaaBk15
set_option linter.unusedVariables false
set_option linter.unusedSimpArgs false
/- Buffers' error of the reference. -/
namespace Go.Proofs.Ytnglmfdcnoglhaa
open Go.RowKit Go.Shelf
theorem zero_ints (l : Nat) (S : Nat → Int) : intsB l S l (fun _ => 0) = zeroB l S := by
  rw [Bool.eq_iff_iff, intsB_iff, zeroB_iff]
  exact ⟨fun h => h.2, fun h => ⟨rfl, h⟩⟩
theorem procErr_state {len t k : Int} {l : Nat} {S : Nat → Int} (h1 : withinB t (-1) 1 = true) (h2 : withinB k 0 1000000000 = true) : procErrI len t k l S = if ((t == -1) == (k == 0)) = false then 22 else if (l : Int) ≠ len then 10 else if sizedB l S 1000000000 = false then 2 else if k = 0 ∧ zeroB l S = false then 22 else 0 := by
  unfold procErrI; rw [if_neg (by rw [h1]; decide), if_neg (by rw [h2]; decide)]
theorem sized_of {l : Nat} {S : Nat → Int} {len : Int} (h : withinB len 1 200 = true) (hl : (l : Int) = len) : sizedErrI l 200 S 1000000000 = if sizedB l S 1000000000 = true then 0 else 2 := by
  have := withinB_of h
  unfold sizedErrI
  rw [if_neg (by omega), if_neg (by omega)]
theorem fb_use {P R x : Int} (h : P ≠ 0 → R = P) (e : P = x) (hx : x ≠ 0) : R = x := (h (by rw [e]; exact hx)).trans e
set_option maxHeartbeats 2000000 in
set_option maxRecDepth 100000 in
theorem buffersErrR_any (len : Int) (A : Option Addr) (n c : Nat) (T K : Nat → Int) (L : Nat → Nat) (S : Nat → Nat → Int) (w : World) (hn : n ≤ 9223372036854775807) (hL : ∀ i, i < n → L i ≤ 100000) (hI : ProcsAt w 0 A n T K L S) :
    Calls Try.prog 11 #[.agg #[.int .i64 len, .slice A n c]] w fun e w' => e = .returned (.int .i64 (bufErrI len n T K L S)) ∧ Below w.heap.size w w' := by
  have HI := hide hI
  have HL := hide hL
  clear hI hL
  obtain ⟨R, hR⟩ : ∃ R, R = bufErrI len n T K L S := ⟨_, rfl⟩
  rw [← hR]
  have HR := hide hR
  clear hR
  go_enter Try.func11, Try.ntmps11
  go_wp2_with fail
  refine (lengthErrR_any _ _).mono ?_
  rintro e w' ⟨rfl, rfl⟩
  cases h1 : withinB len 1 200
  · have HE := hide (show R = 2 from by rw [HR.out]; unfold bufErrI; rw [if_pos h1])
    rw [show unI false 2 = 2 from rfl]
    clear h1
    go_wp2_with fail
    go_ret
    exact ⟨ret_int HE.out.symm, by (repeat (first | (with_reducible exact Below.refl _ _) | (with_reducible refine below_drewN ?_ _) | (with_reducible refine Below.drew ?_) | (with_reducible refine Below.alloc ?_ (by first | exact Nat.le_refl _ | (simp; done) | (simp; omega) | omega) _) | (with_reducible refine Below.setCell ?_ (by first | exact Nat.le_refl _ | (simp; done) | (simp; omega) | omega) _)))⟩
  · rw [show unI true 2 = 0 from rfl]
    by_cases h2 : n = 0
    · have HE := hide (show R = 10 from by rw [HR.out]; unfold bufErrI; rw [if_neg (by rw [h1]; decide), if_pos h2])
      subst h2
      clear h1
      go_wp2_with fail
      go_ret
      exact ⟨ret_int HE.out.symm, by (repeat (first | (with_reducible exact Below.refl _ _) | (with_reducible refine below_drewN ?_ _) | (with_reducible refine Below.drew ?_) | (with_reducible refine Below.alloc ?_ (by first | exact Nat.le_refl _ | (simp; done) | (simp; omega) | omega) _) | (with_reducible refine Below.setCell ?_ (by first | exact Nat.le_refl _ | (simp; done) | (simp; omega) | omega) _)))⟩
    · have t2 : ((n : Int) == 0) = false := by simp; omega
      by_cases h3 : 8 < n
      · have HE := hide (show R = 8 from by rw [HR.out]; unfold bufErrI; rw [if_neg (by rw [h1]; decide), if_neg h2, if_pos h3])
        have t3 : decide ((8 : Int) < (n : Int)) = true := decide_eq_true (by omega)
        have t3' : decide (8 < n) = true := decide_eq_true h3
        clear h1 h2 h3
        go_wp2_with fail
        go_ret
        exact ⟨ret_int HE.out.symm, by (repeat (first | (with_reducible exact Below.refl _ _) | (with_reducible refine below_drewN ?_ _) | (with_reducible refine Below.drew ?_) | (with_reducible refine Below.alloc ?_ (by first | exact Nat.le_refl _ | (simp; done) | (simp; omega) | omega) _) | (with_reducible refine Below.setCell ?_ (by first | exact Nat.le_refl _ | (simp; done) | (simp; omega) | omega) _)))⟩
      · have HE := hide (show R = procsErrI len n T K L S from by rw [HR.out]; unfold bufErrI; rw [if_neg (by rw [h1]; decide), if_neg h2, if_neg h3])
        have t3 : decide ((8 : Int) < (n : Int)) = false := decide_eq_false (by omega)
        have t3' : decide (8 < n) = false := decide_eq_false h3
        have hn0 : 0 < n := by omega
        have hn8 : n ≤ 8 := by omega
        have HW := hide h1
        clear h1 h2 h3 HR
        go_wp2_with fail
        clear t2 t3 t3'
        go_loopw [4, 5, 6] (fun i _ _ wr => ∃ j : Nat, j ≤ n ∧ i = .int .i64 j ∧ Hid (procsErrI len j T K L S = 0) ∧ Box wr w.heap.size 36 #[.int .i64 len, .slice A n c] ∧ Below w.heap.size w wr) (fun i _ _ _ => n - (intOf i).toNat)
        case atStart => exact ⟨0, Nat.zero_le _, rfl, hide rfl, Box.made rfl, by (repeat (first | (with_reducible exact Below.refl _ _) | (with_reducible refine below_drewN ?_ _) | (with_reducible refine Below.drew ?_) | (with_reducible refine Below.alloc ?_ (by first | exact Nat.le_refl _ | (simp; done) | (simp; omega) | omega) _) | (with_reducible refine Below.setCell ?_ (by first | exact Nat.le_refl _ | (simp; done) | (simp; omega) | omega) _)))⟩
        case round =>
          obtain ⟨j, hj, rfl, HZ, bx, hB⟩ := hrel
          obtain ⟨z0, z1, hlz⟩ := bufs_cells bx
          by_cases hlt : j < n
          · have hltz : (j : Int) < (n : Int) := by omega
            obtain ⟨b, o, Ai, ci, rfl, -, hb, hc0, hc1, hc2, hIj⟩ := (HI.out.below hB) j hlt
            have hl9 := HL.out j hlt
            have HG := hide (show procsErrI len (j + 1) T K L S = procErrI len (T j) (K j) (L j) (S j) from firstBad_succ HZ.out)
            have HFB := hide (fun (h : procErrI len (T j) (K j) (L j) (S j) ≠ 0) => HE.out.trans (firstBad_at HZ.out h n hlt : procsErrI len n T K L S = procErrI len (T j) (K j) (L j) (S j)))
            have HIJ := hide hIj
            have HS1 := hide (fun W hW => sumsErrR_any Ai (L j) ci (S j) W (by omega) hW)
            clear hIj HZ
            generalize T j = t at *
            generalize K j = k at *
            generalize L j = l at *
            generalize S j = s at *
            by_cases ht : t = -1
            · by_cases hk : k = 0
              · skip
                have tt : (t == -1) = true := by simpa using ht
                have tk : (k == 0) = true := by simpa using hk
                subst hk
                have HK := hide (rfl : (0 : Int) = 0)
                clear ht
                go_wp2_with fail
                refine (within_any t (-1) 1 _).mono ?_
                rintro e w' ⟨rfl, rfl⟩
                have hBX := hB.alloc hB.size (.cells #[.int .i64 t, .int .i64 0, .slice Ai l ci] 55)
                cases h1 : withinB t (-1) 1
                · skip
                  have HX := hide (fb_use HFB.out (show procErrI len t 0 l s = 2 from by unfold procErrI; rw [if_pos h1]) (by decide))
                  clear HFB HG h1
                  go_wp2_with fail
                  go_ret
                  exact ⟨ret_int HX.out.symm, hBX⟩
                · go_wp2_with fail
                  refine (within_any 0 0 1000000000 _).mono ?_
                  rintro e w' ⟨rfl, rfl⟩
                  cases h2 : withinB 0 0 1000000000
                  · skip
                    have HX := hide (fb_use HFB.out (show procErrI len t 0 l s = 2 from by unfold procErrI; rw [if_neg (by rw [h1]; decide), if_pos h2]) (by decide))
                    clear HFB HG h1 h2
                    go_wp2_with fail
                    go_ret
                    exact ⟨ret_int HX.out.symm, hBX⟩
                  · have HP := hide (procErr_state (len := len) (l := l) (S := s) h1 h2)
                    clear h1 h2
                    by_cases h4 : (l : Int) = len
                    · have t4 : ((l : Int) != len) = false := by simpa using h4
                      have HQ := hide (show procErrI len t 0 l s = if sizedB l s 1000000000 = false then 2 else if (0 : Int) = 0 ∧ zeroB l s = false then 22 else 0 from by rw [HP.out, if_neg (by rw [tk, tt]; decide), if_neg (fun h => h h4)])
                      have HSZ := hide (sized_of (S := s) HW.out h4)
                      have hl0 := (withinB_of HW.out).1
                      have hl1 := (withinB_of HW.out).2
                      have HLN := hide h4
                      clear h4 HP
                      go_wp2_with fail
                      refine (HS1.out _ (HIJ.out.alloc _)).mono ?_
                      rintro e w5 ⟨rfl, q5, rfl⟩
                      rw [HSZ.out]
                      have hBX5 := below_drewN hBX q5
                      have bp5 : Box ((wr.alloc (.cells #[.int .i64 t, .int .i64 0, .slice Ai l ci] 55)).drewN q5) wr.heap.size 55 #[.int .i64 t, .int .i64 0, .slice Ai l ci] := Box.made rfl
                      have bx5 := ((bx.alloc (.cells #[.int .i64 t, .int .i64 0, .slice Ai l ci] 55)).drewN q5)
                      have HI5 := hide ((HIJ.out.alloc (.cells #[.int .i64 t, .int .i64 0, .slice Ai l ci] 55)).drewN q5)
                      clear z0 z1 hlz bx hc0 hc1 hc2 hb hBX
                      generalize (wr.alloc (.cells #[.int .i64 t, .int .i64 0, .slice Ai l ci] 55)).drewN q5 = w5 at *
                      obtain ⟨z0, z1, hlz⟩ := bufs_cells bx5
                      obtain ⟨x0, x1, x2, hlx⟩ := proc_cells bp5
                      have hBX := hBX5
                      cases h5 : sizedB l s 1000000000
                      · rw [show (if false = true then (0 : Int) else 2) = 2 from rfl]
                        have HX := hide (fb_use HFB.out (show procErrI len t 0 l s = 2 from by rw [HQ.out, if_pos h5]) (by decide))
                        clear HFB HG h5
                        go_wp2_with fail
                        go_ret
                        exact ⟨ret_int HX.out.symm, hBX⟩
                      · rw [show (if true = true then (0 : Int) else 2) = 0 from rfl]
                        have HZZ := hide (show procErrI len t 0 l s = if zeroB l s = false then 22 else 0 from by
                          rw [HQ.out, if_neg (by rw [h5]; decide)]
                          by_cases hz : zeroB l s = false
                          · rw [if_pos ⟨HK.out, hz⟩, if_pos hz]
                          · rw [if_neg (fun h => hz h.2), if_neg hz])
                        clear h5 HQ HSZ
                        obtain rfl : len = (l : Int) := HLN.out.symm
                        have hl0n : 1 ≤ l := by omega
                        obtain ⟨i0, hi, hm0, hm1, hm2⟩ := info_parts intInfo
                        have hmk := fun W => run_make_row (P := Try.prog) 24 3 i0 (.int .i64 0) Try.underlying24 hi hm0 hm1 rfl .i64 .i64 l (by rw [hm2]; omega) (by omega) W
                        have HIB := hide (fun W g hW hW2 => ints_any Ai (some ⟨g, 0, none⟩) l l ci l s (fun _ => 0) W hl9 hl9 hW hW2)
                        rw [zero_ints] at HIB
                        clear hi hm0 hm1 hm2
                        cases hz : zeroB l s
                        · rw [hz] at HIB
                          have HX := hide (fb_use HFB.out (show procErrI (l : Int) t 0 l s = 22 from by rw [HZZ.out, hz]; rfl) (by decide))
                          clear HFB HG hz HZZ
                          go_wp2_with fail
                          have SOF := hide (fun W' (h : Below w5.heap.size w5 W') => (⟨(h.cell (p := ⟨wr.heap.size, 1, none⟩) hlx).trans x1, (h.cell (p := ⟨wr.heap.size, 2, none⟩) hlx).trans x2, (h.cell (p := ⟨w.heap.size, 0, none⟩) hlz).trans z0, h⟩ : (W'.cell? ⟨wr.heap.size, 1, none⟩ = some (.int .i64 0) ∧ W'.cell? ⟨wr.heap.size, 2, none⟩ = some (.slice Ai l ci) ∧ W'.cell? ⟨w.heap.size, 0, none⟩ = some (.int .i64 (l : Int)) ∧ Below w5.heap.size w5 W')))
                          have bb0 : Below w5.heap.size w5 w5 := Below.refl _ _
                          have bd0 : Below w5.heap.size w5 w5.drew := bb0.drew
                          have bd1 : Below w5.heap.size w5 (w5.drew.alloc (.cells (madeCells #[.int .i64 0] l) 3)) := ballocH bd0 (Nat.le_refl _) _
                          clear x1 x2 z0
                          refine wp_region_held_drew (S := fun w' => (w'.cell? ⟨wr.heap.size, 1, none⟩ = some (.int .i64 0) ∧ w'.cell? ⟨wr.heap.size, 2, none⟩ = some (.slice Ai l ci) ∧ w'.cell? ⟨w.heap.size, 0, none⟩ = some (.int .i64 (l : Int)) ∧ Below w5.heap.size w5 w')) (by kernel_rfl) (SOF.out _ bd0) (fun hHeld => ?_)
                          refine wpAnyH_take (i := 0) (oi := ⟨some 62, _, _, _, _, _⟩) (v := ?_) rfl (by kernel_rfl) (by kernel_rfl) (by kernel_rfl) (fun _ _ _ h => h) (Or.inl ⟨by rfl, ?_⟩) (by assumption) ?_
                          rotate_left
                          · (intro w' hSw; (try dsimp only at hSw); go_simp <;> (with_reducible rfl))
                          try simp only [Act.put, List.setIfInBounds_toArray, List.set_cons_zero, List.set_cons_succ]
                          refine wpAnyH_take (i := 1) (oi := ⟨some 63, _, _, _, _, _⟩) (v := ?_) rfl (by kernel_rfl) (by kernel_rfl) (by kernel_rfl) (fun _ _ _ h => h) (Or.inl ⟨by rfl, ?_⟩) (by assumption) ?_
                          rotate_left
                          · (intro w' hSw; (try dsimp only at hSw); go_simp <;> (with_reducible rfl))
                          try simp only [Act.put, List.setIfInBounds_toArray, List.set_cons_zero, List.set_cons_succ]
                          refine wpAnyH_take (i := 2) (oi := ⟨some 64, _, _, _, _, _⟩) (v := ?_) rfl (by kernel_rfl) (by kernel_rfl) (by kernel_rfl) (fun _ _ _ h => h) (Or.inl ⟨by rfl, ?_⟩) (by assumption) ?_
                          rotate_left
                          · (intro w' hSw; (try dsimp only at hSw); go_simp <;> (with_reducible rfl))
                          try simp only [Act.put, List.setIfInBounds_toArray, List.set_cons_zero, List.set_cons_succ]
                          refine wpAnyH_take (i := 3) (oi := ⟨some 65, _, _, _, _, _⟩) (v := ?_) rfl (by kernel_rfl) (by kernel_rfl) (by kernel_rfl) (fun _ _ _ h => h) (Or.inl ⟨by rfl, ?_⟩) (by assumption) ?_
                          rotate_left
                          · (intro w' hSw; (try dsimp only at hSw); go_simp <;> (with_reducible rfl))
                          try simp only [Act.put, List.setIfInBounds_toArray, List.set_cons_zero, List.set_cons_succ]
                          refine wpAnyH_take (i := 4) (oi := ⟨some 66, _, _, _, _, _⟩) (v := ?_) rfl (by kernel_rfl) (by kernel_rfl) (by kernel_rfl) (fun _ _ _ h => h) (Or.inl ⟨by rfl, ?_⟩) (by assumption) ?_
                          rotate_left
                          · (intro w' hSw; (try dsimp only at hSw); go_simp <;> (with_reducible rfl))
                          try simp only [Act.put, List.setIfInBounds_toArray, List.set_cons_zero, List.set_cons_succ]
                          refine wpAnyH_take (i := 5) (oi := ⟨some 67, _, _, _, _, _⟩) (v := ?_) rfl (by kernel_rfl) (by kernel_rfl) (by kernel_rfl) (fun _ _ _ h => h) (Or.inl ⟨by rfl, ?_⟩) (by assumption) ?_
                          rotate_left
                          · (intro w' hSw; (try dsimp only at hSw); go_simp <;> (with_reducible rfl))
                          try simp only [Act.put, List.setIfInBounds_toArray, List.set_cons_zero, List.set_cons_succ]
                          refine wpAnyH_take (i := 6) (oi := ⟨some 68, _, _, _, _, _⟩) (v := ?_) rfl (by kernel_rfl) (by kernel_rfl) (by kernel_rfl) (fun _ _ _ h => h) (Or.inl ⟨by rfl, ?_⟩) (by assumption) ?_
                          rotate_left
                          · (intro w' hSw; (try dsimp only at hSw); go_simp <;> (with_reducible rfl))
                          try simp only [Act.put, List.setIfInBounds_toArray, List.set_cons_zero, List.set_cons_succ]
                          refine wpAnyH_take (i := 7) (oi := ⟨some 69, _, _, _, _, _⟩) (v := ?_) rfl (by kernel_rfl) (by kernel_rfl) (by kernel_rfl) (fun _ _ _ h => h) (Or.inl ⟨by rfl, ?_⟩) (by assumption) ?_
                          rotate_left
                          · (intro w' hSw; (try dsimp only at hSw); go_simp <;> (with_reducible rfl))
                          try simp only [Act.put, List.setIfInBounds_toArray, List.set_cons_zero, List.set_cons_succ]
                          refine wpAnyH_ready (rs := [8]) (by kernel_rfl) (by simp) ?_
                          refine AllReadyH.cons (o := ⟨some 70, _, _, _, _, _⟩) rfl (fun K' hK => ?_) AllReadyH.nil
                          go_simp
                          refine hK.out _ _ (SOF.out _ bd1) (fun hHeld => ?_)
                          clear hK K'
                          try simp only [Act.put, List.setIfInBounds_toArray, List.set_cons_zero, List.set_cons_succ]
                          refine wpAnyH_ready (rs := [9]) (by kernel_rfl) (by simp) ?_
                          refine AllReadyH.cons (o := ⟨some 71, _, _, _, _, _⟩) rfl (fun K' hK => ?_) AllReadyH.nil
                          go_simp
                          go_at_call 22
                          refine (HIB.out _ _ (HI5.out.below bd1) (IntsAt.of_row (World.rowIs_made _ (.int .i64 0) l 3) (Nat.zero_le _))).mono ?_
                          rintro r w8 ⟨rfl, q8, rfl⟩
                          go_wp2_with fail
                          refine hK.out _ _ (SOF.out _ (below_drewN (ballocH bb0 (Nat.le_refl _) _) _)) (fun hHeld => ?_)
                          clear hK K'
                          try simp only [Act.put, List.setIfInBounds_toArray, List.set_cons_zero, List.set_cons_succ]
                          refine wpAnyH_take (i := 10) (oi := ⟨some 72, _, _, _, _, _⟩) (v := ?_) rfl (by kernel_rfl) (by kernel_rfl) (by kernel_rfl) (fun _ _ _ h => h) (Or.inl ⟨by rfl, ?_⟩) (by assumption) ?_
                          rotate_left
                          · (intro w' hSw; (try dsimp only at hSw); go_simp <;> (with_reducible rfl))
                          try simp only [Act.put, List.setIfInBounds_toArray, List.set_cons_zero, List.set_cons_succ]
                          refine wpAnyH_take (i := 11) (oi := ⟨some 73, _, _, _, _, _⟩) (v := ?_) rfl (by kernel_rfl) (by kernel_rfl) (by kernel_rfl) (fun _ _ _ h => h) (Or.inl ⟨by rfl, ?_⟩) (by assumption) ?_
                          rotate_left
                          · (intro w' hSw; (try dsimp only at hSw); go_simp <;> (with_reducible rfl))
                          try simp only [Act.put, List.setIfInBounds_toArray, List.set_cons_zero, List.set_cons_succ]
                          refine wpAnyH_done (by kernel_rfl) ?_ _
                          go_wp2_with fail
                          go_ret
                          exact ⟨ret_int HX.out.symm, below_drewN (hBX.alloc hBX.size _) _⟩
                        · rw [hz] at HIB
                          have HN := hide (show procsErrI (l : Int) (j + 1) T K L S = 0 from by rw [HG.out, HZZ.out, hz]; rfl)
                          clear HFB HG hz HZZ
                          go_wp2_with fail
                          have SOF := hide (fun W' (h : Below w5.heap.size w5 W') => (⟨(h.cell (p := ⟨wr.heap.size, 1, none⟩) hlx).trans x1, (h.cell (p := ⟨wr.heap.size, 2, none⟩) hlx).trans x2, (h.cell (p := ⟨w.heap.size, 0, none⟩) hlz).trans z0, h⟩ : (W'.cell? ⟨wr.heap.size, 1, none⟩ = some (.int .i64 0) ∧ W'.cell? ⟨wr.heap.size, 2, none⟩ = some (.slice Ai l ci) ∧ W'.cell? ⟨w.heap.size, 0, none⟩ = some (.int .i64 (l : Int)) ∧ Below w5.heap.size w5 W')))
                          have bb0 : Below w5.heap.size w5 w5 := Below.refl _ _
                          have bd0 : Below w5.heap.size w5 w5.drew := bb0.drew
                          have bd1 : Below w5.heap.size w5 (w5.drew.alloc (.cells (madeCells #[.int .i64 0] l) 3)) := ballocH bd0 (Nat.le_refl _) _
                          clear x1 x2 z0
                          refine wp_region_held_drew (S := fun w' => (w'.cell? ⟨wr.heap.size, 1, none⟩ = some (.int .i64 0) ∧ w'.cell? ⟨wr.heap.size, 2, none⟩ = some (.slice Ai l ci) ∧ w'.cell? ⟨w.heap.size, 0, none⟩ = some (.int .i64 (l : Int)) ∧ Below w5.heap.size w5 w')) (by kernel_rfl) (SOF.out _ bd0) (fun hHeld => ?_)
                          refine wpAnyH_take (i := 0) (oi := ⟨some 62, _, _, _, _, _⟩) (v := ?_) rfl (by kernel_rfl) (by kernel_rfl) (by kernel_rfl) (fun _ _ _ h => h) (Or.inl ⟨by rfl, ?_⟩) (by assumption) ?_
                          rotate_left
                          · (intro w' hSw; (try dsimp only at hSw); go_simp <;> (with_reducible rfl))
                          try simp only [Act.put, List.setIfInBounds_toArray, List.set_cons_zero, List.set_cons_succ]
                          refine wpAnyH_take (i := 1) (oi := ⟨some 63, _, _, _, _, _⟩) (v := ?_) rfl (by kernel_rfl) (by kernel_rfl) (by kernel_rfl) (fun _ _ _ h => h) (Or.inl ⟨by rfl, ?_⟩) (by assumption) ?_
                          rotate_left
                          · (intro w' hSw; (try dsimp only at hSw); go_simp <;> (with_reducible rfl))
                          try simp only [Act.put, List.setIfInBounds_toArray, List.set_cons_zero, List.set_cons_succ]
                          refine wpAnyH_take (i := 2) (oi := ⟨some 64, _, _, _, _, _⟩) (v := ?_) rfl (by kernel_rfl) (by kernel_rfl) (by kernel_rfl) (fun _ _ _ h => h) (Or.inl ⟨by rfl, ?_⟩) (by assumption) ?_
                          rotate_left
                          · (intro w' hSw; (try dsimp only at hSw); go_simp <;> (with_reducible rfl))
                          try simp only [Act.put, List.setIfInBounds_toArray, List.set_cons_zero, List.set_cons_succ]
                          refine wpAnyH_take (i := 3) (oi := ⟨some 65, _, _, _, _, _⟩) (v := ?_) rfl (by kernel_rfl) (by kernel_rfl) (by kernel_rfl) (fun _ _ _ h => h) (Or.inl ⟨by rfl, ?_⟩) (by assumption) ?_
                          rotate_left
                          · (intro w' hSw; (try dsimp only at hSw); go_simp <;> (with_reducible rfl))
                          try simp only [Act.put, List.setIfInBounds_toArray, List.set_cons_zero, List.set_cons_succ]
                          refine wpAnyH_take (i := 4) (oi := ⟨some 66, _, _, _, _, _⟩) (v := ?_) rfl (by kernel_rfl) (by kernel_rfl) (by kernel_rfl) (fun _ _ _ h => h) (Or.inl ⟨by rfl, ?_⟩) (by assumption) ?_
                          rotate_left
                          · (intro w' hSw; (try dsimp only at hSw); go_simp <;> (with_reducible rfl))
                          try simp only [Act.put, List.setIfInBounds_toArray, List.set_cons_zero, List.set_cons_succ]
                          refine wpAnyH_take (i := 5) (oi := ⟨some 67, _, _, _, _, _⟩) (v := ?_) rfl (by kernel_rfl) (by kernel_rfl) (by kernel_rfl) (fun _ _ _ h => h) (Or.inl ⟨by rfl, ?_⟩) (by assumption) ?_
                          rotate_left
                          · (intro w' hSw; (try dsimp only at hSw); go_simp <;> (with_reducible rfl))
                          try simp only [Act.put, List.setIfInBounds_toArray, List.set_cons_zero, List.set_cons_succ]
                          refine wpAnyH_take (i := 6) (oi := ⟨some 68, _, _, _, _, _⟩) (v := ?_) rfl (by kernel_rfl) (by kernel_rfl) (by kernel_rfl) (fun _ _ _ h => h) (Or.inl ⟨by rfl, ?_⟩) (by assumption) ?_
                          rotate_left
                          · (intro w' hSw; (try dsimp only at hSw); go_simp <;> (with_reducible rfl))
                          try simp only [Act.put, List.setIfInBounds_toArray, List.set_cons_zero, List.set_cons_succ]
                          refine wpAnyH_take (i := 7) (oi := ⟨some 69, _, _, _, _, _⟩) (v := ?_) rfl (by kernel_rfl) (by kernel_rfl) (by kernel_rfl) (fun _ _ _ h => h) (Or.inl ⟨by rfl, ?_⟩) (by assumption) ?_
                          rotate_left
                          · (intro w' hSw; (try dsimp only at hSw); go_simp <;> (with_reducible rfl))
                          try simp only [Act.put, List.setIfInBounds_toArray, List.set_cons_zero, List.set_cons_succ]
                          refine wpAnyH_ready (rs := [8]) (by kernel_rfl) (by simp) ?_
                          refine AllReadyH.cons (o := ⟨some 70, _, _, _, _, _⟩) rfl (fun K' hK => ?_) AllReadyH.nil
                          go_simp
                          refine hK.out _ _ (SOF.out _ bd1) (fun hHeld => ?_)
                          clear hK K'
                          try simp only [Act.put, List.setIfInBounds_toArray, List.set_cons_zero, List.set_cons_succ]
                          refine wpAnyH_ready (rs := [9]) (by kernel_rfl) (by simp) ?_
                          refine AllReadyH.cons (o := ⟨some 71, _, _, _, _, _⟩) rfl (fun K' hK => ?_) AllReadyH.nil
                          go_simp
                          go_at_call 22
                          refine (HIB.out _ _ (HI5.out.below bd1) (IntsAt.of_row (World.rowIs_made _ (.int .i64 0) l 3) (Nat.zero_le _))).mono ?_
                          rintro r w8 ⟨rfl, q8, rfl⟩
                          go_wp2_with fail
                          refine hK.out _ _ (SOF.out _ (below_drewN (ballocH bb0 (Nat.le_refl _) _) _)) (fun hHeld => ?_)
                          clear hK K'
                          try simp only [Act.put, List.setIfInBounds_toArray, List.set_cons_zero, List.set_cons_succ]
                          refine wpAnyH_take (i := 10) (oi := ⟨some 72, _, _, _, _, _⟩) (v := ?_) rfl (by kernel_rfl) (by kernel_rfl) (by kernel_rfl) (fun _ _ _ h => h) (Or.inl ⟨by rfl, ?_⟩) (by assumption) ?_
                          rotate_left
                          · (intro w' hSw; (try dsimp only at hSw); go_simp <;> (with_reducible rfl))
                          try simp only [Act.put, List.setIfInBounds_toArray, List.set_cons_zero, List.set_cons_succ]
                          refine wpAnyH_take (i := 11) (oi := ⟨some 73, _, _, _, _, _⟩) (v := ?_) rfl (by kernel_rfl) (by kernel_rfl) (by kernel_rfl) (fun _ _ _ h => h) (Or.inl ⟨by rfl, ?_⟩) (by assumption) ?_
                          rotate_left
                          · (intro w' hSw; (try dsimp only at hSw); go_simp <;> (with_reducible rfl))
                          try simp only [Act.put, List.setIfInBounds_toArray, List.set_cons_zero, List.set_cons_succ]
                          refine wpAnyH_done (by kernel_rfl) ?_ _
                          go_wp2_with fail
                          go_roundw
                          case rel => exact ⟨j + 1, by omega, by go_num, HN, (bx5.alloc _).drewN _, below_drewN (hBX.alloc hBX.size _) _⟩
                          case measure => simp [intOf]; omega
                    · have t4 : ((l : Int) != len) = true := by simpa using h4
                      have HX := hide (fb_use HFB.out (show procErrI len t 0 l s = 10 from by rw [HP.out, if_neg (by rw [tk, tt]; decide), if_pos h4]) (by decide))
                      clear HFB HG h4 HP
                      go_wp2_with fail
                      go_ret
                      exact ⟨ret_int HX.out.symm, hBX⟩
              · skip
                have tt : (t == -1) = true := by simpa using ht
                have tk : (k == 0) = false := by simpa using hk
                have HK := hide hk
                clear ht hk
                go_wp2_with fail
                refine (within_any t (-1) 1 _).mono ?_
                rintro e w' ⟨rfl, rfl⟩
                have hBX := hB.alloc hB.size (.cells #[.int .i64 t, .int .i64 k, .slice Ai l ci] 55)
                cases h1 : withinB t (-1) 1
                · skip
                  have HX := hide (fb_use HFB.out (show procErrI len t k l s = 2 from by unfold procErrI; rw [if_pos h1]) (by decide))
                  clear HFB HG h1
                  go_wp2_with fail
                  go_ret
                  exact ⟨ret_int HX.out.symm, hBX⟩
                · go_wp2_with fail
                  refine (within_any k 0 1000000000 _).mono ?_
                  rintro e w' ⟨rfl, rfl⟩
                  cases h2 : withinB k 0 1000000000
                  · skip
                    have HX := hide (fb_use HFB.out (show procErrI len t k l s = 2 from by unfold procErrI; rw [if_neg (by rw [h1]; decide), if_pos h2]) (by decide))
                    clear HFB HG h1 h2
                    go_wp2_with fail
                    go_ret
                    exact ⟨ret_int HX.out.symm, hBX⟩
                  · have HP := hide (procErr_state (len := len) (l := l) (S := s) h1 h2)
                    clear h1 h2
                    have HX := hide (fb_use HFB.out (show procErrI len t k l s = 22 from by rw [HP.out, if_pos (by rw [tt, tk]; decide)]) (by decide))
                    clear HFB HG HP
                    go_wp2_with fail
                    go_ret
                    exact ⟨ret_int HX.out.symm, hBX⟩
            · by_cases hk : k = 0
              · skip
                have tt : (t == -1) = false := by simpa using ht
                have tk : (k == 0) = true := by simpa using hk
                have HK := hide hk
                clear ht hk
                go_wp2_with fail
                refine (within_any t (-1) 1 _).mono ?_
                rintro e w' ⟨rfl, rfl⟩
                have hBX := hB.alloc hB.size (.cells #[.int .i64 t, .int .i64 k, .slice Ai l ci] 55)
                cases h1 : withinB t (-1) 1
                · skip
                  have HX := hide (fb_use HFB.out (show procErrI len t k l s = 2 from by unfold procErrI; rw [if_pos h1]) (by decide))
                  clear HFB HG h1
                  go_wp2_with fail
                  go_ret
                  exact ⟨ret_int HX.out.symm, hBX⟩
                · go_wp2_with fail
                  refine (within_any k 0 1000000000 _).mono ?_
                  rintro e w' ⟨rfl, rfl⟩
                  cases h2 : withinB k 0 1000000000
                  · skip
                    have HX := hide (fb_use HFB.out (show procErrI len t k l s = 2 from by unfold procErrI; rw [if_neg (by rw [h1]; decide), if_pos h2]) (by decide))
                    clear HFB HG h1 h2
                    go_wp2_with fail
                    go_ret
                    exact ⟨ret_int HX.out.symm, hBX⟩
                  · have HP := hide (procErr_state (len := len) (l := l) (S := s) h1 h2)
                    clear h1 h2
                    have HX := hide (fb_use HFB.out (show procErrI len t k l s = 22 from by rw [HP.out, if_pos (by rw [tt, tk]; decide)]) (by decide))
                    clear HFB HG HP
                    go_wp2_with fail
                    go_ret
                    exact ⟨ret_int HX.out.symm, hBX⟩
              · skip
                have tt : (t == -1) = false := by simpa using ht
                have tk : (k == 0) = false := by simpa using hk
                have HK := hide hk
                clear ht hk
                go_wp2_with fail
                refine (within_any t (-1) 1 _).mono ?_
                rintro e w' ⟨rfl, rfl⟩
                have hBX := hB.alloc hB.size (.cells #[.int .i64 t, .int .i64 k, .slice Ai l ci] 55)
                cases h1 : withinB t (-1) 1
                · skip
                  have HX := hide (fb_use HFB.out (show procErrI len t k l s = 2 from by unfold procErrI; rw [if_pos h1]) (by decide))
                  clear HFB HG h1
                  go_wp2_with fail
                  go_ret
                  exact ⟨ret_int HX.out.symm, hBX⟩
                · go_wp2_with fail
                  refine (within_any k 0 1000000000 _).mono ?_
                  rintro e w' ⟨rfl, rfl⟩
                  cases h2 : withinB k 0 1000000000
                  · skip
                    have HX := hide (fb_use HFB.out (show procErrI len t k l s = 2 from by unfold procErrI; rw [if_neg (by rw [h1]; decide), if_pos h2]) (by decide))
                    clear HFB HG h1 h2
                    go_wp2_with fail
                    go_ret
                    exact ⟨ret_int HX.out.symm, hBX⟩
                  · have HP := hide (procErr_state (len := len) (l := l) (S := s) h1 h2)
                    clear h1 h2
                    by_cases h4 : (l : Int) = len
                    · have t4 : ((l : Int) != len) = false := by simpa using h4
                      have HQ := hide (show procErrI len t k l s = if sizedB l s 1000000000 = false then 2 else if k = 0 ∧ zeroB l s = false then 22 else 0 from by rw [HP.out, if_neg (by rw [tk, tt]; decide), if_neg (fun h => h h4)])
                      have HSZ := hide (sized_of (S := s) HW.out h4)
                      have hl0 := (withinB_of HW.out).1
                      have hl1 := (withinB_of HW.out).2
                      have HLN := hide h4
                      clear h4 HP
                      go_wp2_with fail
                      refine (HS1.out _ (HIJ.out.alloc _)).mono ?_
                      rintro e w5 ⟨rfl, q5, rfl⟩
                      rw [HSZ.out]
                      have hBX5 := below_drewN hBX q5
                      have bp5 : Box ((wr.alloc (.cells #[.int .i64 t, .int .i64 k, .slice Ai l ci] 55)).drewN q5) wr.heap.size 55 #[.int .i64 t, .int .i64 k, .slice Ai l ci] := Box.made rfl
                      have bx5 := ((bx.alloc (.cells #[.int .i64 t, .int .i64 k, .slice Ai l ci] 55)).drewN q5)
                      have HI5 := hide ((HIJ.out.alloc (.cells #[.int .i64 t, .int .i64 k, .slice Ai l ci] 55)).drewN q5)
                      clear z0 z1 hlz bx hc0 hc1 hc2 hb hBX
                      generalize (wr.alloc (.cells #[.int .i64 t, .int .i64 k, .slice Ai l ci] 55)).drewN q5 = w5 at *
                      obtain ⟨z0, z1, hlz⟩ := bufs_cells bx5
                      obtain ⟨x0, x1, x2, hlx⟩ := proc_cells bp5
                      have hBX := hBX5
                      cases h5 : sizedB l s 1000000000
                      · rw [show (if false = true then (0 : Int) else 2) = 2 from rfl]
                        have HX := hide (fb_use HFB.out (show procErrI len t k l s = 2 from by rw [HQ.out, if_pos h5]) (by decide))
                        clear HFB HG h5
                        go_wp2_with fail
                        go_ret
                        exact ⟨ret_int HX.out.symm, hBX⟩
                      · rw [show (if true = true then (0 : Int) else 2) = 0 from rfl]
                        have HN := hide (show procsErrI len (j + 1) T K L S = 0 from by rw [HG.out, HQ.out, if_neg (by rw [h5]; decide), if_neg (fun h => HK.out h.1)])
                        clear h5 HQ HSZ HFB HG
                        go_wp2_with fail
                        go_quiet (fail)
                        go_wp2_with fail
                        go_roundw
                        case rel => exact ⟨j + 1, by omega, by go_num, HN, bx5.drewN _, below_drewN hBX _⟩
                        case measure => simp [intOf]; omega
                    · have t4 : ((l : Int) != len) = true := by simpa using h4
                      have HX := hide (fb_use HFB.out (show procErrI len t k l s = 10 from by rw [HP.out, if_neg (by rw [tk, tt]; decide), if_pos h4]) (by decide))
                      clear HFB HG h4 HP
                      go_wp2_with fail
                      go_ret
                      exact ⟨ret_int HX.out.symm, hBX⟩
          · obtain rfl : j = n := by omega
            have HQ := hide (HE.out.trans HZ.out)
            go_wp2_with fail
            go_ret
            exact ⟨ret_int HQ.out.symm, hB⟩
end Go.Proofs.Ytnglmfdcnoglhaa
/- Begin, Receive and BuffersErr where all is right. -/
namespace Go.Proofs.Ytnglmfdcnoglhaa
open Go.RowKit Go.Shelf Go.Lib
theorem ProcsAt.only {w w' : World} {lo n g : Nat} {A : Option Addr} {T K : Nat → Int} {L : Nat → Nat} {S : Nat → Nat → Int} (h : ProcsAt w lo A n T K L S) (hg : g < lo) (ho : Only g w w') : ProcsAt w' lo A n T K L S := fun i hi => by
  obtain ⟨b, o, Ai, ci, e, h1, h2, h3, h4, h5, h8⟩ := h i hi
  have hb := ho.block b h2 (fun e => by injection e; omega)
  exact ⟨b, o, Ai, ci, e, h1, Nat.lt_of_lt_of_le h2 ho.size, (World.cell?_of_block (a := ⟨b, _, none⟩) hb).trans h3, (World.cell?_of_block (a := ⟨b, _, none⟩) hb).trans h4, (World.cell?_of_block (a := ⟨b, _, none⟩) hb).trans h5, h8.only hg ho⟩
/-- Buffers that are right, with room for more. -/
structure BufOk (n N : Nat) (T K : Nat → Int) (S : Nat → Nat → Int) : Prop where
  n0 : 0 < n
  n8 : n ≤ 8
  N1 : 1 ≤ N
  N9 : N ≤ 200
  each : ∀ i, i < n → (-1 ≤ T i ∧ T i ≤ 1) ∧ (0 ≤ K i ∧ K i ≤ 1000) ∧ (T i = -1 ↔ K i = 0) ∧ (∀ j, j < N → -900000000 ≤ S i j ∧ S i j ≤ 900000000) ∧ (K i = 0 → ∀ j, j < N → S i j = 0)
theorem BufOk.err {n N : Nat} {T K : Nat → Int} {S : Nat → Nat → Int} (h : BufOk n N T K S) : bufErrI (N : Int) n T K (fun _ => N) S = 0 := by
  have h1 := h.N1
  have h2 := h.N9
  refine bufErr_ok (by omega) h.n0 h.n8 fun i hi => ?_
  obtain ⟨a, b, c, d, e⟩ := h.each i hi
  exact procErr_ok a (by omega) c rfl (fun j hj => by have := d j hj; omega) e
theorem BufOk.begun {n N : Nat} (n0 : 0 < n) (n8 : n ≤ 8) (N1 : 1 ≤ N) (N9 : N ≤ 200) : BufOk n N (fun _ => -1) (fun _ => 0) (fun _ _ => 0) :=
  ⟨n0, n8, N1, N9, fun _ _ => ⟨⟨by decide, by decide⟩, ⟨by decide, by decide⟩, by decide, fun _ _ => ⟨by decide, by decide⟩, fun _ _ _ => rfl⟩⟩
theorem BufOk.next {n N a : Nat} {T K : Nat → Int} {S : Nat → Nat → Int} {t : Int} {G : Nat → Int} (h : BufOk n N T K S) (ht : 0 ≤ t ∧ t ≤ 1) (ha : a < n) (hk : K a < 1000) (hb : ∀ j, j < N → -900000000 ≤ behS T S a t G a j ∧ behS T S a t G a j ≤ 900000000) : BufOk n N (setF T a t) (behK T K a t) (behS T S a t G) := by
  refine ⟨h.n0, h.n8, h.N1, h.N9, fun i hi => ?_⟩
  obtain ⟨x1, x2, x3, x4, x5⟩ := h.each i hi
  by_cases e : i = a
  · subst e
    have e1 : setF T i t i = t := if_pos rfl
    have e2 : behK T K i t i = if t = T i then K i + 1 else 1 := if_pos rfl
    have hk2 : 1 ≤ behK T K i t i ∧ behK T K i t i ≤ 1000 := by rw [e2]; split <;> omega
    rw [e1]
    exact ⟨by omega, by omega, by omega, hb, fun z => by omega⟩
  · have e1 : setF T a t i = T i := if_neg e
    have e2 : behK T K a t i = K i := if_neg e
    have e3 : behS T S a t G i = S i := if_neg e
    rw [e1, e2, e3]
    exact ⟨x1, x2, x3, x4, x5⟩
theorem buffersErrR_ok (n N c : Nat) (A : Option Addr) (T K : Nat → Int) (S : Nat → Nat → Int) (w : World) (ok : BufOk n N T K S) (hI : ProcsAt w 0 A n T K (fun _ => N) S) :
    Calls Try.prog 11 #[.agg #[.int .i64 (N : Int), .slice A n c]] w fun e w' => e = .returned (.int .i64 0) ∧ Below w.heap.size w w' := by
  have h := buffersErrR_any (N : Int) A n c T K (fun _ => N) S w (by have := ok.n8; omega) (fun i _ => by have := ok.N9; omega) hI
  rw [ok.err] at h
  exact h
theorem Begin_ok (N n : Nat) (w : World) (N1 : 1 ≤ N) (N9 : N ≤ 200) (n0 : 0 < n) (n8 : n ≤ 8) : Calls Try.prog 10 #[.int .i64 (N : Int), .int .i64 (n : Int)] w fun r w' =>
    ∃ D c, r = .returned (.tuple #[.agg #[.int .i64 (N : Int), .slice D n c], .int .i64 0]) ∧ ProcsAt w' w.heap.size D n (fun _ => -1) (fun _ => 0) (fun _ => N) (fun _ _ => 0) ∧ Below w.heap.size w w' := by
  have h := Begin_any (N : Int) (n : Int) w
  rw [show beginErrI (N : Int) (n : Int) = 0 from if_pos ⟨withinB_yes (by omega), withinB_yes (by omega)⟩] at h
  simp only [Int.toNat_natCast] at h
  refine h.mono ?_
  rintro r w' ⟨⟨v, rfl, hv⟩, hb⟩
  rcases hv with ⟨h0, -⟩ | ⟨-, D, c, rfl, hP⟩
  · exact absurd rfl h0
  · exact ⟨D, c, rfl, hP, hb⟩
theorem Receive_ok (n N l v a : Nat) (p t : Int) (A D : Option Addr) (c e : Nat) (T K : Nat → Int) (S : Nat → Nat → Int) (Sx : Nat → Int) (w : World) (ok : BufOk n N T K S) (hp : p = (a : Int)) (ha : a < n) (ht : 0 ≤ t ∧ t ≤ 1) (hv : v ≤ 3) (l0 : 0 < l) (l9 : l ≤ 400) (hSx : ∀ j, j < l → -1000000 ≤ Sx j ∧ Sx j ≤ 1000000)
    (hsum : t = T a → ∀ j, j < N → -1000000000 ≤ S a j + gatherF v N Sx l j ∧ S a j + gatherF v N Sx l j ≤ 1000000000) (hI : ProcsAt w 0 A n T K (fun _ => N) S) (hJ : IntsAt w 0 D l Sx) :
    Calls Try.prog 17 #[.agg #[.int .i64 (N : Int), .slice A n c], .agg #[.int .i64 p, .int .i64 t, .int .i64 (v : Int), .slice D l e]] w fun r w' =>
      ∃ D' c', r = .returned (.tuple #[.agg #[.int .i64 (N : Int), .slice D' n c'], .int .i64 0]) ∧ ProcsAt w' w.heap.size D' n (setF T a t) (behK T K a t) (fun _ => N) (behS T S a t (gatherF v N Sx l)) ∧ Below w.heap.size w w' := by
  subst hp
  have n8 := ok.n8
  have N1 := ok.N1
  have N9 := ok.N9
  obtain ⟨x1, x2, x3, x4, x5⟩ := ok.each a ha
  have h := Receive_any (N : Int) (a : Int) t (v : Int) A D n c l e T K (fun _ => N) S Sx w (by omega) (fun i _ => by omega) (by omega) hI hJ
  have hz : recvErrI (N : Int) n T K (fun _ => N) S (a : Int) t (v : Int) l Sx = 0 := by
    unfold recvErrI
    rw [ok.err, recepErr_ok (by omega) ht (by omega) l0 l9 hSx]
    rw [if_pos (show firstE [0, 0] = 0 from rfl)]
    unfold behErrI
    simp only [Int.toNat_natCast]
    by_cases hta : t = T a
    · rw [if_pos hta]
      unfold addErrI
      rw [if_pos ⟨sizedB_iff.2 (hsum hta), by omega⟩]
    · rw [if_neg hta]
  rw [hz] at h
  simp only [Int.toNat_natCast] at h
  refine h.mono ?_
  rintro r w' ⟨⟨v', rfl, hv'⟩, hb⟩
  rcases hv' with ⟨h0, -⟩ | ⟨-, D', c', rfl, hP⟩
  · exact absurd rfl h0
  · exact ⟨D', c', rfl, hP, hb⟩
end Go.Proofs.Ytnglmfdcnoglhaa
