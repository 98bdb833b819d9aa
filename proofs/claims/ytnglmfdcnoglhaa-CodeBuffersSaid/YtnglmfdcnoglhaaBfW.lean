/- Lemmas: Pi, Po, Pv, Pu, Pw. -/
import Derived.Deep.DeepCutAuto
import Derived.Test.YtnglmfdcnoglhaaBk01
import Derived.Test.YtnglmfdcnoglhaaBk04
import Derived.Test.YtnglmfdcnoglhaaBk05
import Derived.Test.YtnglmfdcnoglhaaBk06
import Derived.Test.YtnglmfdcnoglhaaBk07
import Derived.Test.YtnglmfdcnoglhaaBk14
import Derived.Test.YtnglmfdcnoglhaaBk15
import Derived.Test.YtnglmfdcnoglhaaBk16
set_option linter.unusedVariables false
set_option linter.unusedSimpArgs false
/- Begin of the reference: empty buffers. -/
namespace Go.Proofs.Ytnglmfdcnoglhaa
open Go.RowKit Go.Shelf Go.Lib
set_option maxHeartbeats 2000000 in
set_option maxRecDepth 100000 in
theorem BeginR_any (len cnt : Int) (w : World) : Calls Try.prog 27 #[.int .i64 len, .int .i64 cnt] w fun r w' => GaveBufs (beginErrI len cnt) len cnt.toNat (fun _ => -1) (fun _ => 0) (fun _ => len.toNat) (fun _ _ => 0) w r w' := by
  by_cases hE : withinB len 1 200 = true ∧ withinB cnt 1 8 = true
  · have HZ := hide (show beginErrI len cnt = 0 from if_pos hE)
    obtain ⟨l1, l2⟩ := withinB_of hE.1
    obtain ⟨c1, c2⟩ := withinB_of hE.2
    obtain ⟨q, rfl⟩ := Int.eq_ofNat_of_zero_le (show 0 ≤ len by omega)
    obtain ⟨n, rfl⟩ := Int.eq_ofNat_of_zero_le (show 0 ≤ cnt by omega)
    have q1 : 1 ≤ q := by omega
    have q9 : q ≤ 200 := by omega
    have n1 : 1 ≤ n := by omega
    have n9 : n ≤ 8 := by omega
    have HL := hide (fun W => lengthErrR_any (q : Int) W)
    rw [hE.1, show unI true 2 = 0 from rfl] at HL
    have HW := hide (fun W => within_any (n : Int) 1 8 W)
    rw [hE.2] at HW
    clear hE l1 l2 c1 c2
    go_enter Try.func27, Try.ntmps27
    go_wp2_with fail
    refine (HL.out _).mono ?_
    rintro e w' ⟨rfl, rfl⟩
    go_wp2_with fail
    refine (HW.out _).mono ?_
    rintro e w' ⟨rfl, rfl⟩
    have br3 : Box (w.alloc (.cells #[.int .i64 0, .slice none 0 0] 36)) w.heap.size 36 #[.int .i64 0, .slice none 0 0] := Box.made rfl
    have hB3 : Below w.heap.size w (w.alloc (.cells #[.int .i64 0, .slice none 0 0] 36)) := (Below.refl _ _).alloc (Nat.le_refl _) _
    have hs3 := hide (show (w.alloc (.cells #[.int .i64 0, .slice none 0 0] 36)).heap.size = w.heap.size + 1 from by simp)
    generalize w.alloc (.cells #[.int .i64 0, .slice none 0 0] 36) = w3 at *
    go_wp2_with fail
    obtain ⟨i0, hi, hm0, hm1, hm2⟩ := info_parts intInfo
    have hmk := fun W => run_make_row (P := Try.prog) 24 3 i0 (.int .i64 0) Try.underlying24 hi hm0 hm1 rfl .i64 .i64 q (by rw [hm2]; omega) (by omega) W
    clear hi hm0 hm1 hm2
    go_loopw [7] (fun i wr => ∃ j : Nat, j ≤ n ∧ i = .int .i64 j ∧ Hid (BegI w (w3.heap.size + 1) w3.heap.size q j wr)) (fun i _ => n - (intOf i).toNat)
    case atStart => exact ⟨0, Nat.zero_le _, rfl, hide ⟨⟨_, _, (Box.made rfl : Box _ w3.heap.size 36 #[.int .i64 (q : Int), .slice none 0 0]).at_ 1, Box.made rfl, fun _ => none, fun _ => 0, OwnProcs.nil_⟩, hB3.alloc hB3.size _, br3.alloc _, by simp⟩⟩
    case round =>
      obtain ⟨j, hj, rfl, HG⟩ := hrel
      obtain ⟨⟨D, c, hd1, bb, A, C, hown⟩, hB, br, hbs⟩ := HG.out
      obtain ⟨z0, z1, hlz⟩ := bufs_cells bb
      by_cases hlt : j < n
      · have hltz : (j : Int) < (n : Int) := by omega
        have HO := hide (fun W' (h : Below wr.heap.size wr W') => hown.below h)
        have HI := hide (IntsAt.made_zero wr (w3.heap.size + 1) q hbs)
        have HA := hide (fun X b o (e : (some ⟨wr.heap.size, 0, none⟩ : Option Addr) = some ⟨b, o, none⟩) => (by
          injection e with e; injection e with e e'
          subst e
          exact ⟨fun h => by have := (hown.lt h).2; omega, by simp; omega⟩ : (Value.slice D j c).ownBlock ≠ some b ∧ b < ((wr.drew.alloc (.cells (madeCells #[.int .i64 0] q) 3)).alloc X).heap.size))
        have HZ1 := hide (fun W W' (h : Below wr.heap.size wr W) (h' : Below (w3.heap.size + 1) W W') => (⟨((bb.below h).kept h' (Nat.lt_succ_self _)).at_ 1, ((bb.below h).kept h' (Nat.lt_succ_self _)).free 1⟩ : W'.cell? ⟨w3.heap.size, 1, none⟩ = some (.slice D j c) ∧ W'.frozen? ⟨w3.heap.size, 1, none⟩ = false))
        clear hown bb br hB hd1
        go_wp2_with fail
        go_region_law (first | (refine step_append_proc1 _ rfl (.tmp 25) (.tmp 29) rfl (w3.heap.size + 1) (w3.heap.size + 1) (.slice D j c) j (fun _ => -1) (fun _ => 0) (fun _ => q) A C (fun _ _ => 0) (by first | rfl | simp [Act.eval, Act.put]) (HO.out _ (by (repeat (first | (with_reducible exact Below.refl _ _) | (with_reducible refine below_drewN ?_ _) | (with_reducible refine Below.drew ?_) | (with_reducible refine Below.alloc ?_ (by first | exact Nat.le_refl _ | (simp; done) | (simp; omega) | omega) _) | (with_reducible refine Below.setCell ?_ (by first | exact Nat.le_refl _ | (simp; done) | (simp; omega) | omega) _))))) _ (-1) 0 (some ⟨wr.heap.size, 0, none⟩) q q (fun _ => 0) (by first | rfl | simp [Act.eval, Act.put]) (Box.made (by simp)) (HI.out _) (HA.out _) (by omega) (by simp; omega) ?_; intro v' w' h1 hb2; obtain ⟨D', c', rfl, -, -, -⟩ := h1.form (Nat.le_refl _); have HN := hide (HG.out.step (by (repeat (first | (with_reducible exact Below.refl _ _) | (with_reducible refine below_drewN ?_ _) | (with_reducible refine Below.drew ?_) | (with_reducible refine Below.alloc ?_ (by first | exact Nat.le_refl _ | (simp; done) | (simp; omega) | omega) _) | (with_reducible refine Below.setCell ?_ (by first | exact Nat.le_refl _ | (simp; done) | (simp; omega) | omega) _)))) (Nat.lt_succ_self _) q1 (by have := hs3.out; omega) h1 hb2); obtain ⟨z1', f1'⟩ := HZ1.out _ _ (by (repeat (first | (with_reducible exact Below.refl _ _) | (with_reducible refine below_drewN ?_ _) | (with_reducible refine Below.drew ?_) | (with_reducible refine Below.alloc ?_ (by first | exact Nat.le_refl _ | (simp; done) | (simp; omega) | omega) _) | (with_reducible refine Below.setCell ?_ (by first | exact Nat.le_refl _ | (simp; done) | (simp; omega) | omega) _)))) hb2))
        all_goals
          go_wp2_with fail
          go_roundw
          case rel => exact ⟨j + 1, by omega, by go_num, HN⟩
          case measure => simp [intOf]; omega
      · obtain rfl : j = n := by omega
        have fr0 := br.free 0
        have fr1 := br.free 1
        obtain ⟨r0, r1, hlr⟩ := bufs_cells br
        have HR := hide br
        have hw3 := hs3.out
        have HOW := hide (((hown.other (k := w.heap.size) 0 (.int .i64 (q : Int)) (fun e => by have := (hown.lt e).1; omega) (fun i hi b o e => by have hI := (hown.2 i hi).1; rw [e] at hI; have := (hI.block q1).1; omega)).other (k := w.heap.size) 1 (.slice D j c) (fun e => by have := (hown.lt e).1; omega) (fun i hi b o e => by have hI := (hown.2 i hi).1; rw [e] at hI; have := (hI.block q1).1; omega)))
        have HB := hide hB
        clear hown hB hd1 bb br hw3
        go_wp2_with fail
        refine bodyPost_ret (v := .tuple #[.agg #[.int .i64 (q : Int), .slice D j c], .int .i64 0]) ?_ rfl ?_
        · have hz := (HR.out.set_ 0 (.int .i64 (q : Int))).set_ 1 (.slice D j c)
          have z0 := hz.at_ 0
          have z1 := hz.at_ 1
          simp at z0 z1
          simp [results, Try.results27, go_sem, z0, z1]
        · rw [HZ.out]
          simp only [Int.toNat_natCast]
          obtain ⟨D1, c1, e1, -, -, hP⟩ := HOW.out.form (Nat.le_refl _)
          injection e1 with e1 e2 e3
          subst e1
          exact ⟨⟨_, rfl, .inr ⟨rfl, D, c, rfl, hP.at_.weak (by have := hs3.out; omega)⟩⟩, (HB.out.setCell (by simp) _).setCell (by simp) _⟩
  · have HZ := hide (show beginErrI len cnt = 2 from if_neg hE)
    have HK : withinB len 1 200 = false ∨ (withinB len 1 200 = true ∧ withinB cnt 1 8 = false) := by
      cases h1 : withinB len 1 200
      · exact .inl rfl
      · cases h2 : withinB cnt 1 8
        · exact .inr ⟨rfl, rfl⟩
        · exact absurd ⟨h1, h2⟩ hE
    clear hE
    have br3 : Box (w.alloc (.cells #[.int .i64 0, .slice none 0 0] 36)) w.heap.size 36 #[.int .i64 0, .slice none 0 0] := Box.made rfl
    have HBR := hide br3
    clear br3
    rcases HK with h1 | ⟨h1, h2⟩
    · have HL := hide (fun W => lengthErrR_any len W)
      rw [h1, show unI false 2 = 2 from rfl] at HL
      clear h1
      go_enter Try.func27, Try.ntmps27
      go_wp2_with fail
      refine (HL.out _).mono ?_
      rintro e w' ⟨rfl, rfl⟩
      go_wp2_with fail
      refine bodyPost_ret (v := .tuple #[.agg #[.int .i64 0, .slice none 0 0], .int .i64 2]) ?_ rfl ?_
      · have hz := (HBR.out.set_ 0 (.int .i64 0)).set_ 1 (.slice none 0 0)
        have z0 := hz.at_ 0
        have z1 := hz.at_ 1
        simp at z0 z1
        simp [results, Try.results27, go_sem, z0, z1]
      · rw [HZ.out]
        exact ⟨⟨_, rfl, .inl ⟨by decide, rfl⟩⟩, (Below.refl _ _).alloc (Nat.le_refl _) _⟩
    · have HL := hide (fun W => lengthErrR_any len W)
      rw [h1, show unI true 2 = 0 from rfl] at HL
      have HW := hide (fun W => within_any cnt 1 8 W)
      rw [h2] at HW
      clear h1 h2
      go_enter Try.func27, Try.ntmps27
      go_wp2_with fail
      refine (HL.out _).mono ?_
      rintro e w' ⟨rfl, rfl⟩
      go_wp2_with fail
      refine (HW.out _).mono ?_
      rintro e w' ⟨rfl, rfl⟩
      go_wp2_with fail
      refine bodyPost_ret (v := .tuple #[.agg #[.int .i64 0, .slice none 0 0], .int .i64 2]) ?_ rfl ?_
      · have hz := (HBR.out.set_ 0 (.int .i64 0)).set_ 1 (.slice none 0 0)
        have z0 := hz.at_ 0
        have z1 := hz.at_ 1
        simp at z0 z1
        simp [results, Try.results27, go_sem, z0, z1]
      · rw [HZ.out]
        exact ⟨⟨_, rfl, .inl ⟨by decide, rfl⟩⟩, (Below.refl _ _).alloc (Nat.le_refl _) _⟩
end Go.Proofs.Ytnglmfdcnoglhaa
/- Same of the reference: two lists of buffers with the same numbers. -/
namespace Go.Proofs.Ytnglmfdcnoglhaa
open Go.RowKit Go.Shelf
set_option maxHeartbeats 4000000 in
set_option maxRecDepth 100000 in
theorem Same_ok (len : Int) (D1 D2 : Option Addr) (n c c2 : Nat) (T K : Nat → Int) (L : Nat → Nat) (S : Nat → Nat → Int) (w : World) (hn : n ≤ 9223372036854775807) (hL : ∀ i, i < n → L i ≤ 100000) (h1 : ProcsAt w 0 D1 n T K L S) (h2 : ProcsAt w 0 D2 n T K L S) :
    Calls Try.prog 28 #[.agg #[.int .i64 len, .slice D1 n c], .agg #[.int .i64 len, .slice D2 n c2]] w fun r w' => r = .returned (.bool true) ∧ Below w.heap.size w w' := by
  have H1 := hide h1
  have H2 := hide h2
  have HL := hide hL
  have tl : (len != len) = false := by simp
  have tn : ((n : Int) != (n : Int)) = false := by simp
  clear h1 h2 hL
  go_enter Try.func28, Try.ntmps28
  go_wp2_with fail
  clear tl tn
  go_loopw [5, 6, 7] (fun i _ _ wr => ∃ j : Nat, j ≤ n ∧ i = .int .i64 j ∧ Box wr w.heap.size 36 #[.int .i64 len, .slice D1 n c] ∧ Box wr (w.heap.size + 1) 36 #[.int .i64 len, .slice D2 n c2] ∧ Below w.heap.size w wr) (fun i _ _ _ => n - (intOf i).toNat)
  case atStart => exact ⟨0, Nat.zero_le _, rfl, (Box.made rfl).alloc _, Box.made (by simp), by (repeat (first | (with_reducible exact Below.refl _ _) | (with_reducible refine below_drewN ?_ _) | (with_reducible refine Below.drew ?_) | (with_reducible refine Below.alloc ?_ (by first | exact Nat.le_refl _ | (simp; done) | (simp; omega) | omega) _) | (with_reducible refine Below.setCell ?_ (by first | exact Nat.le_refl _ | (simp; done) | (simp; omega) | omega) _)))⟩
  case round =>
    obtain ⟨j, hj, rfl, bxa, bxb, hB⟩ := hrel
    obtain ⟨a0, a1, hla⟩ := bufs_cells bxa
    by_cases hlt : j < n
    · have hltz : (j : Int) < (n : Int) := by omega
      obtain ⟨ba, oa, Aa, ca, rfl, -, hla2, ha0, ha1, ha2, hIa⟩ := (H1.out.below hB) j hlt
      obtain ⟨bb, ob, Ab, cb, rfl, -, hlb2, hb0, hb1, hb2, hIb⟩ := (H2.out.below hB) j hlt
      have hl9 := HL.out j hlt
      have HIA := hide hIa
      have HIB := hide hIb
      have HB := hide hB
      clear hIa hIb hB
      go_wp2_with fail
      obtain ⟨b0, b1, hlb⟩ := bufs_cells bxb
      have SOF := hide (fun W' (h : Below wr.heap.size wr W') => (⟨(h.cell (p := ⟨w.heap.size, 1, none⟩) hla).trans a1, (h.cell (p := ⟨ba, oa + j * 3, none⟩) hla2).trans ha0, (h.cell (p := ⟨ba, oa + j * 3 + 1, none⟩) hla2).trans ha1, (h.cell (p := ⟨ba, oa + j * 3 + 2, none⟩) hla2).trans ha2, (h.cell (p := ⟨w.heap.size + 1, 1, none⟩) hlb).trans b1, (h.cell (p := ⟨bb, ob + j * 3, none⟩) hlb2).trans hb0, (h.cell (p := ⟨bb, ob + j * 3 + 1, none⟩) hlb2).trans hb1, (h.cell (p := ⟨bb, ob + j * 3 + 2, none⟩) hlb2).trans hb2, h⟩ : (W'.cell? ⟨w.heap.size, 1, none⟩ = some (.slice (some ⟨ba, oa, none⟩) n c) ∧ W'.cell? ⟨ba, oa + j * 3, none⟩ = some (.int .i64 (T j)) ∧ W'.cell? ⟨ba, oa + j * 3 + 1, none⟩ = some (.int .i64 (K j)) ∧ W'.cell? ⟨ba, oa + j * 3 + 2, none⟩ = some (.slice Aa (L j) ca) ∧ W'.cell? ⟨w.heap.size + 1, 1, none⟩ = some (.slice (some ⟨bb, ob, none⟩) n c2) ∧ W'.cell? ⟨bb, ob + j * 3, none⟩ = some (.int .i64 (T j)) ∧ W'.cell? ⟨bb, ob + j * 3 + 1, none⟩ = some (.int .i64 (K j)) ∧ W'.cell? ⟨bb, ob + j * 3 + 2, none⟩ = some (.slice Ab (L j) cb) ∧ Below wr.heap.size wr W')))
      have bd0 : Below wr.heap.size wr wr.drew := (Below.refl _ _).drew
      have hXA := hide bxa
      have hXB := hide bxb
      clear a0 a1 b0 b1 ha0 ha1 ha2 hb0 hb1 hb2 bxa bxb
      go_cut [6, 7] (fun s6 s7 wc => ∃ gx gy, s6 = .pointer (some ⟨gx, 0, none⟩) ∧ s7 = .pointer (some ⟨gy, 0, none⟩) ∧ Hid (Box wc gx 55 #[.int .i64 (T j), .int .i64 (K j), .slice Aa (L j) ca]) ∧ Hid (Box wc gy 55 #[.int .i64 (T j), .int .i64 (K j), .slice Ab (L j) cb]) ∧ Below wr.heap.size wr wc)
      case first =>
        refine wp_region_held_drew (S := fun w' => (w'.cell? ⟨w.heap.size, 1, none⟩ = some (.slice (some ⟨ba, oa, none⟩) n c) ∧ w'.cell? ⟨ba, oa + j * 3, none⟩ = some (.int .i64 (T j)) ∧ w'.cell? ⟨ba, oa + j * 3 + 1, none⟩ = some (.int .i64 (K j)) ∧ w'.cell? ⟨ba, oa + j * 3 + 2, none⟩ = some (.slice Aa (L j) ca) ∧ w'.cell? ⟨w.heap.size + 1, 1, none⟩ = some (.slice (some ⟨bb, ob, none⟩) n c2) ∧ w'.cell? ⟨bb, ob + j * 3, none⟩ = some (.int .i64 (T j)) ∧ w'.cell? ⟨bb, ob + j * 3 + 1, none⟩ = some (.int .i64 (K j)) ∧ w'.cell? ⟨bb, ob + j * 3 + 2, none⟩ = some (.slice Ab (L j) cb) ∧ Below wr.heap.size wr w')) (by kernel_rfl) (SOF.out _ bd0) (fun hHeld => ?_)
        refine wpAnyH_take (i := 0) (oi := ⟨some 29, _, _, _, _, _⟩) (v := ?_) rfl (by kernel_rfl) (by kernel_rfl) (by kernel_rfl) (fun _ _ _ h => h) (Or.inl ⟨by rfl, ?_⟩) (by assumption) ?_
        rotate_left
        · (intro w' hSw; (try dsimp only at hSw); go_simp <;> (with_reducible rfl))
        try simp only [Act.put, List.setIfInBounds_toArray, List.set_cons_zero, List.set_cons_succ]
        refine wpAnyH_take (i := 1) (oi := ⟨some 30, _, _, _, _, _⟩) (v := ?_) rfl (by kernel_rfl) (by kernel_rfl) (by kernel_rfl) (fun _ _ _ h => h) (Or.inl ⟨by rfl, ?_⟩) (by assumption) ?_
        rotate_left
        · (intro w' hSw; (try dsimp only at hSw); go_simp <;> (with_reducible rfl))
        try simp only [Act.put, List.setIfInBounds_toArray, List.set_cons_zero, List.set_cons_succ]
        refine wpAnyH_take (i := 2) (oi := ⟨some 31, _, _, _, _, _⟩) (v := ?_) rfl (by kernel_rfl) (by kernel_rfl) (by kernel_rfl) (fun _ _ _ h => h) (Or.inl ⟨by rfl, ?_⟩) (by assumption) ?_
        rotate_left
        · (intro w' hSw; (try dsimp only at hSw); go_simp <;> (with_reducible rfl))
        try simp only [Act.put, List.setIfInBounds_toArray, List.set_cons_zero, List.set_cons_succ]
        refine wpAnyH_take (i := 3) (oi := ⟨some 32, _, _, _, _, _⟩) (v := ?_) rfl (by kernel_rfl) (by kernel_rfl) (by kernel_rfl) (fun _ _ _ h => h) (Or.inl ⟨by rfl, ?_⟩) (by assumption) ?_
        rotate_left
        · (intro w' hSw; (try dsimp only at hSw); go_simp <;> (with_reducible rfl))
        try simp only [Act.put, List.setIfInBounds_toArray, List.set_cons_zero, List.set_cons_succ]
        refine wpAnyH_take (i := 4) (oi := ⟨some 33, _, _, _, _, _⟩) (v := ?_) rfl (by kernel_rfl) (by kernel_rfl) (by kernel_rfl) (fun _ _ _ h => h) (Or.inl ⟨by rfl, ?_⟩) (by assumption) ?_
        rotate_left
        · (intro w' hSw; (try dsimp only at hSw); go_simp <;> (with_reducible rfl))
        try simp only [Act.put, List.setIfInBounds_toArray, List.set_cons_zero, List.set_cons_succ]
        refine wpAnyH_take (i := 5) (oi := ⟨some 34, _, _, _, _, _⟩) (v := ?_) rfl (by kernel_rfl) (by kernel_rfl) (by kernel_rfl) (fun _ _ _ h => h) (Or.inl ⟨by rfl, ?_⟩) (by assumption) ?_
        rotate_left
        · (intro w' hSw; (try dsimp only at hSw); go_simp <;> (with_reducible rfl))
        try simp only [Act.put, List.setIfInBounds_toArray, List.set_cons_zero, List.set_cons_succ]
        refine wpAnyH_take (i := 6) (oi := ⟨some 35, _, _, _, _, _⟩) (v := ?_) rfl (by kernel_rfl) (by kernel_rfl) (by kernel_rfl) (fun _ _ _ h => h) (Or.inl ⟨by rfl, ?_⟩) (by assumption) ?_
        rotate_left
        · (intro w' hSw; (try dsimp only at hSw); go_simp <;> (with_reducible rfl))
        try simp only [Act.put, List.setIfInBounds_toArray, List.set_cons_zero, List.set_cons_succ]
        refine wpAnyH_take (i := 7) (oi := ⟨some 36, _, _, _, _, _⟩) (v := ?_) rfl (by kernel_rfl) (by kernel_rfl) (by kernel_rfl) (fun _ _ _ h => h) (Or.inl ⟨by rfl, ?_⟩) (by assumption) ?_
        rotate_left
        · (intro w' hSw; (try dsimp only at hSw); go_simp <;> (with_reducible rfl))
        try simp only [Act.put, List.setIfInBounds_toArray, List.set_cons_zero, List.set_cons_succ]
        refine wpAnyH_take (i := 8) (oi := ⟨some 37, _, _, _, _, _⟩) (v := ?_) rfl (by kernel_rfl) (by kernel_rfl) (by kernel_rfl) (fun _ _ _ h => h) (Or.inl ⟨by rfl, ?_⟩) (by assumption) ?_
        rotate_left
        · (intro w' hSw; (try dsimp only at hSw); go_simp <;> (with_reducible rfl))
        try simp only [Act.put, List.setIfInBounds_toArray, List.set_cons_zero, List.set_cons_succ]
        refine wpAnyH_take (i := 9) (oi := ⟨some 38, _, _, _, _, _⟩) (v := ?_) rfl (by kernel_rfl) (by kernel_rfl) (by kernel_rfl) (fun _ _ _ h => h) (Or.inl ⟨by rfl, ?_⟩) (by assumption) ?_
        rotate_left
        · (intro w' hSw; (try dsimp only at hSw); go_simp <;> (with_reducible rfl))
        try simp only [Act.put, List.setIfInBounds_toArray, List.set_cons_zero, List.set_cons_succ]
        refine wpAnyH_ready (rs := [10, 11]) (by kernel_rfl) (by simp) ?_
        refine AllReadyH.cons (o := ⟨some 6, _, _, _, _, _⟩) rfl (fun K' hK => ?_) (AllReadyH.cons (o := ⟨some 7, _, _, _, _, _⟩) rfl (fun K' hK => ?_) AllReadyH.nil)
        · skip
          go_simp
          refine hK.out _ _ (SOF.out _ (by (repeat (first | (with_reducible exact Below.refl _ _) | (with_reducible refine below_drewN ?_ _) | (with_reducible refine Below.drew ?_) | (with_reducible refine Below.alloc ?_ (by first | exact Nat.le_refl _ | (simp; done) | (simp; omega) | omega) _) | (with_reducible refine Below.setCell ?_ (by first | exact Nat.le_refl _ | (simp; done) | (simp; omega) | omega) _))))) (fun hHeld => ?_)
          clear hK K'
          try simp only [Act.put, List.setIfInBounds_toArray, List.set_cons_zero, List.set_cons_succ]
          refine wpAnyH_ready (rs := [11]) (by kernel_rfl) (by simp) ?_
          refine AllReadyH.cons (o := ⟨some 7, _, _, _, _, _⟩) rfl (fun K' hK => ?_) AllReadyH.nil
          go_simp
          refine hK.out _ _ (SOF.out _ (by (repeat (first | (with_reducible exact Below.refl _ _) | (with_reducible refine below_drewN ?_ _) | (with_reducible refine Below.drew ?_) | (with_reducible refine Below.alloc ?_ (by first | exact Nat.le_refl _ | (simp; done) | (simp; omega) | omega) _) | (with_reducible refine Below.setCell ?_ (by first | exact Nat.le_refl _ | (simp; done) | (simp; omega) | omega) _))))) (fun hHeld => ?_)
          clear hK K'
          try simp only [Act.put, List.setIfInBounds_toArray, List.set_cons_zero, List.set_cons_succ]
          obtain ⟨w1, hw1⟩ : ∃ x : World, x = ((wr.alloc (.cells #[.int .i64 0, .int .i64 0, .slice none 0 0] 55)).alloc (.cells #[.int .i64 0, .int .i64 0, .slice none 0 0] 55)).drew := ⟨_, rfl⟩
          rw [← hw1] at hHeld ⊢
          have bz1 : Box w1 wr.heap.size 55 #[.int .i64 0, .int .i64 0, .slice none 0 0] := by rw [hw1]; exact (Box.made rfl).alloc _
          have bz2 : Box w1 (wr.heap.size + 1) 55 #[.int .i64 0, .int .i64 0, .slice none 0 0] := by rw [hw1]; exact Box.made (by simp)
          have hb01 : Below wr.heap.size wr w1 := by rw [hw1]; (repeat (first | (with_reducible exact Below.refl _ _) | (with_reducible refine below_drewN ?_ _) | (with_reducible refine Below.drew ?_) | (with_reducible refine Below.alloc ?_ (by first | exact Nat.le_refl _ | (simp; done) | (simp; omega) | omega) _) | (with_reducible refine Below.setCell ?_ (by first | exact Nat.le_refl _ | (simp; done) | (simp; omega) | omega) _)))
          clear hw1
          obtain ⟨p0, p1, p2, hlp⟩ := proc_cells bz1
          obtain ⟨q0, q1, q2, hlq⟩ := proc_cells bz2
          have fp0 := bz1.free 0
          have fp1 := bz1.free 1
          have fp2 := bz1.free 2
          have fq0 := bz2.free 0
          have fq1 := bz2.free 1
          have fq2 := bz2.free 2
          refine wpAnyH_ready (rs := [12]) (by kernel_rfl) (by simp) ?_
          refine AllReadyH.cons (o := ⟨none, _, _, _, _, _⟩) rfl (fun K' hK => ?_) AllReadyH.nil
          go_simp
          refine hK.out _ _ (SOF.out _ (((hb01.setCell (p := ⟨wr.heap.size, 0, none⟩) (by simp) _).setCell (p := ⟨wr.heap.size, 1, none⟩) (by simp) _).setCell (p := ⟨wr.heap.size, 2, none⟩) (by simp) _)) (fun hHeld => ?_)
          clear hK K'
          have bx2 : Box (((w1.setCell ⟨wr.heap.size, 0, none⟩ (.int .i64 (T j))).setCell ⟨wr.heap.size, 1, none⟩ (.int .i64 (K j))).setCell ⟨wr.heap.size, 2, none⟩ (.slice Aa (L j) ca)) (wr.heap.size) 55 #[.int .i64 (T j), .int .i64 (K j), .slice Aa (L j) ca] := ((bz1.set_ 0 _).set_ 1 _).set_ 2 _
          have by2 : Box (((w1.setCell ⟨wr.heap.size, 0, none⟩ (.int .i64 (T j))).setCell ⟨wr.heap.size, 1, none⟩ (.int .i64 (K j))).setCell ⟨wr.heap.size, 2, none⟩ (.slice Aa (L j) ca)) (wr.heap.size + 1) 55 #[.int .i64 0, .int .i64 0, .slice none 0 0] := (((bz2.other (p := ⟨wr.heap.size, 0, none⟩) (by simp) _).other (p := ⟨wr.heap.size, 1, none⟩) (by simp) _).other (p := ⟨wr.heap.size, 2, none⟩) (by simp) _)
          have hb02 : Below wr.heap.size wr (((w1.setCell ⟨wr.heap.size, 0, none⟩ (.int .i64 (T j))).setCell ⟨wr.heap.size, 1, none⟩ (.int .i64 (K j))).setCell ⟨wr.heap.size, 2, none⟩ (.slice Aa (L j) ca)) := (((hb01.setCell (p := ⟨wr.heap.size, 0, none⟩) (by simp) _).setCell (p := ⟨wr.heap.size, 1, none⟩) (by simp) _).setCell (p := ⟨wr.heap.size, 2, none⟩) (by simp) _)
          clear p0 p1 p2 hlp q0 q1 q2 hlq fp0 fp1 fp2 fq0 fq1 fq2 bz1 bz2 hb01
          generalize (((w1.setCell ⟨wr.heap.size, 0, none⟩ (.int .i64 (T j))).setCell ⟨wr.heap.size, 1, none⟩ (.int .i64 (K j))).setCell ⟨wr.heap.size, 2, none⟩ (.slice Aa (L j) ca)) = w3 at *
          obtain ⟨q0, q1, q2, hlq⟩ := proc_cells by2
          have fq0 := by2.free 0
          have fq1 := by2.free 1
          have fq2 := by2.free 2
          try simp only [Act.put, List.setIfInBounds_toArray, List.set_cons_zero, List.set_cons_succ]
          refine wpAnyH_ready (rs := [13]) (by kernel_rfl) (by simp) ?_
          refine AllReadyH.cons (o := ⟨none, _, _, _, _, _⟩) rfl (fun K' hK => ?_) AllReadyH.nil
          go_simp
          refine hK.out _ _ (SOF.out _ (((hb02.setCell (p := ⟨wr.heap.size + 1, 0, none⟩) (by simp) _).setCell (p := ⟨wr.heap.size + 1, 1, none⟩) (by simp) _).setCell (p := ⟨wr.heap.size + 1, 2, none⟩) (by simp) _)) (fun hHeld => ?_)
          clear hK K'
          try simp only [Act.put, List.setIfInBounds_toArray, List.set_cons_zero, List.set_cons_succ]
          have HX3 := hide ((((bx2.other (p := ⟨wr.heap.size + 1, 0, none⟩) (by simp) _).other (p := ⟨wr.heap.size + 1, 1, none⟩) (by simp) _).other (p := ⟨wr.heap.size + 1, 2, none⟩) (by simp) _) : Box (((w3.setCell ⟨wr.heap.size + 1, 0, none⟩ (.int .i64 (T j))).setCell ⟨wr.heap.size + 1, 1, none⟩ (.int .i64 (K j))).setCell ⟨wr.heap.size + 1, 2, none⟩ (.slice Ab (L j) cb)) (wr.heap.size) 55 #[.int .i64 (T j), .int .i64 (K j), .slice Aa (L j) ca])
          have HY3 := hide (((by2.set_ 0 (.int .i64 (T j))).set_ 1 (.int .i64 (K j))).set_ 2 (.slice Ab (L j) cb))
          refine wpAnyH_done (by kernel_rfl) ?_ _
          go_wp2_with fail
          go_meet
          case rel => exact ⟨_, _, rfl, rfl, HX3, HY3, (((hb02.setCell (p := ⟨wr.heap.size + 1, 0, none⟩) (by simp) _).setCell (p := ⟨wr.heap.size + 1, 1, none⟩) (by simp) _).setCell (p := ⟨wr.heap.size + 1, 2, none⟩) (by simp) _)⟩
        · skip
          go_simp
          refine hK.out _ _ (SOF.out _ (by (repeat (first | (with_reducible exact Below.refl _ _) | (with_reducible refine below_drewN ?_ _) | (with_reducible refine Below.drew ?_) | (with_reducible refine Below.alloc ?_ (by first | exact Nat.le_refl _ | (simp; done) | (simp; omega) | omega) _) | (with_reducible refine Below.setCell ?_ (by first | exact Nat.le_refl _ | (simp; done) | (simp; omega) | omega) _))))) (fun hHeld => ?_)
          clear hK K'
          try simp only [Act.put, List.setIfInBounds_toArray, List.set_cons_zero, List.set_cons_succ]
          refine wpAnyH_ready (rs := [10]) (by kernel_rfl) (by simp) ?_
          refine AllReadyH.cons (o := ⟨some 6, _, _, _, _, _⟩) rfl (fun K' hK => ?_) AllReadyH.nil
          go_simp
          refine hK.out _ _ (SOF.out _ (by (repeat (first | (with_reducible exact Below.refl _ _) | (with_reducible refine below_drewN ?_ _) | (with_reducible refine Below.drew ?_) | (with_reducible refine Below.alloc ?_ (by first | exact Nat.le_refl _ | (simp; done) | (simp; omega) | omega) _) | (with_reducible refine Below.setCell ?_ (by first | exact Nat.le_refl _ | (simp; done) | (simp; omega) | omega) _))))) (fun hHeld => ?_)
          clear hK K'
          try simp only [Act.put, List.setIfInBounds_toArray, List.set_cons_zero, List.set_cons_succ]
          obtain ⟨w1, hw1⟩ : ∃ x : World, x = ((wr.alloc (.cells #[.int .i64 0, .int .i64 0, .slice none 0 0] 55)).alloc (.cells #[.int .i64 0, .int .i64 0, .slice none 0 0] 55)).drew := ⟨_, rfl⟩
          rw [← hw1] at hHeld ⊢
          have bz1 : Box w1 wr.heap.size 55 #[.int .i64 0, .int .i64 0, .slice none 0 0] := by rw [hw1]; exact (Box.made rfl).alloc _
          have bz2 : Box w1 (wr.heap.size + 1) 55 #[.int .i64 0, .int .i64 0, .slice none 0 0] := by rw [hw1]; exact Box.made (by simp)
          have hb01 : Below wr.heap.size wr w1 := by rw [hw1]; (repeat (first | (with_reducible exact Below.refl _ _) | (with_reducible refine below_drewN ?_ _) | (with_reducible refine Below.drew ?_) | (with_reducible refine Below.alloc ?_ (by first | exact Nat.le_refl _ | (simp; done) | (simp; omega) | omega) _) | (with_reducible refine Below.setCell ?_ (by first | exact Nat.le_refl _ | (simp; done) | (simp; omega) | omega) _)))
          clear hw1
          obtain ⟨p0, p1, p2, hlp⟩ := proc_cells bz1
          obtain ⟨q0, q1, q2, hlq⟩ := proc_cells bz2
          have fp0 := bz1.free 0
          have fp1 := bz1.free 1
          have fp2 := bz1.free 2
          have fq0 := bz2.free 0
          have fq1 := bz2.free 1
          have fq2 := bz2.free 2
          refine wpAnyH_ready (rs := [12]) (by kernel_rfl) (by simp) ?_
          refine AllReadyH.cons (o := ⟨none, _, _, _, _, _⟩) rfl (fun K' hK => ?_) AllReadyH.nil
          go_simp
          refine hK.out _ _ (SOF.out _ (((hb01.setCell (p := ⟨wr.heap.size + 1, 0, none⟩) (by simp) _).setCell (p := ⟨wr.heap.size + 1, 1, none⟩) (by simp) _).setCell (p := ⟨wr.heap.size + 1, 2, none⟩) (by simp) _)) (fun hHeld => ?_)
          clear hK K'
          have bx2 : Box (((w1.setCell ⟨wr.heap.size + 1, 0, none⟩ (.int .i64 (T j))).setCell ⟨wr.heap.size + 1, 1, none⟩ (.int .i64 (K j))).setCell ⟨wr.heap.size + 1, 2, none⟩ (.slice Aa (L j) ca)) (wr.heap.size + 1) 55 #[.int .i64 (T j), .int .i64 (K j), .slice Aa (L j) ca] := ((bz2.set_ 0 _).set_ 1 _).set_ 2 _
          have by2 : Box (((w1.setCell ⟨wr.heap.size + 1, 0, none⟩ (.int .i64 (T j))).setCell ⟨wr.heap.size + 1, 1, none⟩ (.int .i64 (K j))).setCell ⟨wr.heap.size + 1, 2, none⟩ (.slice Aa (L j) ca)) (wr.heap.size) 55 #[.int .i64 0, .int .i64 0, .slice none 0 0] := (((bz1.other (p := ⟨wr.heap.size + 1, 0, none⟩) (by simp) _).other (p := ⟨wr.heap.size + 1, 1, none⟩) (by simp) _).other (p := ⟨wr.heap.size + 1, 2, none⟩) (by simp) _)
          have hb02 : Below wr.heap.size wr (((w1.setCell ⟨wr.heap.size + 1, 0, none⟩ (.int .i64 (T j))).setCell ⟨wr.heap.size + 1, 1, none⟩ (.int .i64 (K j))).setCell ⟨wr.heap.size + 1, 2, none⟩ (.slice Aa (L j) ca)) := (((hb01.setCell (p := ⟨wr.heap.size + 1, 0, none⟩) (by simp) _).setCell (p := ⟨wr.heap.size + 1, 1, none⟩) (by simp) _).setCell (p := ⟨wr.heap.size + 1, 2, none⟩) (by simp) _)
          clear p0 p1 p2 hlp q0 q1 q2 hlq fp0 fp1 fp2 fq0 fq1 fq2 bz1 bz2 hb01
          generalize (((w1.setCell ⟨wr.heap.size + 1, 0, none⟩ (.int .i64 (T j))).setCell ⟨wr.heap.size + 1, 1, none⟩ (.int .i64 (K j))).setCell ⟨wr.heap.size + 1, 2, none⟩ (.slice Aa (L j) ca)) = w3 at *
          obtain ⟨q0, q1, q2, hlq⟩ := proc_cells by2
          have fq0 := by2.free 0
          have fq1 := by2.free 1
          have fq2 := by2.free 2
          try simp only [Act.put, List.setIfInBounds_toArray, List.set_cons_zero, List.set_cons_succ]
          refine wpAnyH_ready (rs := [13]) (by kernel_rfl) (by simp) ?_
          refine AllReadyH.cons (o := ⟨none, _, _, _, _, _⟩) rfl (fun K' hK => ?_) AllReadyH.nil
          go_simp
          refine hK.out _ _ (SOF.out _ (((hb02.setCell (p := ⟨wr.heap.size, 0, none⟩) (by simp) _).setCell (p := ⟨wr.heap.size, 1, none⟩) (by simp) _).setCell (p := ⟨wr.heap.size, 2, none⟩) (by simp) _)) (fun hHeld => ?_)
          clear hK K'
          try simp only [Act.put, List.setIfInBounds_toArray, List.set_cons_zero, List.set_cons_succ]
          have HX3 := hide ((((bx2.other (p := ⟨wr.heap.size, 0, none⟩) (by simp) _).other (p := ⟨wr.heap.size, 1, none⟩) (by simp) _).other (p := ⟨wr.heap.size, 2, none⟩) (by simp) _) : Box (((w3.setCell ⟨wr.heap.size, 0, none⟩ (.int .i64 (T j))).setCell ⟨wr.heap.size, 1, none⟩ (.int .i64 (K j))).setCell ⟨wr.heap.size, 2, none⟩ (.slice Ab (L j) cb)) (wr.heap.size + 1) 55 #[.int .i64 (T j), .int .i64 (K j), .slice Aa (L j) ca])
          have HY3 := hide (((by2.set_ 0 (.int .i64 (T j))).set_ 1 (.int .i64 (K j))).set_ 2 (.slice Ab (L j) cb))
          refine wpAnyH_done (by kernel_rfl) ?_ _
          go_wp2_with fail
          go_meet
          case rel => exact ⟨_, _, rfl, rfl, HX3, HY3, (((hb02.setCell (p := ⟨wr.heap.size, 0, none⟩) (by simp) _).setCell (p := ⟨wr.heap.size, 1, none⟩) (by simp) _).setCell (p := ⟨wr.heap.size, 2, none⟩) (by simp) _)⟩
      case rest =>
        obtain ⟨gx, gy, rfl, rfl, HX, HY, hbc⟩ := hcut
        obtain ⟨w2, rfl⟩ : ∃ x : World, x = wc := ⟨_, rfl⟩
        have ha3 := hXA.out.below hbc
        have hb3 := hXB.out.below hbc
        have hB2 := HB.out.trans (hbc.mono HB.out.size)
        have HIA2 := hide (HIA.out.below hbc)
        have HIB2 := hide (HIB.out.below hbc)
        obtain ⟨x0, x1, x2, hlx⟩ := proc_cells HX.out
        obtain ⟨y0, y1, y2, hly⟩ := proc_cells HY.out
        have tT : (T j != T j) = false := by simp
        have tK : (K j != K j) = false := by simp
        have HII := hide (fun W hW hW2 => ints_any Aa Ab (L j) (L j) ca cb (S j) (S j) W hl9 hl9 hW hW2)
        rw [show intsB (L j) (S j) (L j) (S j) = true from intsB_iff.2 ⟨rfl, fun _ _ => rfl⟩] at HII
        clear hbc hla hlb hla2 hlb2 SOF bd0 hXA hXB HB HIA HIB HX HY
        go_wp2_with fail
        refine (HII.out _ HIA2.out HIB2.out).mono ?_
        rintro r w' ⟨rfl, qz, rfl⟩
        go_wp2_with fail
        go_roundw
        case rel => exact ⟨j + 1, by omega, by go_num, ha3.drewN _, hb3.drewN _, below_drewN hB2 _⟩
        case measure => simp [intOf]; omega
    · obtain rfl : j = n := by omega
      go_wp2_with fail
      go_ret
      exact ⟨rfl, hB⟩
end Go.Proofs.Ytnglmfdcnoglhaa
/- CopyBuffers of the reference: the buffers are the call's own. -/
namespace Go.Proofs.Ytnglmfdcnoglhaa
open Go.RowKit Go.Shelf Go.Lib
set_option maxHeartbeats 2000000 in
set_option maxRecDepth 100000 in
theorem copyBuffersO_any (len : Int) (A : Option Addr) (n c : Nat) (T K : Nat → Int) (L : Nat → Nat) (S : Nat → Nat → Int) (w : World) (hn : n ≤ 1000) (hL : ∀ i, i < n → L i ≤ 100000) (hI : ProcsAt w 0 A n T K L S) :
    Calls Try.prog 18 #[.agg #[.int .i64 len, .slice A n c]] w fun r w' => ∃ D c', r = .returned (.agg #[.int .i64 len, .slice D n c']) ∧ (∃ A C, OwnProcs w' (w.heap.size + 3) (w.heap.size + 3) (.slice D n c') n T K L A C S) ∧ Below w.heap.size w w' := by
  have HI := hide hI
  have HL := hide hL
  clear hI hL
  go_enter Try.func18, Try.ntmps18
  go_wp2_with fail
  go_loopw [4, 5] (fun i _ wr => ∃ j : Nat, j ≤ n ∧ i = .int .i64 j ∧ Hid (CopI w (w.heap.size + 3) (w.heap.size + 1 + 1) len A n c j T K L S wr)) (fun i _ _ => n - (intOf i).toNat)
  case atStart => exact ⟨0, Nat.zero_le _, rfl, hide ⟨⟨none, 0, Box.made (by simp), fun _ => none, fun _ => 0, OwnProcs.nil_, fun i h => absurd h (Nat.not_lt_zero i)⟩, by (repeat (first | (with_reducible exact Below.refl _ _) | (with_reducible refine below_drewN ?_ _) | (with_reducible refine Below.drew ?_) | (with_reducible refine Below.alloc ?_ (by first | exact Nat.le_refl _ | (simp; done) | (simp; omega) | omega) _) | (with_reducible refine Below.setCell ?_ (by first | exact Nat.le_refl _ | (simp; done) | (simp; omega) | omega) _))), ((Box.made rfl).alloc _).alloc _, (Box.made (by simp)).alloc _, by simp⟩⟩
  case round =>
    obtain ⟨j, hj, rfl, HG⟩ := hrel
    obtain ⟨⟨D, cD, bb, A0, C0, hown, hA0⟩, hB, ba, br, hbs⟩ := HG.out
    obtain ⟨a0, a1, hla⟩ := bufs_cells ba
    by_cases hlt : j < n
    · have hltz : (j : Int) < (n : Int) := by omega
      obtain ⟨bq, oq, Ai, ci, rfl, -, hbl, hc0, hc1, hc2, hIj⟩ := (HI.out.below hB) j hlt
      have hl9 := HL.out j hlt
      have HO := hide (fun W' (h : Below wr.heap.size wr W') => hown.below h)
      have HA0 := hide hA0
      have HIJ := hide hIj
      have HBB := hide bb
      have hbs2 := hbs
      clear hown bb br hB ba hA0 hIj
      go_upto_region 6 with fail
      obtain ⟨w1, hw1⟩ : ∃ x : World, x = wr.alloc (.cells #[.int .i64 (T j), .int .i64 (K j), .slice Ai (L j) ci] 55) := ⟨_, rfl⟩
      rw [← hw1]
      have bp : Box w1 wr.heap.size 55 #[.int .i64 (T j), .int .i64 (K j), .slice Ai (L j) ci] := by rw [hw1]; exact Box.made rfl
      have hb1 : Below wr.heap.size wr w1 := by rw [hw1]; exact (Below.refl _ _).alloc (Nat.le_refl _) _
      have bb1 := HBB.out.below hb1
      have HIW := hide (HIJ.out.below hb1)
      have hs1 := hb1.size
      clear hw1 a0 a1 hla hbl hc0 hc1 hc2
      obtain ⟨z0, z1, hlz⟩ := bufs_cells bb1
      obtain ⟨p0, p1, p2, hlp⟩ := proc_cells bp
      have SOF := hide (fun W' (h : Below w1.heap.size w1 W') => (⟨(h.cell (p := ⟨wr.heap.size, 0, none⟩) hlp).trans p0, (h.cell (p := ⟨wr.heap.size, 1, none⟩) hlp).trans p1, (h.cell (p := ⟨wr.heap.size, 2, none⟩) hlp).trans p2⟩ : (W'.cell? ⟨wr.heap.size, 0, none⟩ = some (.int .i64 (T j)) ∧ W'.cell? ⟨wr.heap.size, 1, none⟩ = some (.int .i64 (K j)) ∧ W'.cell? ⟨wr.heap.size, 2, none⟩ = some (.slice Ai (L j) ci))))
      have HHD := hide (fun W' (h : Below w1.heap.size w1 W') => (⟨(h.cell (p := ⟨w.heap.size + 1 + 1, 1, none⟩) hlz).trans z1, (h.frozen (p := ⟨w.heap.size + 1 + 1, 1, none⟩) hlz).trans (bb1.free 1)⟩ : W'.cell? ⟨w.heap.size + 1 + 1, 1, none⟩ = some (.slice D j cD) ∧ W'.frozen? ⟨w.heap.size + 1 + 1, 1, none⟩ = false))
      have HHK := hide (fun W W' (h : Below w1.heap.size w1 W) (h' : Below (w.heap.size + 3) W W') => (⟨((bb1.below h).kept h' (by omega)).at_ 1, ((bb1.below h).kept h' (by omega)).free 1⟩ : W'.cell? ⟨w.heap.size + 1 + 1, 1, none⟩ = some (.slice D j cD) ∧ W'.frozen? ⟨w.heap.size + 1 + 1, 1, none⟩ = false))
      have bb0 : Below w1.heap.size w1 w1 := Below.refl _ _
      have bd0 : Below w1.heap.size w1 w1.drew := bb0.drew
      clear p0 p1 p2 z0 z1
      refine wp_region_held_drew (S := fun w' => (w'.cell? ⟨wr.heap.size, 0, none⟩ = some (.int .i64 (T j)) ∧ w'.cell? ⟨wr.heap.size, 1, none⟩ = some (.int .i64 (K j)) ∧ w'.cell? ⟨wr.heap.size, 2, none⟩ = some (.slice Ai (L j) ci))) (by kernel_rfl) (SOF.out _ bd0) (fun hHeld => ?_)
      refine wpAnyH_take (i := 0) (oi := ⟨some 21, _, _, _, _, _⟩) (v := ?_) rfl (by kernel_rfl) (by kernel_rfl) (by kernel_rfl) (fun _ _ _ h => h) (Or.inl ⟨by rfl, ?_⟩) (by assumption) ?_
      rotate_left
      · (intro w' hSw; (try dsimp only at hSw); go_simp <;> (with_reducible rfl))
      try simp only [Act.put, List.setIfInBounds_toArray, List.set_cons_zero, List.set_cons_succ]
      refine wpAnyH_take (i := 2) (oi := ⟨some 23, _, _, _, _, _⟩) (v := ?_) rfl (by kernel_rfl) (by kernel_rfl) (by kernel_rfl) (fun _ _ _ h => h) (Or.inl ⟨by rfl, ?_⟩) (by assumption) ?_
      rotate_left
      · (intro w' hSw; (try dsimp only at hSw); go_simp <;> (with_reducible rfl))
      try simp only [Act.put, List.setIfInBounds_toArray, List.set_cons_zero, List.set_cons_succ]
      refine wpAnyH_take (i := 3) (oi := ⟨some 24, _, _, _, _, _⟩) (v := ?_) rfl (by kernel_rfl) (by kernel_rfl) (by kernel_rfl) (fun _ _ _ h => h) (Or.inl ⟨by rfl, ?_⟩) (by assumption) ?_
      rotate_left
      · (intro w' hSw; (try dsimp only at hSw); go_simp <;> (with_reducible rfl))
      try simp only [Act.put, List.setIfInBounds_toArray, List.set_cons_zero, List.set_cons_succ]
      refine wpAnyH_take (i := 4) (oi := ⟨some 25, _, _, _, _, _⟩) (v := ?_) rfl (by kernel_rfl) (by kernel_rfl) (by kernel_rfl) (fun _ _ _ h => h) (Or.inl ⟨by rfl, ?_⟩) (by assumption) ?_
      rotate_left
      · (intro w' hSw; (try dsimp only at hSw); go_simp <;> (with_reducible rfl))
      try simp only [Act.put, List.setIfInBounds_toArray, List.set_cons_zero, List.set_cons_succ]
      refine wpAnyH_take (i := 5) (oi := ⟨some 26, _, _, _, _, _⟩) (v := ?_) rfl (by kernel_rfl) (by kernel_rfl) (by kernel_rfl) (fun _ _ _ h => h) (Or.inl ⟨by rfl, ?_⟩) (by assumption) ?_
      rotate_left
      · (intro w' hSw; (try dsimp only at hSw); go_simp <;> (with_reducible rfl))
      try simp only [Act.put, List.setIfInBounds_toArray, List.set_cons_zero, List.set_cons_succ]
      refine wpAnyH_take (i := 6) (oi := ⟨some 27, _, _, _, _, _⟩) (v := ?_) rfl (by kernel_rfl) (by kernel_rfl) (by kernel_rfl) (fun _ _ _ h => h) (Or.inl ⟨by rfl, ?_⟩) (by assumption) ?_
      rotate_left
      · (intro w' hSw; (try dsimp only at hSw); go_simp <;> (with_reducible rfl))
      try simp only [Act.put, List.setIfInBounds_toArray, List.set_cons_zero, List.set_cons_succ]
      refine wpAnyH_take (i := 7) (oi := ⟨some 28, _, _, _, _, _⟩) (v := ?_) rfl (by kernel_rfl) (by kernel_rfl) (by kernel_rfl) (fun _ _ _ h => h) (Or.inl ⟨by rfl, ?_⟩) (by assumption) ?_
      rotate_left
      · (intro w' hSw; (try dsimp only at hSw); go_simp <;> (with_reducible rfl))
      try simp only [Act.put, List.setIfInBounds_toArray, List.set_cons_zero, List.set_cons_succ]
      have hlz2 := hlz
      have hlp2 := hlp
      have hwr3 : w.heap.size + 3 ≤ wr.heap.size := hbs2
      refine wpAnyH_ready (rs := [1, 8]) (by kernel_rfl) (by simp) ?_
      refine AllReadyH.cons (o := ⟨some 22, _, _, _, _, _⟩) rfl (fun K' hK => ?_) (AllReadyH.cons (o := ⟨some 29, _, _, _, _, _⟩) rfl (fun K' hK => ?_) AllReadyH.nil)
      · skip
        have HD := HHD.out _ bd0
        obtain ⟨hd1, hd2⟩ := HD
        go_simp
        refine hK.out _ _ (SOF.out _ bd0) (fun hHeld => ?_)
        clear hK K' hd1 hd2
        try simp only [Act.put, List.setIfInBounds_toArray, List.set_cons_zero, List.set_cons_succ]
        refine wpAnyH_ready (rs := [8]) (by kernel_rfl) (by simp) ?_
        refine AllReadyH.cons (o := ⟨some 29, _, _, _, _, _⟩) rfl (fun K' hK => ?_) AllReadyH.nil
        go_simp
        go_at_call 15
        refine (copyInts_own Ai (L j) ci (S j) _ (by omega) (HIW.out.below bd0)).mono ?_
        rintro r w2 ⟨v2, rfl, hown2, hb2⟩
        obtain ⟨A2, c2, rfl, hI2, hf2⟩ := hown2.far
        have hb12 : Below w1.heap.size w1 w2 := bd0.trans (hb2.mono (bd0).size)
        have hs2 := hb2.size
        go_wp2_with fail
        refine hK.out _ _ (SOF.out _ hb12) (fun hHeld => ?_)
        clear hK K'
        try simp only [Act.put, List.setIfInBounds_toArray, List.set_cons_zero, List.set_cons_succ]
        refine wpAnyH_take (i := 9) (oi := ⟨some 30, _, _, _, _, _⟩) (v := ?_) rfl (by kernel_rfl) (by kernel_rfl) (by kernel_rfl) (fun _ _ _ h => h) (Or.inl ⟨by rfl, ?_⟩) (by assumption) ?_
        rotate_left
        · (intro w' hSw; (try dsimp only at hSw); go_simp <;> (with_reducible rfl))
        try simp only [Act.put, List.setIfInBounds_toArray, List.set_cons_zero, List.set_cons_succ]
        refine wpAnyH_ready (rs := [10]) (by kernel_rfl) (by simp) ?_
        refine AllReadyH.cons (o := ⟨some 31, _, _, _, _, _⟩) rfl (fun K' hK => ?_) AllReadyH.nil
        go_simp
        refine hK.out _ _ (SOF.out _ (ballocH hb12 (Nat.le_refl _) (.cells #[.int .i64 (T j), .int .i64 (K j), .slice A2 (L j) c2] 55))) (fun hHeld => ?_)
        clear hK K'
        try simp only [Act.put, List.setIfInBounds_toArray, List.set_cons_zero, List.set_cons_succ]
        refine wpAnyH_ready (rs := [11]) (by kernel_rfl) (by simp) ?_
        refine AllReadyH.cons (o := ⟨some 32, _, _, _, _, _⟩) rfl (fun K' hK => ?_) AllReadyH.nil
        have hbW : Below w1.heap.size w1 (w2.alloc (.cells #[.int .i64 (T j), .int .i64 (K j), .slice A2 (L j) c2] 55)) := ballocH hb12 (Nat.le_refl _) (.cells #[.int .i64 (T j), .int .i64 (K j), .slice A2 (L j) c2] 55)
        have HOX := hide (HO.out _ (hb1.trans (hbW.mono hs1)))
        have HI2 := hide ((hI2.weak (show w.heap.size + 3 ≤ _ by first | (simp; omega) | omega)).alloc (.cells #[.int .i64 (T j), .int .i64 (K j), .slice A2 (L j) c2] 55))
        have HA2 := hide (fun b o (e : A2 = some ⟨b, o, none⟩) => (⟨fun e2 => by have h2 := (HO.out _ (Below.refl _ _)).lt e2; have h3 := (hf2 b o e).1; have h4 := hlp; have h5 : w1.heap.size ≤ b := (by first | exact h3 | (simp at h3; omega)); omega, by have := (hf2 b o e).2; simp; omega⟩ : (Value.slice D j cD).ownBlock ≠ some b ∧ b < (w2.alloc (.cells #[.int .i64 (T j), .int .i64 (K j), .slice A2 (L j) c2] 55)).heap.size))
        have HA9 := hide (fun b o (e : A2 = some ⟨b, o, none⟩) => (by have h3 := (hf2 b o e).1; have h5 : w1.heap.size ≤ b := (by first | exact h3 | (simp at h3; omega)); omega : w.heap.size + 3 ≤ b))
        refine step_append_procG _ rfl (.tmp 22) (.tmp 31) rfl (w.heap.size + 3) (w.heap.size + 3) (.slice D j cD) j T K L A0 C0 S (by first | rfl | simp [Act.eval, Act.put]) HOX.out _ (T j) (K j) A2 (L j) c2 (S j) (by first | rfl | simp [Act.eval, Act.put]) (Box.made (by simp)) HI2.out HA2.out (by omega) (by have := hbW.size; omega) ?_
        intro v' w' h1 hb3 hg3
        obtain ⟨D', c', rfl, -, -, -⟩ := h1.form (Nat.le_refl _)
        obtain ⟨hk1, hk2⟩ := HHK.out _ _ hbW hb3
        have hSW : (w'.cell? ⟨wr.heap.size, 0, none⟩ = some (.int .i64 (T j)) ∧ w'.cell? ⟨wr.heap.size, 1, none⟩ = some (.int .i64 (K j)) ∧ w'.cell? ⟨wr.heap.size, 2, none⟩ = some (.slice Ai (L j) ci)) := by
          have hne : some wr.heap.size ≠ (Value.slice D j cD).ownBlock := fun e => by have h2 := (HO.out _ (Below.refl _ _)).lt e.symm; omega
          have hk := fun o => (World.cell?_of_block (a := ⟨wr.heap.size, o, none⟩) (hg3.block wr.heap.size (Nat.lt_of_lt_of_le hlp hbW.size) hne))
          obtain ⟨s0, s1, s2⟩ := SOF.out _ hbW
          exact ⟨(hk 0).trans s0, (hk 1).trans s1, (hk 2).trans s2⟩
        have HN := hide (HG.out.step (hb1.trans (hbW.mono hs1)) (Nat.lt_succ_self _) (by omega) h1 (fun i hi b o e => by
          unfold catA at e
          by_cases h : i < j
          · rw [if_pos h] at e; exact HA0.out i h b o e
          · rw [if_neg h] at e; exact HA9.out b o e) hb3)
        refine hK.out _ _ hSW (fun hHeld => ?_)
        clear hK K' hSW h1 hb3 hg3
        try simp only [Act.put, List.setIfInBounds_toArray, List.set_cons_zero, List.set_cons_succ]
        refine wpAnyH_take (i := 12) (oi := ⟨some 33, _, _, _, _, _⟩) (v := ?_) rfl (by kernel_rfl) (by kernel_rfl) (by kernel_rfl) (fun _ _ _ h => h) (Or.inl ⟨by rfl, ?_⟩) (by assumption) ?_
        rotate_left
        · (intro w' hSw; (try dsimp only at hSw); go_simp <;> (with_reducible rfl))
        try simp only [Act.put, List.setIfInBounds_toArray, List.set_cons_zero, List.set_cons_succ]
        refine wpAnyH_ready (rs := [13]) (by kernel_rfl) (by simp) ?_
        refine AllReadyH.cons (o := ⟨none, _, _, _, _, _⟩) rfl (fun K' hK => ?_) AllReadyH.nil
        go_simp
        refine hK.out _ _ ?hz (fun hHeld => ?_)
        case hz => exact ⟨(World.cell?_setCell_other _ _ ⟨wr.heap.size, 0, none⟩ _ (fun e => by injection e with e; omega)).trans hHeld.1, (World.cell?_setCell_other _ _ ⟨wr.heap.size, 1, none⟩ _ (fun e => by injection e with e; omega)).trans hHeld.2.1, (World.cell?_setCell_other _ _ ⟨wr.heap.size, 2, none⟩ _ (fun e => by injection e with e; omega)).trans hHeld.2.2⟩
        clear hK K' hk1 hk2
        try simp only [Act.put, List.setIfInBounds_toArray, List.set_cons_zero, List.set_cons_succ]
        refine wpAnyH_done (by kernel_rfl) ?_ _
        go_wp2_with fail
        go_roundw
        case rel => exact ⟨j + 1, by omega, by go_num, HN⟩
        case measure => simp [intOf]; omega
      · skip
        go_simp
        go_at_call 15
        refine (copyInts_own Ai (L j) ci (S j) _ (by omega) (HIW.out.below bd0)).mono ?_
        rintro r w2 ⟨v2, rfl, hown2, hb2⟩
        obtain ⟨A2, c2, rfl, hI2, hf2⟩ := hown2.far
        have hb12 : Below w1.heap.size w1 w2 := bd0.trans (hb2.mono (bd0).size)
        have hs2 := hb2.size
        go_wp2_with fail
        refine hK.out _ _ (SOF.out _ hb12) (fun hHeld => ?_)
        clear hK K'
        try simp only [Act.put, List.setIfInBounds_toArray, List.set_cons_zero, List.set_cons_succ]
        refine wpAnyH_take (i := 9) (oi := ⟨some 30, _, _, _, _, _⟩) (v := ?_) rfl (by kernel_rfl) (by kernel_rfl) (by kernel_rfl) (fun _ _ _ h => h) (Or.inl ⟨by rfl, ?_⟩) (by assumption) ?_
        rotate_left
        · (intro w' hSw; (try dsimp only at hSw); go_simp <;> (with_reducible rfl))
        try simp only [Act.put, List.setIfInBounds_toArray, List.set_cons_zero, List.set_cons_succ]
        refine wpAnyH_ready (rs := [1, 10]) (by kernel_rfl) (by simp) ?_
        refine AllReadyH.cons (o := ⟨some 22, _, _, _, _, _⟩) rfl (fun K' hK => ?_) (AllReadyH.cons (o := ⟨some 31, _, _, _, _, _⟩) rfl (fun K' hK => ?_) AllReadyH.nil)
        · skip
          have HD := HHD.out _ hb12
          obtain ⟨hd1, hd2⟩ := HD
          go_simp
          refine hK.out _ _ (SOF.out _ hb12) (fun hHeld => ?_)
          clear hK K' hd1 hd2
          try simp only [Act.put, List.setIfInBounds_toArray, List.set_cons_zero, List.set_cons_succ]
          refine wpAnyH_ready (rs := [10]) (by kernel_rfl) (by simp) ?_
          refine AllReadyH.cons (o := ⟨some 31, _, _, _, _, _⟩) rfl (fun K' hK => ?_) AllReadyH.nil
          go_simp
          refine hK.out _ _ (SOF.out _ (ballocH hb12 (Nat.le_refl _) (.cells #[.int .i64 (T j), .int .i64 (K j), .slice A2 (L j) c2] 55))) (fun hHeld => ?_)
          clear hK K'
          try simp only [Act.put, List.setIfInBounds_toArray, List.set_cons_zero, List.set_cons_succ]
          refine wpAnyH_ready (rs := [11]) (by kernel_rfl) (by simp) ?_
          refine AllReadyH.cons (o := ⟨some 32, _, _, _, _, _⟩) rfl (fun K' hK => ?_) AllReadyH.nil
          have hbW : Below w1.heap.size w1 (w2.alloc (.cells #[.int .i64 (T j), .int .i64 (K j), .slice A2 (L j) c2] 55)) := ballocH hb12 (Nat.le_refl _) (.cells #[.int .i64 (T j), .int .i64 (K j), .slice A2 (L j) c2] 55)
          have HOX := hide (HO.out _ (hb1.trans (hbW.mono hs1)))
          have HI2 := hide ((hI2.weak (show w.heap.size + 3 ≤ _ by first | (simp; omega) | omega)).alloc (.cells #[.int .i64 (T j), .int .i64 (K j), .slice A2 (L j) c2] 55))
          have HA2 := hide (fun b o (e : A2 = some ⟨b, o, none⟩) => (⟨fun e2 => by have h2 := (HO.out _ (Below.refl _ _)).lt e2; have h3 := (hf2 b o e).1; have h4 := hlp; have h5 : w1.heap.size ≤ b := (by first | exact h3 | (simp at h3; omega)); omega, by have := (hf2 b o e).2; simp; omega⟩ : (Value.slice D j cD).ownBlock ≠ some b ∧ b < (w2.alloc (.cells #[.int .i64 (T j), .int .i64 (K j), .slice A2 (L j) c2] 55)).heap.size))
          have HA9 := hide (fun b o (e : A2 = some ⟨b, o, none⟩) => (by have h3 := (hf2 b o e).1; have h5 : w1.heap.size ≤ b := (by first | exact h3 | (simp at h3; omega)); omega : w.heap.size + 3 ≤ b))
          refine step_append_procG _ rfl (.tmp 22) (.tmp 31) rfl (w.heap.size + 3) (w.heap.size + 3) (.slice D j cD) j T K L A0 C0 S (by first | rfl | simp [Act.eval, Act.put]) HOX.out _ (T j) (K j) A2 (L j) c2 (S j) (by first | rfl | simp [Act.eval, Act.put]) (Box.made (by simp)) HI2.out HA2.out (by omega) (by have := hbW.size; omega) ?_
          intro v' w' h1 hb3 hg3
          obtain ⟨D', c', rfl, -, -, -⟩ := h1.form (Nat.le_refl _)
          obtain ⟨hk1, hk2⟩ := HHK.out _ _ hbW hb3
          have hSW : (w'.cell? ⟨wr.heap.size, 0, none⟩ = some (.int .i64 (T j)) ∧ w'.cell? ⟨wr.heap.size, 1, none⟩ = some (.int .i64 (K j)) ∧ w'.cell? ⟨wr.heap.size, 2, none⟩ = some (.slice Ai (L j) ci)) := by
            have hne : some wr.heap.size ≠ (Value.slice D j cD).ownBlock := fun e => by have h2 := (HO.out _ (Below.refl _ _)).lt e.symm; omega
            have hk := fun o => (World.cell?_of_block (a := ⟨wr.heap.size, o, none⟩) (hg3.block wr.heap.size (Nat.lt_of_lt_of_le hlp hbW.size) hne))
            obtain ⟨s0, s1, s2⟩ := SOF.out _ hbW
            exact ⟨(hk 0).trans s0, (hk 1).trans s1, (hk 2).trans s2⟩
          have HN := hide (HG.out.step (hb1.trans (hbW.mono hs1)) (Nat.lt_succ_self _) (by omega) h1 (fun i hi b o e => by
            unfold catA at e
            by_cases h : i < j
            · rw [if_pos h] at e; exact HA0.out i h b o e
            · rw [if_neg h] at e; exact HA9.out b o e) hb3)
          refine hK.out _ _ hSW (fun hHeld => ?_)
          clear hK K' hSW h1 hb3 hg3
          try simp only [Act.put, List.setIfInBounds_toArray, List.set_cons_zero, List.set_cons_succ]
          refine wpAnyH_take (i := 12) (oi := ⟨some 33, _, _, _, _, _⟩) (v := ?_) rfl (by kernel_rfl) (by kernel_rfl) (by kernel_rfl) (fun _ _ _ h => h) (Or.inl ⟨by rfl, ?_⟩) (by assumption) ?_
          rotate_left
          · (intro w' hSw; (try dsimp only at hSw); go_simp <;> (with_reducible rfl))
          try simp only [Act.put, List.setIfInBounds_toArray, List.set_cons_zero, List.set_cons_succ]
          refine wpAnyH_ready (rs := [13]) (by kernel_rfl) (by simp) ?_
          refine AllReadyH.cons (o := ⟨none, _, _, _, _, _⟩) rfl (fun K' hK => ?_) AllReadyH.nil
          go_simp
          refine hK.out _ _ ?hz (fun hHeld => ?_)
          case hz => exact ⟨(World.cell?_setCell_other _ _ ⟨wr.heap.size, 0, none⟩ _ (fun e => by injection e with e; omega)).trans hHeld.1, (World.cell?_setCell_other _ _ ⟨wr.heap.size, 1, none⟩ _ (fun e => by injection e with e; omega)).trans hHeld.2.1, (World.cell?_setCell_other _ _ ⟨wr.heap.size, 2, none⟩ _ (fun e => by injection e with e; omega)).trans hHeld.2.2⟩
          clear hK K' hk1 hk2
          try simp only [Act.put, List.setIfInBounds_toArray, List.set_cons_zero, List.set_cons_succ]
          refine wpAnyH_done (by kernel_rfl) ?_ _
          go_wp2_with fail
          go_roundw
          case rel => exact ⟨j + 1, by omega, by go_num, HN⟩
          case measure => simp [intOf]; omega
        · skip
          go_simp
          refine hK.out _ _ (SOF.out _ (ballocH hb12 (Nat.le_refl _) (.cells #[.int .i64 (T j), .int .i64 (K j), .slice A2 (L j) c2] 55))) (fun hHeld => ?_)
          clear hK K'
          try simp only [Act.put, List.setIfInBounds_toArray, List.set_cons_zero, List.set_cons_succ]
          refine wpAnyH_ready (rs := [1]) (by kernel_rfl) (by simp) ?_
          refine AllReadyH.cons (o := ⟨some 22, _, _, _, _, _⟩) rfl (fun K' hK => ?_) AllReadyH.nil
          have HD := HHD.out _ (ballocH hb12 (Nat.le_refl _) (.cells #[.int .i64 (T j), .int .i64 (K j), .slice A2 (L j) c2] 55))
          obtain ⟨hd1, hd2⟩ := HD
          go_simp
          refine hK.out _ _ (SOF.out _ (ballocH hb12 (Nat.le_refl _) (.cells #[.int .i64 (T j), .int .i64 (K j), .slice A2 (L j) c2] 55))) (fun hHeld => ?_)
          clear hK K' hd1 hd2
          try simp only [Act.put, List.setIfInBounds_toArray, List.set_cons_zero, List.set_cons_succ]
          refine wpAnyH_ready (rs := [11]) (by kernel_rfl) (by simp) ?_
          refine AllReadyH.cons (o := ⟨some 32, _, _, _, _, _⟩) rfl (fun K' hK => ?_) AllReadyH.nil
          have hbW : Below w1.heap.size w1 (w2.alloc (.cells #[.int .i64 (T j), .int .i64 (K j), .slice A2 (L j) c2] 55)) := ballocH hb12 (Nat.le_refl _) (.cells #[.int .i64 (T j), .int .i64 (K j), .slice A2 (L j) c2] 55)
          have HOX := hide (HO.out _ (hb1.trans (hbW.mono hs1)))
          have HI2 := hide ((hI2.weak (show w.heap.size + 3 ≤ _ by first | (simp; omega) | omega)).alloc (.cells #[.int .i64 (T j), .int .i64 (K j), .slice A2 (L j) c2] 55))
          have HA2 := hide (fun b o (e : A2 = some ⟨b, o, none⟩) => (⟨fun e2 => by have h2 := (HO.out _ (Below.refl _ _)).lt e2; have h3 := (hf2 b o e).1; have h4 := hlp; have h5 : w1.heap.size ≤ b := (by first | exact h3 | (simp at h3; omega)); omega, by have := (hf2 b o e).2; simp; omega⟩ : (Value.slice D j cD).ownBlock ≠ some b ∧ b < (w2.alloc (.cells #[.int .i64 (T j), .int .i64 (K j), .slice A2 (L j) c2] 55)).heap.size))
          have HA9 := hide (fun b o (e : A2 = some ⟨b, o, none⟩) => (by have h3 := (hf2 b o e).1; have h5 : w1.heap.size ≤ b := (by first | exact h3 | (simp at h3; omega)); omega : w.heap.size + 3 ≤ b))
          refine step_append_procG _ rfl (.tmp 22) (.tmp 31) rfl (w.heap.size + 3) (w.heap.size + 3) (.slice D j cD) j T K L A0 C0 S (by first | rfl | simp [Act.eval, Act.put]) HOX.out _ (T j) (K j) A2 (L j) c2 (S j) (by first | rfl | simp [Act.eval, Act.put]) (Box.made (by simp)) HI2.out HA2.out (by omega) (by have := hbW.size; omega) ?_
          intro v' w' h1 hb3 hg3
          obtain ⟨D', c', rfl, -, -, -⟩ := h1.form (Nat.le_refl _)
          obtain ⟨hk1, hk2⟩ := HHK.out _ _ hbW hb3
          have hSW : (w'.cell? ⟨wr.heap.size, 0, none⟩ = some (.int .i64 (T j)) ∧ w'.cell? ⟨wr.heap.size, 1, none⟩ = some (.int .i64 (K j)) ∧ w'.cell? ⟨wr.heap.size, 2, none⟩ = some (.slice Ai (L j) ci)) := by
            have hne : some wr.heap.size ≠ (Value.slice D j cD).ownBlock := fun e => by have h2 := (HO.out _ (Below.refl _ _)).lt e.symm; omega
            have hk := fun o => (World.cell?_of_block (a := ⟨wr.heap.size, o, none⟩) (hg3.block wr.heap.size (Nat.lt_of_lt_of_le hlp hbW.size) hne))
            obtain ⟨s0, s1, s2⟩ := SOF.out _ hbW
            exact ⟨(hk 0).trans s0, (hk 1).trans s1, (hk 2).trans s2⟩
          have HN := hide (HG.out.step (hb1.trans (hbW.mono hs1)) (Nat.lt_succ_self _) (by omega) h1 (fun i hi b o e => by
            unfold catA at e
            by_cases h : i < j
            · rw [if_pos h] at e; exact HA0.out i h b o e
            · rw [if_neg h] at e; exact HA9.out b o e) hb3)
          refine hK.out _ _ hSW (fun hHeld => ?_)
          clear hK K' hSW h1 hb3 hg3
          try simp only [Act.put, List.setIfInBounds_toArray, List.set_cons_zero, List.set_cons_succ]
          refine wpAnyH_take (i := 12) (oi := ⟨some 33, _, _, _, _, _⟩) (v := ?_) rfl (by kernel_rfl) (by kernel_rfl) (by kernel_rfl) (fun _ _ _ h => h) (Or.inl ⟨by rfl, ?_⟩) (by assumption) ?_
          rotate_left
          · (intro w' hSw; (try dsimp only at hSw); go_simp <;> (with_reducible rfl))
          try simp only [Act.put, List.setIfInBounds_toArray, List.set_cons_zero, List.set_cons_succ]
          refine wpAnyH_ready (rs := [13]) (by kernel_rfl) (by simp) ?_
          refine AllReadyH.cons (o := ⟨none, _, _, _, _, _⟩) rfl (fun K' hK => ?_) AllReadyH.nil
          go_simp
          refine hK.out _ _ ?hz (fun hHeld => ?_)
          case hz => exact ⟨(World.cell?_setCell_other _ _ ⟨wr.heap.size, 0, none⟩ _ (fun e => by injection e with e; omega)).trans hHeld.1, (World.cell?_setCell_other _ _ ⟨wr.heap.size, 1, none⟩ _ (fun e => by injection e with e; omega)).trans hHeld.2.1, (World.cell?_setCell_other _ _ ⟨wr.heap.size, 2, none⟩ _ (fun e => by injection e with e; omega)).trans hHeld.2.2⟩
          clear hK K' hk1 hk2
          try simp only [Act.put, List.setIfInBounds_toArray, List.set_cons_zero, List.set_cons_succ]
          refine wpAnyH_done (by kernel_rfl) ?_ _
          go_wp2_with fail
          go_roundw
          case rel => exact ⟨j + 1, by omega, by go_num, HN⟩
          case measure => simp [intOf]; omega
    · obtain rfl : j = n := by omega
      have fr0 := br.free 0
      have fr1 := br.free 1
      obtain ⟨r0, r1, hlr⟩ := bufs_cells br
      obtain ⟨z0, z1, hlz⟩ := bufs_cells bb
      have HR := hide br
      have HOW := hide ((hown.other (k := w.heap.size + 1) 0 (.int .i64 len) (fun e => by have := (hown.lt e).1; omega) (fun i hi b o e => by have := hA0 i hi b o e; omega)).other (k := w.heap.size + 1) 1 (.slice D j cD) (fun e => by have := (hown.lt e).1; omega) (fun i hi b o e => by have := hA0 i hi b o e; omega))
      have HB := hide hB
      clear hown hB bb br ba hA0
      go_wp2_with fail
      refine bodyPost_ret (v := .agg #[.int .i64 len, .slice D j cD]) ?_ rfl ⟨D, cD, rfl, ?_, ?_⟩
      · have hz := (HR.out.set_ 0 (.int .i64 len)).set_ 1 (.slice D j cD)
        have z0 := hz.at_ 0
        have z1 := hz.at_ 1
        simp at z0 z1
        simp [results, Try.results18, go_sem, z0, z1]
      · exact ⟨_, _, HOW.out⟩
      · exact (HB.out.setCell (by simp) _).setCell (by simp) _
end Go.Proofs.Ytnglmfdcnoglhaa
/- Receive of the reference, on what is right. -/
namespace Go.Proofs.Ytnglmfdcnoglhaa
open Go.RowKit Go.Shelf Go.Lib
set_option maxHeartbeats 4000000 in
set_option maxRecDepth 100000 in
theorem ReceiveR_ok (q a b : Nat) (t : Int) (A D : Option Addr) (n c l e : Nat) (T K : Nat → Int) (L : Nat → Nat) (S : Nat → Nat → Int) (Sx : Nat → Int) (w : World) (q1 : 1 ≤ q) (q9 : q ≤ 200) (n0 : 0 < n) (n8 : n ≤ 8) (han : a < n) (b3 : b ≤ 3) (l0 : 0 < l) (l4 : l ≤ 400) (hLq : ∀ i, i < n → L i = q) (hSx : ∀ j, j < l → -1000000 ≤ Sx j ∧ Sx j ≤ 1000000) (hpe : ∀ i, i < n → procErrI (q : Int) (T i) (K i) (L i) (S i) = 0) (hI : ProcsAt w 0 A n T K L S) (hJ : IntsAt w 0 D l Sx) :
    Calls Try.prog 30 #[.agg #[.int .i64 (q : Int), .slice A n c], .agg #[.int .i64 (a : Int), .int .i64 t, .int .i64 (b : Int), .slice D l e]] w fun r w' => GaveBufs (behErrI q T K S a t (gatherF b q Sx l)) q n (setF T a t) (behK T K a t) L (behS T S a t (gatherF b q Sx l)) w r w' := by
  obtain ⟨-, ⟨hk0, hk9⟩, -, -, hPa, -⟩ := procErr_zero (hpe a han)
  rw [hLq a han] at hPa
  have HI := hide hI
  have HJ := hide hJ
  have HLQ := hide hLq
  have HSX := hide hSx
  have HPA := hide hPa
  have HG9 := hide (fun j (_ : j < q) => (by have := gatherF_le (v := b) (n := q) hSx (Nat.le_refl l) j; omega : -1000000000 ≤ gatherF b q Sx l j ∧ gatherF b q Sx l j ≤ 1000000000))
  have HGC := hide (fun W A' C' hW => gatheredR_any A' l C' b q Sx W hW hSx b3 q1 (by omega) (by omega))
  obtain ⟨GF, hGF⟩ : ∃ z, z = gatherF b q Sx l := ⟨_, rfl⟩
  rw [← hGF] at HG9 HGC ⊢
  have hanz : (a : Int) < (n : Int) := by omega
  have HL1 := hide (fun i (hi : i < n) => (by rw [hLq i hi]; omega : 0 < L i))
  clear hI hJ hLq hSx hPa hGF hpe
  go_enter Try.func30, Try.ntmps30
  go_wp2_with fail
  generalize hW : World.alloc (World.alloc (World.alloc w _) _) _ = W
  have bb : Box W w.heap.size 36 #[.int .i64 (q : Int), .slice A n c] := by rw [← hW]; exact ((Box.made rfl).alloc _).alloc _
  have bx : Box W (w.heap.size + 1) 51 #[.int .i64 (a : Int), .int .i64 t, .int .i64 (b : Int), .slice D l e] := by rw [← hW]; exact (Box.made (by simp)).alloc _
  have br : Box W (w.heap.size + 1 + 1) 36 #[.int .i64 0, .slice none 0 0] := by rw [← hW]; exact Box.made (by simp)
  have hB : Below w.heap.size w W := by rw [← hW]; exact (((Below.refl _ _).alloc (Nat.le_refl _) _).alloc (by simp) _).alloc (by simp; omega) _
  have hWs := hide (show W.heap.size = w.heap.size + 1 + 1 + 1 from by rw [← hW]; simp)
  clear hW
  obtain ⟨z0, z1, hlz⟩ := bufs_cells bb
  go_wp2_with fail
  refine (copyBuffersO_any (q : Int) A n c T K L S _ (by omega) (fun i hi => by rw [HLQ.out i hi]; omega) (HI.out.below hB)).mono ?_
  rintro r w1 ⟨D9, d9, rfl, ⟨A9, C9, hown1⟩, hb1⟩
  obtain ⟨g, d9', ev, hnd, hd9, hg1, hg2⟩ := hown1.form1 n0
  injection ev with ev1 ev2 ev3
  subst ev1
  subst ev3
  have bb1 := bb.below hb1
  have bx1 := bx.below hb1
  have br1 := br.below hb1
  have hB1 := hB.trans (hb1.mono hB.size)
  rw [hWs.out] at hg1 hown1
  clear bb bx br hB hb1 z0 z1 hlz
  go_upto_region 2 with fail
  obtain ⟨w2, hw2⟩ : ∃ x : World, x = w1.alloc (.cells #[.int .i64 (q : Int), .slice (some ⟨g, 0, none⟩) n d9] 36) := ⟨_, rfl⟩
  rw [← hw2]
  have bo2 : Box w2 w1.heap.size 36 #[.int .i64 (q : Int), .slice (some ⟨g, 0, none⟩) n d9] := by rw [hw2]; exact Box.made rfl
  have bb2 : Box w2 w.heap.size 36 #[.int .i64 (q : Int), .slice A n c] := by rw [hw2]; exact bb1.alloc _
  have bx2 : Box w2 (w.heap.size + 1) 51 #[.int .i64 (a : Int), .int .i64 t, .int .i64 (b : Int), .slice D l e] := by rw [hw2]; exact bx1.alloc _
  have br2 : Box w2 (w.heap.size + 1 + 1) 36 #[.int .i64 0, .slice none 0 0] := by rw [hw2]; exact br1.alloc _
  have hown2 : OwnProcs w2 (w.heap.size + 1 + 1 + 1 + 3) (w.heap.size + 1 + 1 + 1 + 3) (.slice (some ⟨g, 0, none⟩) n d9) n T K L A9 C9 S := by rw [hw2]; exact hown1.alloc _
  have hB2 : Below w.heap.size w w2 := by rw [hw2]; exact hB1.alloc hB1.size _
  have hs12 : w1.heap.size < w2.heap.size := by rw [hw2]; simp
  have HJ2 := hide (HJ.out.below hB2)
  clear hw2 bb1 bx1 br1 hown1 hB1
  obtain ⟨o0, o1, hlo⟩ := bufs_cells bo2
  obtain ⟨b0, b1, hlb⟩ := bufs_cells bb2
  obtain ⟨y0, y1, y2, y3, hly⟩ := recv_cells bx2
  have hgz : 0 ≤ (a : Int) := by omega
  go_wp2_with fail
  refine (HGC.out _ D e HJ2.out).mono ?_
  rintro r w3 ⟨v3, rfl, A3, c3, rfl, hc3, hI3, hb3⟩
  have bo3 := bo2.below hb3
  have bx3 := bx2.below hb3
  have br3 := br2.below hb3
  have hown3 := hown2.below hb3
  have hB3 := hB2.trans (hb3.mono hB2.size)
  have hs3 := hb3.size
  have HI3 := hide hI3
  clear bo2 bb2 bx2 br2 hown2 hB2 hb3 hI3 o0 o1 hlo b0 b1 hlb y0 y1 y2 y3 hly HJ2 HGC
  obtain ⟨y0, y1, y2, y3, hly⟩ := recv_cells bx3
  obtain ⟨k0, k1, k2⟩ := hown3.cells han
  rw [HLQ.out a han] at k2
  have hg3 : g < w3.heap.size := by omega
  by_cases hta : t = T a
  · have HE0 := hide (show behErrI q T K S a t GF = addErrI (K a) q (S a) GF from if_pos hta)
    have tt : (T a != t) = false := by rw [hta]; simp
    have HKQ := hide (show setF K a (K a + 1) = behK T K a t from by unfold behK; rw [if_pos hta])
    have HSQ := hide (show upd S a (fun j => S a j + GF j) = behS T S a t GF from by rw [← upd_behS, if_pos hta])
    have HTA := hide hta
    clear hta
    go_wp2_with fail
    go_quiet (fail)
    go_wp2_with fail
    replace bo3 : Box (w3.drewN nq) w1.heap.size 36 #[.int .i64 (q : Int), .slice (some ⟨g, 0, none⟩) n d9] := bo3
    replace bx3 : Box (w3.drewN nq) (w.heap.size + 1) 51 #[.int .i64 (a : Int), .int .i64 t, .int .i64 (b : Int), .slice D l e] := bx3
    replace br3 : Box (w3.drewN nq) (w.heap.size + 1 + 1) 36 #[.int .i64 0, .slice none 0 0] := br3
    replace hown3 : OwnProcs (w3.drewN nq) (w.heap.size + 1 + 1 + 1 + 3) (w.heap.size + 1 + 1 + 1 + 3) (.slice (some ⟨g, 0, none⟩) n d9) n T K L A9 C9 S := hown3
    replace hB3 : Below w.heap.size w (w3.drewN nq) := below_drewN hB3 nq
    have HI5 := hide (HI3.out.drewN nq)
    have hs5 : w3.heap.size ≤ (w3.drewN nq).heap.size := Nat.le_refl _
    clear y0 y1 y2 y3 hly k0 k1 k2
    generalize w3.drewN nq = w5 at *
    have hIa := (hown3.2 a han).1
    rw [HLQ.out a han] at hIa
    have hs35 := hB3.size
    refine (combinedR_any (A9 a) A3 q q (C9 a) c3 (S a) GF _ (hIa.weak (Nat.zero_le _)) (HI5.out.weak (Nat.zero_le _)) (by omega) (by omega) (by omega) HPA.out HG9.out).mono ?_
    rintro r w6 ⟨hres, hb6⟩
    replace bo3 := bo3.below hb6
    replace bx3 := bx3.below hb6
    replace br3 := br3.below hb6
    replace hown3 := hown3.below hb6
    replace hB3 := hB3.trans (hb6.mono hB3.size)
    have hs56 := hb6.size
    clear hIa hb6 HI5
    obtain ⟨y0, y1, y2, y3, hly⟩ := recv_cells bx3
    obtain ⟨k0, k1, k2⟩ := hown3.cells han
    rw [HLQ.out a han] at k2
    rcases hres with ⟨hne, rfl⟩ | ⟨h0, v6, rfl, hown6⟩
    · have hns : ¬ sizedB q (fun j => S a j + GF j) 1000000000 = true := fun h => hne (by unfold combErrI; rw [if_pos rfl, if_pos h])
      rw [show combErrI q q (S a) GF = 8 from by unfold combErrI; rw [if_pos rfl, if_neg hns]]
      have HE := hide (show behErrI q T K S a t GF = 8 from by rw [HE0.out]; unfold addErrI; rw [if_neg (fun h => hns h.1)])
      clear hne hns
      obtain ⟨r0, r1, hlr⟩ := bufs_cells br3
      have fr0 := br3.free 0
      have fr1 := br3.free 1
      go_wp2_with fail
      refine bodyPost_ret (v := .tuple #[.agg #[.int .i64 0, .slice none 0 0], .int .i64 8]) ?_ rfl ?_
      · have hz := (br3.set_ 0 (.int .i64 0)).set_ 1 (.slice none 0 0)
        have z0 := hz.at_ 0
        have z1 := hz.at_ 1
        simp at z0 z1
        simp [results, Try.results30, go_sem, z0, z1]
      · rw [HE.out]
        exact ⟨⟨_, rfl, .inl ⟨by decide, rfl⟩⟩, (hB3.setCell (by simp; omega) _).setCell (by simp; omega) _⟩
    · have hsz : sizedB q (fun j => S a j + GF j) 1000000000 = true := by
        cases h : sizedB q (fun j => S a j + GF j) 1000000000
        · unfold combErrI at h0; rw [if_pos rfl, h] at h0; exact absurd h0 (by decide)
        · rfl
      obtain ⟨A6, c6, rfl, hI6, hf6⟩ := hown6.far
      have HI6 := hide hI6
      have qk : IntKind.i64.wrap (K a + 1) = K a + 1 := IntWalk.i64_in _ (by omega)
      by_cases hkk : K a < 1000000000
      · have HE := hide (show behErrI q T K S a t GF = 0 from by rw [HE0.out]; unfold addErrI; rw [if_pos ⟨hsz, hkk⟩])
        have tk : decide ((1000000000 : Int) < K a + 1) = false := decide_eq_false (by omega)
        clear h0 hsz hown6 hI6 hf6
        go_wp2_with fail
        go_still_tail 11, (by kernel_rfl)
        repeat still_step
        try refine wpStill_nil ?_
        change wpList _ _ _ _ _ w6.drew
        replace bo3 : Box (w6.drew) w1.heap.size 36 #[.int .i64 (q : Int), .slice (some ⟨g, 0, none⟩) n d9] := bo3
        replace bx3 : Box (w6.drew) (w.heap.size + 1) 51 #[.int .i64 (a : Int), .int .i64 t, .int .i64 (b : Int), .slice D l e] := bx3
        replace br3 : Box (w6.drew) (w.heap.size + 1 + 1) 36 #[.int .i64 0, .slice none 0 0] := br3
        replace hown3 : OwnProcs (w6.drew) (w.heap.size + 1 + 1 + 1 + 3) (w.heap.size + 1 + 1 + 1 + 3) (.slice (some ⟨g, 0, none⟩) n d9) n T K L A9 C9 S := hown3
        replace hB3 : Below w.heap.size w (w6.drew) := hB3.drew
        have HI7 := hide HI6.out.drew
        clear y0 y1 y2 y3 hly k0 k1 k2
        generalize w6.drew = w7 at *
        have hown4 := hown3.setProc (a := a) (t := t) (k := (K a + 1)) (cv := c6) (show IntsAt w7 (w.heap.size + 1 + 1 + 1 + 3) A6 (L a) (fun j => S a j + GF j) from by rw [HLQ.out a han]; exact HI7.out.weak (by omega)) (fun b' o' e' => by have h := HI7.out; rw [e'] at h; have := h.block q1; omega)
        rw [HLQ.out a han] at hown4
        have HOW := hide hown4
        obtain ⟨k0, k1, k2⟩ := hown3.cells han
        have f0 := hown3.frozen (a * 3)
        have f1 := hown3.frozen (a * 3 + 1)
        have f2 := hown3.frozen (a * 3 + 2)
        have hg5 := (hown3.lt (k := g) rfl).2
        have HNA := hide (fun i hi b' o' (e' : upd A9 a A6 i = some ⟨b', o', none⟩) => (by
          have h := (HOW.out.2 i hi).1
          rw [e'] at h
          have := (h.block (HL1.out i hi)).1
          omega : b' ≠ w.heap.size + 1 + 1))
        have HB3 := hide hB3
        have bo4 := ((bo3.other (p := ⟨g, a * 3, none⟩) (by simp; omega) (.int .i64 t)).other (p := ⟨g, a * 3 + 1, none⟩) (by simp; omega) (.int .i64 (K a + 1))).other (p := ⟨g, a * 3 + 2, none⟩) (by simp; omega) (.slice A6 q c6)
        have br4 := ((br3.other (p := ⟨g, a * 3, none⟩) (by simp; omega) (.int .i64 t)).other (p := ⟨g, a * 3 + 1, none⟩) (by simp; omega) (.int .i64 (K a + 1))).other (p := ⟨g, a * 3 + 2, none⟩) (by simp; omega) (.slice A6 q c6)
        have HB4 := hide (((HB3.out.setCell (p := ⟨g, a * 3, none⟩) (by simp; omega) (.int .i64 t)).setCell (p := ⟨g, a * 3 + 1, none⟩) (by simp; omega) (.int .i64 (K a + 1))).setCell (p := ⟨g, a * 3 + 2, none⟩) (by simp; omega) (.slice A6 q c6))
        clear hown3 hown4 hB3
        obtain ⟨y0, y1, y2, y3, hly⟩ := recv_cells bx3
        go_upto_region 11 with fail
        clear k0 k1 k2 f0 f1 f2 bo3 br3 HB3 y0 y1 y2 y3 hly bx3 hg5
        generalize (((w7.setCell ⟨g, a * 3, none⟩ (.int .i64 t)).setCell ⟨g, a * 3 + 1, none⟩ (.int .i64 (K a + 1))).setCell ⟨g, a * 3 + 2, none⟩ (.slice A6 q c6)) = w8 at *
        obtain ⟨z0, z1, hlz⟩ := bufs_cells bo4
        obtain ⟨r0, r1, hlr⟩ := bufs_cells br4
        have fr0 := br4.free 0
        have fr1 := br4.free 1
        have hgr2 : g ≠ w.heap.size + 1 + 1 := by omega
        have HOF := hide ((HOW.out.other (k := w.heap.size + 1 + 1) 0 (.int .i64 (q : Int)) (fun h => by injection h with h; exact hgr2 h) HNA.out).other (k := w.heap.size + 1 + 1) 1 (.slice (some ⟨g, 0, none⟩) n d9) (fun h => by injection h with h; exact hgr2 h) HNA.out)
        have HBR := hide br4
        clear br4
        go_wp2_with fail
        refine bodyPost_ret (v := .tuple #[.agg #[.int .i64 (q : Int), .slice (some ⟨g, 0, none⟩) n d9], .int .i64 0]) ?_ rfl ?_
        · have hz := (HBR.out.set_ 0 (.int .i64 (q : Int))).set_ 1 (.slice (some ⟨g, 0, none⟩) n d9)
          have z0 := hz.at_ 0
          have z1 := hz.at_ 1
          simp at z0 z1
          simp [results, Try.results30, go_sem, z0, z1]
        · rw [HE.out]
          obtain ⟨D1, c1, e1, -, -, hP⟩ := HOF.out.form (by omega)
          injection e1 with e1 e2 e3
          subst e1
          refine ⟨⟨_, rfl, .inr ⟨rfl, _, d9, rfl, ?_⟩⟩, (HB4.out.setCell (by simp; omega) _).setCell (by simp; omega) _⟩
          rw [← HKQ.out, ← HSQ.out]
          exact hP.at_.weak (by omega)
      · have HE := hide (show behErrI q T K S a t GF = 8 from by rw [HE0.out]; unfold addErrI; rw [if_neg (fun h => hkk h.2)])
        have tk : decide ((1000000000 : Int) < K a + 1) = true := decide_eq_true (by omega)
        clear h0 hsz hown6 hI6 hf6
        obtain ⟨r0, r1, hlr⟩ := bufs_cells br3
        have fr0 := br3.free 0
        have fr1 := br3.free 1
        go_wp2_with fail
        refine bodyPost_ret (v := .tuple #[.agg #[.int .i64 0, .slice none 0 0], .int .i64 8]) ?_ rfl ?_
        · have hz := (br3.set_ 0 (.int .i64 0)).set_ 1 (.slice none 0 0)
          have z0 := hz.at_ 0
          have z1 := hz.at_ 1
          simp at z0 z1
          simp [results, Try.results30, go_sem, z0, z1]
        · rw [HE.out]
          exact ⟨⟨_, rfl, .inl ⟨by decide, rfl⟩⟩, (hB3.setCell (by simp; omega) _).setCell (by simp; omega) _⟩
  · have HE := hide (show behErrI q T K S a t GF = 0 from if_neg hta)
    have tt : (T a != t) = true := by simpa using fun h => hta h.symm
    have HKQ := hide (show setF K a 1 = behK T K a t from by unfold behK; rw [if_neg hta])
    have HSQ := hide (show upd S a GF = behS T S a t GF from by rw [← upd_behS, if_neg hta])
    clear hta
    go_wp2_with fail
    go_quiet (fail)
    replace bo3 : Box (w3.drewN nq) w1.heap.size 36 #[.int .i64 (q : Int), .slice (some ⟨g, 0, none⟩) n d9] := bo3
    replace bx3 : Box (w3.drewN nq) (w.heap.size + 1) 51 #[.int .i64 (a : Int), .int .i64 t, .int .i64 (b : Int), .slice D l e] := bx3
    replace br3 : Box (w3.drewN nq) (w.heap.size + 1 + 1) 36 #[.int .i64 0, .slice none 0 0] := br3
    replace hown3 : OwnProcs (w3.drewN nq) (w.heap.size + 1 + 1 + 1 + 3) (w.heap.size + 1 + 1 + 1 + 3) (.slice (some ⟨g, 0, none⟩) n d9) n T K L A9 C9 S := hown3
    replace hB3 : Below w.heap.size w (w3.drewN nq) := below_drewN hB3 nq
    have HI5 := hide (HI3.out.drewN nq)
    have hs5 := hide (show (w3.drewN nq).heap.size = w3.heap.size from rfl)
    clear y0 y1 y2 y3 hly k0 k1 k2
    generalize w3.drewN nq = w5 at *
    have hown4 := hown3.setProc (a := a) (t := t) (k := 1) (cv := c3) (show IntsAt w5 (w.heap.size + 1 + 1 + 1 + 3) A3 (L a) (GF) from by rw [HLQ.out a han]; exact HI5.out.weak (by omega)) (fun b' o' e' => by have h := HI5.out; rw [e'] at h; have := h.block q1; omega)
    rw [HLQ.out a han] at hown4
    have HOW := hide hown4
    obtain ⟨k0, k1, k2⟩ := hown3.cells han
    have f0 := hown3.frozen (a * 3)
    have f1 := hown3.frozen (a * 3 + 1)
    have f2 := hown3.frozen (a * 3 + 2)
    have hg5 := (hown3.lt (k := g) rfl).2
    have HNA := hide (fun i hi b' o' (e' : upd A9 a A3 i = some ⟨b', o', none⟩) => (by
      have h := (HOW.out.2 i hi).1
      rw [e'] at h
      have := (h.block (HL1.out i hi)).1
      omega : b' ≠ w.heap.size + 1 + 1))
    have HB3 := hide hB3
    have bo4 := ((bo3.other (p := ⟨g, a * 3, none⟩) (by simp; omega) (.int .i64 t)).other (p := ⟨g, a * 3 + 1, none⟩) (by simp; omega) (.int .i64 1)).other (p := ⟨g, a * 3 + 2, none⟩) (by simp; omega) (.slice A3 q c3)
    have br4 := ((br3.other (p := ⟨g, a * 3, none⟩) (by simp; omega) (.int .i64 t)).other (p := ⟨g, a * 3 + 1, none⟩) (by simp; omega) (.int .i64 1)).other (p := ⟨g, a * 3 + 2, none⟩) (by simp; omega) (.slice A3 q c3)
    have HB4 := hide (((HB3.out.setCell (p := ⟨g, a * 3, none⟩) (by simp; omega) (.int .i64 t)).setCell (p := ⟨g, a * 3 + 1, none⟩) (by simp; omega) (.int .i64 1)).setCell (p := ⟨g, a * 3 + 2, none⟩) (by simp; omega) (.slice A3 q c3))
    clear hown3 hown4 hB3
    obtain ⟨y0, y1, y2, y3, hly⟩ := recv_cells bx3
    go_upto_region 6 with fail
    clear k0 k1 k2 f0 f1 f2 bo3 br3 HB3 y0 y1 y2 y3 hly bx3 hg5
    generalize (((w5.setCell ⟨g, a * 3, none⟩ (.int .i64 t)).setCell ⟨g, a * 3 + 1, none⟩ (.int .i64 1)).setCell ⟨g, a * 3 + 2, none⟩ (.slice A3 q c3)) = w8 at *
    obtain ⟨z0, z1, hlz⟩ := bufs_cells bo4
    obtain ⟨r0, r1, hlr⟩ := bufs_cells br4
    have fr0 := br4.free 0
    have fr1 := br4.free 1
    have hgr2 : g ≠ w.heap.size + 1 + 1 := by omega
    have HOF := hide ((HOW.out.other (k := w.heap.size + 1 + 1) 0 (.int .i64 (q : Int)) (fun h => by injection h with h; exact hgr2 h) HNA.out).other (k := w.heap.size + 1 + 1) 1 (.slice (some ⟨g, 0, none⟩) n d9) (fun h => by injection h with h; exact hgr2 h) HNA.out)
    have HBR := hide br4
    clear br4
    go_wp2_with fail
    refine bodyPost_ret (v := .tuple #[.agg #[.int .i64 (q : Int), .slice (some ⟨g, 0, none⟩) n d9], .int .i64 0]) ?_ rfl ?_
    · have hz := (HBR.out.set_ 0 (.int .i64 (q : Int))).set_ 1 (.slice (some ⟨g, 0, none⟩) n d9)
      have z0 := hz.at_ 0
      have z1 := hz.at_ 1
      simp at z0 z1
      simp [results, Try.results30, go_sem, z0, z1]
    · rw [HE.out]
      obtain ⟨D1, c1, e1, -, -, hP⟩ := HOF.out.form (by omega)
      injection e1 with e1 e2 e3
      subst e1
      refine ⟨⟨_, rfl, .inr ⟨rfl, _, d9, rfl, ?_⟩⟩, (HB4.out.setCell (by simp; omega) _).setCell (by simp; omega) _⟩
      rw [← HKQ.out, ← HSQ.out]
      exact hP.at_.weak (by omega)
end Go.Proofs.Ytnglmfdcnoglhaa
/- CodeBuffers: the walk. -/
namespace Go.Proofs.Ytnglmfdcnoglhaa
open Go.RowKit Go.Shelf
theorem GaveBufs.form {E len : Int} {n : Nat} {T K : Nat → Int} {L : Nat → Nat} {S : Nat → Nat → Int} {w : World} {r : Ending} {w' : World} (h : GaveBufs E len n T K L S w r w') : ∃ D c, r = .returned (.tuple #[.agg #[.int .i64 (if E = 0 then len else 0), .slice D (if E = 0 then n else 0) c], .int .i64 E]) ∧ ProcsAt w' w.heap.size D (if E = 0 then n else 0) T K L S ∧ Below w.heap.size w w' := by
  obtain ⟨⟨v, rfl, hv⟩, hb⟩ := h
  rcases hv with ⟨h0, rfl⟩ | ⟨h0, D, c, rfl, hP⟩
  · rw [if_neg h0, if_neg h0]
    exact ⟨none, 0, rfl, ProcsAt.nil_, hb⟩
  · rw [if_pos h0, if_pos h0]
    exact ⟨D, c, rfl, hP, hb⟩
theorem two_cells {W : World} {b : Nat} {x y : Int} (bx : Box W b 60 #[.int .i64 x, .int .i64 y]) : W.cell? ⟨b, 0, none⟩ = some (.int .i64 x) ∧ W.cell? ⟨b, 1, none⟩ = some (.int .i64 y) ∧ b < W.heap.size := ⟨bx.at_ 0, bx.at_ 1, bx.lt⟩
/-- What came in, boxed. -/
structure BufA (w : World) (len : Int) (A : Option Addr) (n c : Nat) (p t v : Int) (D : Option Addr) (l e : Nat) (g0 g1 : Int) (T K : Nat → Int) (L : Nat → Nat) (S : Nat → Nat → Int) (Sx : Nat → Int) (W : World) : Prop where
  bb : Box W w.heap.size 36 #[.int .i64 len, .slice A n c]
  bx : Box W (w.heap.size + 1) 51 #[.int .i64 p, .int .i64 t, .int .i64 v, .slice D l e]
  bg : Box W (w.heap.size + 1 + 1) 60 #[.int .i64 g0, .int .i64 g1]
  hP : ProcsAt W 0 A n T K L S
  hX : IntsAt W 0 D l Sx
  below : Below w.heap.size w W
theorem BufA.kept {w : World} {len : Int} {A : Option Addr} {n c : Nat} {p t v : Int} {D : Option Addr} {l e : Nat} {g0 g1 : Int} {T K : Nat → Int} {L : Nat → Nat} {S : Nat → Nat → Int} {Sx : Nat → Int} {W W' : World} (h : BufA w len A n c p t v D l e g0 g1 T K L S Sx W) (hb : Below W.heap.size W W') : BufA w len A n c p t v D l e g0 g1 T K L S Sx W' :=
  ⟨h.bb.below hb, h.bx.below hb, h.bg.below hb, h.hP.below hb, h.hX.below hb, h.below.trans (hb.mono h.below.size)⟩
set_option maxHeartbeats 40000000 in
set_option maxRecDepth 100000 in
theorem codeBuffers_walk (len p t v g0 g1 : Int) (A D : Option Addr) (n c l e : Nat) (T K : Nat → Int) (L : Nat → Nat) (S : Nat → Nat → Int) (Sx : Nat → Int) (w : World) (hn : n ≤ 9223372036854775807) (hl : l ≤ 9223372036854775807) (hI : ProcsAt w 0 A n T K L S) (hJ : IntsAt w 0 D l Sx) :
    Calls Try.prog 5 #[.agg #[.int .i64 len, .slice A n c], .agg #[.int .i64 p, .int .i64 t, .int .i64 v, .slice D l e], .agg #[.int .i64 g0, .int .i64 g1]] w fun r w' => r = .returned (.bool true) ∧ Below w.heap.size w w' := by
  have HI := hide hI
  have HJ := hide hJ
  clear hI hJ
  go_enter Try.func5, Try.ntmps5
  go_wp2_with fail
  refine (awake_any _).mono ?_
  rintro r w1 ⟨rfl, hb1⟩
  have hB1 : Below w.heap.size w w1 := ((((Below.refl _ _).alloc (Nat.le_refl _) _).alloc (by simp) _).alloc (by simp; omega) _).trans (hb1.mono (by simp; omega))
  have B1 : BufA w len A n c p t v D l e g0 g1 T K L S Sx w1 :=
    ⟨(((Box.made rfl).alloc _).alloc _).below hb1, ((Box.made (by simp)).alloc _).below hb1, (Box.made (by simp)).below hb1, HI.out.below hB1, HJ.out.below hB1, hB1⟩
  clear hb1 hB1
  obtain ⟨z0, z1, hlz⟩ := bufs_cells B1.bb
  by_cases h10 : 10 < n
  · have t1 : decide ((10 : Int) < (n : Int)) = true := decide_eq_true (by omega)
    have t1' : decide (10 < n) = true := decide_eq_true h10
    go_wp2_with fail
    go_ret
    exact ⟨rfl, B1.below⟩
  · have t1 : decide ((10 : Int) < (n : Int)) = false := decide_eq_false (by omega)
    have t1' : decide (10 < n) = false := decide_eq_false h10
    have hn10 : n ≤ 10 := by omega
    obtain ⟨y0, y1, y2, y3, hly⟩ := recv_cells B1.bx
    go_wp2_with fail
    refine (few_any D l e 400 _ hl (by decide)).mono ?_
    rintro r w' ⟨rfl, rfl⟩
    cases hf : decide (l ≤ 40 ∨ 400 < l ∧ l ≤ 400 + 2)
    · go_wp2_with fail
      go_ret
      exact ⟨rfl, B1.below⟩
    · have hl4 : l ≤ 402 := by have := of_decide_eq_true hf; omega
      obtain ⟨g0', g1', hlg⟩ := two_cells B1.bg
      clear hf
      go_wp2_with fail
      refine (within_any g0 41 200 _).mono ?_
      rintro r w' ⟨rfl, rfl⟩
      cases hw : withinB g0 41 200
      · clear hw
        go_wp2_with fail
        clear t1 t1' h10
        go_loop [7] (fun i => ∃ j : Nat, j ≤ n ∧ i = .int .i64 j ∧ Hid (∀ i, i < j → L i ≤ 40)) (fun i => n - (intOf i).toNat)
        case atStart => exact ⟨0, Nat.zero_le _, rfl, hide (fun i h => absurd h (Nat.not_lt_zero i))⟩
        case round =>
          obtain ⟨j, hj, rfl, HL⟩ := hrel
          by_cases hlt : j < n
          · have hltz : (j : Int) < (n : Int) := by omega
            obtain ⟨ba, oa, Aa, ca, rfl, -, hla, ha0, ha1, ha2, -⟩ := B1.hP j hlt
            by_cases h40 : 40 < L j
            · have t4 : decide ((40 : Int) < (L j : Int)) = true := decide_eq_true (by omega)
              have t4' : decide (40 < L j) = true := decide_eq_true h40
              go_wp2_with fail
              go_ret
              exact ⟨rfl, B1.below⟩
            · have t4 : decide ((40 : Int) < (L j : Int)) = false := decide_eq_false (by omega)
              have t4' : decide (40 < L j) = false := decide_eq_false h40
              have hL40 : L j ≤ 40 := by omega
              go_wp2_with fail
              go_round
              case rel => exact ⟨j + 1, by omega, by go_num, hide (fun i hi => by
                by_cases e : i < j
                · exact HL.out i e
                · obtain rfl : i = j := by omega
                  exact hL40)⟩
              case measure => simp [intOf]; omega
          · obtain rfl : j = n := by omega
            have HL9 := hide (fun i (hi : i < j) => (by have := HL.out i hi; omega : L i ≤ 100000))
            go_wp2_with fail
            clear z0 z1 hlz y0 y1 y2 y3 hly
            refine (Begin_any g0 g1 _).mono ?_
            intro r w2 hres
            obtain ⟨D2, c2, rfl, hP2, hb2⟩ := GaveBufs.form hres
            have B2 := B1.kept hb2
            have HE0 := hide (show beginErrI g0 g1 = 0 → g0.toNat ≤ 200 ∧ g1.toNat ≤ 8 from fun h => by
              unfold beginErrI at h
              by_cases hh : withinB g0 1 200 = true ∧ withinB g1 1 8 = true
              · have := withinB_of hh.1
                have := withinB_of hh.2
                omega
              · rw [if_neg hh] at h; exact absurd h (by decide))
            have HBR := hide (fun W => (BeginR_any g0 g1 W).mono (fun r w' h => GaveBufs.form h))
            obtain ⟨E0, hE0⟩ : ∃ z, z = beginErrI g0 g1 := ⟨_, rfl⟩
            rw [← hE0] at HE0 HBR hP2 ⊢
            have HNN := hide (show (if E0 = 0 then g1.toNat else 0) ≤ 9223372036854775807 ∧ ∀ i, i < (if E0 = 0 then g1.toNat else 0) → g0.toNat ≤ 100000 from by
              by_cases h0 : E0 = 0
              · have := HE0.out h0
                rw [if_pos h0]
                exact ⟨by omega, fun _ _ => by omega⟩
              · rw [if_neg h0]
                exact ⟨by omega, fun i hi => absurd hi (Nat.not_lt_zero i)⟩)
            obtain ⟨LN, hLN⟩ : ∃ z, z = (if E0 = 0 then g0 else 0) := ⟨_, rfl⟩
            obtain ⟨NN, hNN⟩ : ∃ z, z = (if E0 = 0 then g1.toNat else 0) := ⟨_, rfl⟩
            rw [← hLN] at HBR ⊢
            rw [← hNN] at HBR HNN hP2 ⊢
            clear hLN hNN hres hE0 HE0 hb2
            go_upto_region 11 with fail
            obtain ⟨w3, hw3⟩ : ∃ x : World, x = w2.alloc (.cells #[.int .i64 LN, .slice D2 NN c2] 36) := ⟨_, rfl⟩
            rw [← hw3]
            have bn3 : Box w3 w2.heap.size 36 #[.int .i64 LN, .slice D2 NN c2] := by rw [hw3]; exact Box.made rfl
            have hb23 : Below w2.heap.size w2 w3 := by rw [hw3]; exact (Below.refl _ _).alloc (Nat.le_refl _) _
            have B3 := B2.kept hb23
            have hP3 := hP2.below hb23
            clear hw3 hb23 B2 hP2 B1 g0' g1' hlg
            obtain ⟨g0', g1', hlg⟩ := two_cells B3.bg
            go_wp2_with fail
            refine (HBR.out _).mono ?_
            rintro r w4 ⟨D4, c4, rfl, hP4, hb4⟩
            have bn4 := bn3.below hb4
            have B4 := B3.kept hb4
            have hP34 := hP3.below hb4
            clear bn3 B3 hP3 hb4 g0' g1' hlg HBR
            go_upto_region 12 with fail
            obtain ⟨w5, hw5⟩ : ∃ x : World, x = w4.alloc (.cells #[.int .i64 LN, .slice D4 NN c4] 36) := ⟨_, rfl⟩
            rw [← hw5]
            have bw5 : Box w5 w4.heap.size 36 #[.int .i64 LN, .slice D4 NN c4] := by rw [hw5]; exact Box.made rfl
            have hb45 : Below w4.heap.size w4 w5 := by rw [hw5]; exact (Below.refl _ _).alloc (Nat.le_refl _) _
            have B5 := B4.kept hb45
            have bn5 := bn4.below hb45
            have hPn5 := (hP34.below hb45).weak (Nat.zero_le _)
            have hPw5 := (hP4.below hb45).weak (Nat.zero_le _)
            clear hw5 hb45 B4 bn4 hP34 hP4
            have te : (E0 != E0) = false := by simp
            obtain ⟨n0', n1', hln⟩ := bufs_cells bn5
            obtain ⟨m0', m1', hlm⟩ := bufs_cells bw5
            go_wp2_with fail
            refine (Same_ok LN D2 D4 NN c2 c4 _ _ _ _ _ HNN.out.1 HNN.out.2 hPn5 hPw5).mono ?_
            rintro r w6 ⟨rfl, hb6⟩
            have B6 := B5.kept hb6
            clear B5 bn5 bw5 hPn5 hPw5 hb6 te n0' n1' hln m0' m1' hlm HNN
            have HRV := hide (fun W A' c' A2 c2 hW hW2 => (Receive_any len p t v A' A2 j c' l c2 T K L S Sx W (by omega) HL9.out (by omega) hW hW2).mono (fun r w' h => GaveBufs.form h))
            obtain ⟨E3, hE3⟩ : ∃ z, z = recvErrI len j T K L S p t v l Sx := ⟨_, rfl⟩
            rw [← hE3] at HRV
            obtain ⟨LN3, hLN3⟩ : ∃ z, z = (if E3 = 0 then len else 0) := ⟨_, rfl⟩
            obtain ⟨NN3, hNN3⟩ : ∃ z, z = (if E3 = 0 then j else 0) := ⟨_, rfl⟩
            rw [← hLN3, ← hNN3] at HRV
            have HE3 := hide hE3
            have HLN3 := hide hLN3
            have HNN3 := hide hNN3
            have HP6 := hide B6.hP
            have HX6 := hide B6.hX
            clear hE3 hLN3 hNN3
            go_upto_region 14 with fail
            go_cut [12, 13, 72] (fun s12 s13 _ wc => ∃ gp Dh ch, s12 = .pointer (some ⟨gp, 0, none⟩) ∧ s13 = .int .i64 E3 ∧ Hid (Box wc gp 36 #[.int .i64 LN3, .slice Dh NN3 ch]) ∧ Hid (ProcsAt wc 0 Dh NN3 (setF T p.toNat t) (behK T K p.toNat t) L (behS T S p.toNat t (gatherF v.toNat len.toNat Sx l))) ∧ Below w6.heap.size w6 wc)
            case first =>
              skip
              obtain ⟨b0, b1, hlb⟩ := bufs_cells B6.bb
              obtain ⟨y0, y1, y2, y3, hly⟩ := recv_cells B6.bx
              have SOF := hide (fun W' (h : Below w6.heap.size w6 W') => (⟨(h.cell (p := ⟨w.heap.size, 0, none⟩) hlb).trans b0, (h.cell (p := ⟨w.heap.size, 1, none⟩) hlb).trans b1, (h.cell (p := ⟨w.heap.size + 1, 0, none⟩) hly).trans y0, (h.cell (p := ⟨w.heap.size + 1, 1, none⟩) hly).trans y1, (h.cell (p := ⟨w.heap.size + 1, 2, none⟩) hly).trans y2, (h.cell (p := ⟨w.heap.size + 1, 3, none⟩) hly).trans y3, h⟩ : W'.cell? ⟨w.heap.size, 0, none⟩ = some (.int .i64 len) ∧ W'.cell? ⟨w.heap.size, 1, none⟩ = some (.slice A j c) ∧ W'.cell? ⟨w.heap.size + 1, 0, none⟩ = some (.int .i64 p) ∧ W'.cell? ⟨w.heap.size + 1, 1, none⟩ = some (.int .i64 t) ∧ W'.cell? ⟨w.heap.size + 1, 2, none⟩ = some (.int .i64 v) ∧ W'.cell? ⟨w.heap.size + 1, 3, none⟩ = some (.slice D l e) ∧ Below w6.heap.size w6 W'))
              have KP := hide (fun W' (h : W'.cell? ⟨w.heap.size, 0, none⟩ = some (.int .i64 len) ∧ W'.cell? ⟨w.heap.size, 1, none⟩ = some (.slice A j c) ∧ W'.cell? ⟨w.heap.size + 1, 0, none⟩ = some (.int .i64 p) ∧ W'.cell? ⟨w.heap.size + 1, 1, none⟩ = some (.int .i64 t) ∧ W'.cell? ⟨w.heap.size + 1, 2, none⟩ = some (.int .i64 v) ∧ W'.cell? ⟨w.heap.size + 1, 3, none⟩ = some (.slice D l e) ∧ Below w6.heap.size w6 W') => HP6.out.below h.2.2.2.2.2.2)
              have KX := hide (fun W' (h : W'.cell? ⟨w.heap.size, 0, none⟩ = some (.int .i64 len) ∧ W'.cell? ⟨w.heap.size, 1, none⟩ = some (.slice A j c) ∧ W'.cell? ⟨w.heap.size + 1, 0, none⟩ = some (.int .i64 p) ∧ W'.cell? ⟨w.heap.size + 1, 1, none⟩ = some (.int .i64 t) ∧ W'.cell? ⟨w.heap.size + 1, 2, none⟩ = some (.int .i64 v) ∧ W'.cell? ⟨w.heap.size + 1, 3, none⟩ = some (.slice D l e) ∧ Below w6.heap.size w6 W') => HX6.out.below h.2.2.2.2.2.2)
              have bb0 : Below w6.heap.size w6 w6 := Below.refl _ _
              clear b0 b1 y0 y1 y2 y3
              go_region_held3 (fun w' => w'.cell? ⟨w.heap.size, 0, none⟩ = some (.int .i64 len) ∧ w'.cell? ⟨w.heap.size, 1, none⟩ = some (.slice A j c) ∧ w'.cell? ⟨w.heap.size + 1, 0, none⟩ = some (.int .i64 p) ∧ w'.cell? ⟨w.heap.size + 1, 1, none⟩ = some (.int .i64 t) ∧ w'.cell? ⟨w.heap.size + 1, 2, none⟩ = some (.int .i64 v) ∧ w'.cell? ⟨w.heap.size + 1, 3, none⟩ = some (.slice D l e) ∧ Below w6.heap.size w6 w')
                (first | assumption | exact SOF.out _ (by assumption) | exact SOF.out _ bb0.drew | exact SOF.out _ (below_drewN (by assumption) _) | exact SOF.out _ (ballocH (by assumption) (Nat.le_refl _) _) | exact SOF.out _ (ballocH bb0 (Nat.le_refl _) _).drew | exact SOF.out _ ((hs_wh.setCell hs_wg.size _).setCell hs_wg.size _) | exact SOF.out _ ((hs_wh.setCell hs_wf.size _).setCell hs_wf.size _) | exact SOF.out _ ((hs_wh.setCell (Nat.le_refl _) _).setCell (Nat.le_refl _) _))
                (first
                  | (go_at_call 18; refine (copyBuffers_any len A j c T K L S _ (by omega) HL9.out (KP.out _ (by assumption))).mono ?_; rintro r wf ⟨Df, cf, rfl, hPf, hbf⟩; have hs_wf : Below w6.heap.size w6 wf := bst6 hbf (by assumption) (Nat.le_refl _); (try (have bnA := (Box.made (w := w6.drew) rfl : Box _ w6.heap.size 36 #[.int .i64 0, .slice none 0 0]).below hbf)))
                  | (go_at_call 15; refine (copyInts_own D l e Sx _ (by omega) (KX.out _ (by assumption))).mono ?_; rintro r wg ⟨vg, rfl, howng, hbg⟩; obtain ⟨Ag, cg, rfl, hncg, hIg⟩ := howng.form; have hs_wg : Below w6.heap.size w6 wg := bst6 hbg (by assumption) (Nat.le_refl _); have hPg := hide (show ProcsAt wg 0 Df j T K L S from by first | exact (hPf.weak (Nat.zero_le _)).below hbg | exact ((hPf.weak (Nat.zero_le _)).alloc _).below hbg); (first | (have bnB := bnA.below hbg) | (have bnB := (Box.made (w := wf) rfl : Box _ wf.heap.size 36 #[.int .i64 0, .slice none 0 0]).below hbg) | skip))
                  | (go_at_call 17; refine (HRV.out _ Df cf Ag cg (by first | exact hPg.out | exact hPg.out.alloc _) (by first | exact hIg.weak (Nat.zero_le _) | exact (hIg.weak (Nat.zero_le _)).alloc _)).mono ?_; rintro r wh ⟨Dh, ch, rfl, hPh, hbh⟩; have hs_wh : Below w6.heap.size w6 wh := bst6 hbh (by assumption) (Nat.le_refl _); (first | (have bnC := bnB.below hbh) | (have bnC := (Box.made (w := wg) rfl : Box _ wg.heap.size 36 #[.int .i64 0, .slice none 0 0]).below hbh) | skip); (try (have n0 := bnC.at_ 0; have n1 := bnC.at_ 1; have nf0 := bnC.free 0; have nf1 := bnC.free 1; simp at n0 n1))))
              all_goals
                go_wp2_with fail
                go_meet
                case rel =>
                  first
                    | exact ⟨_, Dh, ch, rfl, rfl, hide (Box.made rfl), hide ((hPh.weak (Nat.zero_le _)).alloc _), hs_wh.alloc hs_wh.size _⟩
                    | exact ⟨_, Dh, ch, rfl, rfl, hide ((bnC.set_ 0 (.int .i64 LN3)).set_ 1 (.slice Dh NN3 ch)), hide (((hPh.only bnB.lt ((Only.refl _ wh).set_ 0 _)).only bnB.lt ((Only.refl _ _).set_ 1 _)).weak (Nat.zero_le _)), (hs_wh.setCell hs_wf.size _).setCell hs_wf.size _⟩
                    | exact ⟨_, Dh, ch, rfl, rfl, hide ((bnC.set_ 0 (.int .i64 LN3)).set_ 1 (.slice Dh NN3 ch)), hide (((hPh.only bnB.lt ((Only.refl _ wh).set_ 0 _)).only bnB.lt ((Only.refl _ _).set_ 1 _)).weak (Nat.zero_le _)), (hs_wh.setCell (Nat.le_refl _) _).setCell (Nat.le_refl _) _⟩
                    | exact ⟨_, Dh, ch, rfl, rfl, hide ((bnC.set_ 0 (.int .i64 LN3)).set_ 1 (.slice Dh NN3 ch)), hide (((hPh.only (by simp) ((Only.refl _ wh).set_ 0 _)).only (by simp) ((Only.refl _ _).set_ 1 _)).weak (Nat.zero_le _)), (hs_wh.setCell hs_wg.size _).setCell hs_wg.size _⟩
            case rest =>
              obtain ⟨gp, Dh, ch, rfl, rfl, HBN, HPN, hbec⟩ := hcut
              obtain ⟨w7, rfl⟩ : ∃ x : World, x = wc := ⟨_, rfl⟩
              have B7 := B6.kept hbec
              clear B6 HP6 HX6 HRV hbec
              obtain ⟨b0, b1, hlb⟩ := bufs_cells B7.bb
              go_wp2_with fail
              refine (buffersErrR_any len A j c T K L S _ (by omega) HL9.out B7.hP).mono ?_
              rintro r w8 ⟨rfl, hb8⟩
              have B8 := B7.kept hb8
              have HBN8 := hide (HBN.out.below hb8)
              have HPN8 := hide (HPN.out.below hb8)
              clear B7 HBN HPN hb8 b0 b1 hlb
              obtain ⟨Rb, hRb⟩ : ∃ z, z = bufErrI len j T K L S := ⟨_, rfl⟩
              obtain ⟨Rr, hRr⟩ : ∃ z, z = recepErrI j p t v l Sx := ⟨_, rfl⟩
              have HER := hide (fun W hW => receivedErrR_any len p t v A D j c l e Sx W (by omega) hl hW)
              rw [← hRb]
              rw [← hRr] at HER
              have HE1 := hide (show firstE [bufErrI len j T K L S, recepErrI j p t v l Sx] = if Rb = 0 then Rr else Rb from by
                rw [← hRb, ← hRr, firstE_cons, firstE_cons, firstE_nil]
                by_cases h : Rr = 0
                · rw [if_pos h, h]
                · rw [if_neg h])
              clear hRb hRr
              obtain ⟨b0, b1, hlb⟩ := bufs_cells B8.bb
              obtain ⟨y0, y1, y2, y3, hly⟩ := recv_cells B8.bx
              go_upto_if 91 with fail
              go_cut [11] (fun s wx => s = .int .i64 (if Rb = 0 then Rr else Rb) ∧ Below w8.heap.size w8 wx)
              case first =>
                by_cases hb : Rb = 0
                · have tr := (show (Rb == 0) = true from by simpa using hb)
                  have HB0 := hide hb
                  clear hb
                  go_wp2_with fail
                  refine (HER.out _ B8.hX).mono ?_
                  rintro r wy ⟨rfl, hby⟩
                  go_wp2_with fail
                  go_meet
                  case rel => exact ⟨by rw [if_pos HB0.out], hby⟩
                · have tr := (show (Rb == 0) = false from by simpa using hb)
                  have HB0 := hide hb
                  clear hb
                  go_wp2_with fail
                  go_meet
                  case rel => exact ⟨by rw [if_neg HB0.out], Below.refl _ _⟩
              case rest =>
                obtain ⟨rfl, hbx⟩ := hcut
                obtain ⟨w9, rfl⟩ : ∃ x : World, x = wc := ⟨_, rfl⟩
                have B9 := B8.kept hbx
                have HBN9 := hide (HBN8.out.below hbx)
                have HPN9 := hide (HPN8.out.below hbx)
                clear B8 HBN8 HPN8 hbx b0 b1 hlb y0 y1 y2 y3 hly HER
                obtain ⟨E1, hE1⟩ : ∃ z, z = (if Rb = 0 then Rr else Rb) := ⟨_, rfl⟩
                rw [← hE1] at HE1 ⊢
                clear hE1
                obtain ⟨b0, b1, hlb⟩ := bufs_cells B9.bb
                obtain ⟨y0, y1, y2, y3, hly⟩ := recv_cells B9.bx
                by_cases hz : E1 = 0
                · have tz : (E1 == 0) = true := by simpa using hz
                  obtain ⟨q, a, b, rfl, rfl, rfl, q1, q9, n0, n8, han, b3, l0, l4, -, hLq, hSx, hpe⟩ := recv_right (HE1.out.trans hz)
                  simp only [Int.toNat_natCast] at HPN9
                  have e3 : behErrI q T K S a t (gatherF b q Sx l) = E3 := by
                    rw [HE3.out]; unfold recvErrI; rw [if_pos (HE1.out.trans hz)]; simp only [Int.toNat_natCast]
                  have HRR := hide (fun W hW hW2 => (ReceiveR_ok q a b t A D j c l e T K L S Sx W q1 q9 n0 n8 han b3 l0 l4 hLq hSx hpe hW hW2).mono (fun r w' h => GaveBufs.form h))
                  rw [e3, ← HLN3.out, ← HNN3.out] at HRR
                  have HN3 := hide (show NN3 ≤ 9223372036854775807 ∧ ∀ i, i < NN3 → L i ≤ 100000 from by
                    rw [HNN3.out]
                    split
                    · exact ⟨by omega, fun i hi => HL9.out i hi⟩
                    · exact ⟨by omega, fun i hi => absurd hi (Nat.not_lt_zero i)⟩)
                  have te : (E3 == E3) = true := by simp
                  clear hz e3 hLq hSx hpe
                  go_upto_region 20 with fail
                  obtain ⟨w10, hw10⟩ : ∃ x : World, x = w9.alloc (.cells #[.int .i64 0, .slice none 0 0] 36) := ⟨_, rfl⟩
                  rw [← hw10]
                  have bh10 : Box w10 w9.heap.size 36 #[.int .i64 0, .slice none 0 0] := by rw [hw10]; exact Box.made rfl
                  have hb10 : Below w9.heap.size w9 w10 := by rw [hw10]; exact (Below.refl _ _).alloc (Nat.le_refl _) _
                  have B10 := B9.kept hb10
                  have hs10 : w9.heap.size < w10.heap.size := bh10.lt
                  clear hw10 b0 b1 hlb y0 y1 y2 y3 hly
                  obtain ⟨b0, b1, hlb⟩ := bufs_cells B10.bb
                  obtain ⟨y0, y1, y2, y3, hly⟩ := recv_cells B10.bx
                  go_wp2_with fail
                  refine (HRR.out _ B10.hP B10.hX).mono ?_
                  rintro r w11 ⟨D5, c5, rfl, hP5, hb11⟩
                  have bh11 := bh10.below hb11
                  have hb911 : Below w9.heap.size w9 w11 := hb10.trans (hb11.mono hb10.size)
                  have HP5 := hide hP5
                  have HBH := hide bh11
                  clear b0 b1 hlb y0 y1 y2 y3 hly bh10 hb10 hb11 HRR hP5
                  obtain ⟨h0, h1, hlh⟩ := bufs_cells bh11
                  have fh0 := bh11.free 0
                  have fh1 := bh11.free 1
                  go_upto_region 21 with fail
                  have bh12 := (HBH.out.set_ 0 (.int .i64 LN3)).set_ 1 (.slice D5 NN3 c5)
                  have hb912 := (hb911.setCell (p := ⟨w9.heap.size, 0, none⟩) (Nat.le_refl _) (.int .i64 LN3)).setCell (p := ⟨w9.heap.size, 1, none⟩) (Nat.le_refl _) (.slice D5 NN3 c5)
                  have HP52 := hide ((HP5.out.only hs10 (((Only.refl w9.heap.size w11).set_ 0 (.int .i64 LN3)).set_ 1 (.slice D5 NN3 c5))).weak (Nat.zero_le _))
                  clear h0 h1 hlh fh0 fh1 bh11 HBH HP5 hb911
                  generalize (w11.setCell ⟨w9.heap.size, 0, none⟩ (.int .i64 LN3)).setCell ⟨w9.heap.size, 1, none⟩ (.slice D5 NN3 c5) = w12 at *
                  have bn12 := HBN9.out.below hb912
                  have HPH := hide (HPN9.out.below hb912)
                  have hB12 := B9.below.trans (hb912.mono B9.below.size)
                  obtain ⟨h0, h1, hlh⟩ := bufs_cells bh12
                  obtain ⟨n0', n1', hln⟩ := bufs_cells bn12
                  go_wp2_with fail
                  refine (Same_ok LN3 Dh D5 NN3 ch c5 _ _ _ _ _ HN3.out.1 HN3.out.2 HPH.out HP52.out).mono ?_
                  rintro r w13 ⟨rfl, hb13⟩
                  go_wp2_with fail
                  go_ret
                  exact ⟨rfl, hB12.trans (hb13.mono hB12.size)⟩
                · have tz : (E1 == 0) = false := by simpa using hz
                  have e3 : E3 = E1 := by rw [HE3.out]; unfold recvErrI; rw [HE1.out, if_neg hz]
                  have hl3 : LN3 = 0 := by rw [HLN3.out, e3, if_neg hz]
                  have hn3 : NN3 = 0 := by rw [HNN3.out, e3, if_neg hz]
                  have HE := hide e3
                  have te : (E3 == E1) = true := by rw [e3]; simp
                  clear e3 hz HLN3 HNN3 HE3
                  subst hl3
                  subst hn3
                  obtain ⟨n0', n1', hln⟩ := bufs_cells HBN9.out
                  go_wp2_with fail
                  refine (Same_ok 0 Dh none 0 ch 0 T K L S _ (by decide) (fun i h => absurd h (Nat.not_lt_zero i)) ProcsAt.nil_ ProcsAt.nil_).mono ?_
                  rintro r w13 ⟨rfl, hb13⟩
                  go_wp2_with fail
                  go_ret
                  exact ⟨rfl, (B9.below.alloc B9.below.size _).trans (hb13.mono (by have := B9.below.size; simp; omega))⟩
      · go_wp2_with fail
        go_ret
        exact ⟨rfl, B1.below⟩
end Go.Proofs.Ytnglmfdcnoglhaa
