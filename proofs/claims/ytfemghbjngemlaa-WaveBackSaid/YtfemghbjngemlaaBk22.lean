/- Lemmas: Av, Aw. -/
import Derived.Laws.MakeOwn
import Derived.Laws.OwnMore
import Derived.OwnWalk
import Derived.Test.YtfemghbjngemlaaBk02
import Derived.Test.YtfemghbjngemlaaBk04
import Derived.Test.YtfemghbjngemlaaBk20
import Derived.Test.YtfemghbjngemlaaBk21
set_option linter.unusedVariables false
set_option linter.unusedSimpArgs false
/- Errors of streams, of both sides. -/
namespace Go.Proofs.Ytfemghbjngemlaa
open Go.RowKit Go.Great
/-- The error of symbols, and of a stream. -/
def symsE (F : Nat → Nat → Gau) (n : Nat) : Int := badE (fun i => gausE 10000 (F i) 8) n
def strE (n : Nat) (F : Nat → Nat → Gau) (g : Int) : Int := firstE [unI (decide (0 < n)) 10, unI (decide ((n : Int) ≤ 6)) 8, symsE F n, unI (withinB g 0 7) 2]
theorem strE_zero {n : Nat} {F : Nat → Nat → Gau} {g : Int} (h : strE n F g = 0) : 0 < n ∧ n ≤ 6 ∧ (∀ i, i < n → gausE 10000 (F i) 8 = 0) ∧ 0 ≤ g ∧ g ≤ 7 := by
  unfold strE at h
  obtain ⟨h1, h⟩ := firstE_nil h
  obtain ⟨h2, h⟩ := firstE_nil h
  obtain ⟨h3, h⟩ := firstE_nil h
  obtain ⟨h4, -⟩ := firstE_nil h
  have h1 := of_decide_eq_true (unI_zero (by decide) h1)
  have h2 := of_decide_eq_true (unI_zero (by decide) h2)
  have h4 := withinB_iff.1 (unI_zero (by decide) h4)
  exact ⟨h1, by omega, fun i hi => badE_zero h3 i hi, h4.1, h4.2⟩
set_option maxHeartbeats 400000 in
theorem guardError_any (n : Int) (w : World) :
    Calls Try.prog 64 #[.int .i64 n] w fun e w' => e = .returned (.int .i64 (unI (withinB n 0 7) 2)) ∧ w = w' := by
  go_enter Try.func64, Try.ntmps64
  go_wp2_with (first | (go_at_call 66; refine (isWithin_any _ _ _ _).mono ?_; rintro e w' ⟨rfl, rfl⟩) | (go_at_call 61; refine (unless_any _ _ _).mono ?_; rintro e w' ⟨rfl, rfl⟩))
  go_ret
  exact ⟨rfl, rfl⟩
set_option maxHeartbeats 400000 in
theorem guardErrR_any (n : Int) (w : World) :
    Calls Try.prog 32 #[.int .i64 n] w fun e w' => e = .returned (.int .i64 (unI (withinB n 0 7) 2)) ∧ w = w' := by
  have HX := hide (fun W => within_any n 0 7 W)
  generalize withinB n 0 7 = b at *
  go_enter Try.func32, Try.ntmps32
  cases b
  · go_wp2_with (go_at_call 57; refine (HX.out _).mono ?_; rintro e w' ⟨rfl, rfl⟩)
    go_ret
    exact ⟨rfl, rfl⟩
  · go_wp2_with (go_at_call 57; refine (HX.out _).mono ?_; rintro e w' ⟨rfl, rfl⟩)
    go_ret
    exact ⟨rfl, rfl⟩
set_option maxHeartbeats 2000000 in
set_option maxRecDepth 100000 in
theorem Stream1_any (F : Nat → Gau) (w : World) :
    Calls Try.prog 63 #[.agg (arrG8 F)] w fun e w' => e = .returned (.int .i64 (gausE 10000 F 8)) ∧ Below w.heap.size w w' := by
  have HEE := hide (fun A W (h : GausAt W 0 A 8 F) => entriesError_any A 8 8 F W (by decide) h)
  generalize gausE 10000 F 8 = E at *
  go_enter Try.func63, Try.ntmps63
  go_upto_region 1 with (refine wpList_boxTo rfl 24 (.tmp 0) rfl _ rfl w.heap.size rfl (arrG8 F) rfl ?_; obtain ⟨W0, hW0⟩ : ∃ q : World, w.alloc (.cells (arrG8 F) 24) = q := ⟨_, rfl⟩; rw [hW0])
  have x0 : ArrG8 W0 w.heap.size F := by rw [← hW0]; exact ArrG8.at_alloc w _ _ rfl
  have hB0 : Below w.heap.size w W0 := by rw [← hW0]; (repeat (first | (with_reducible exact Below.refl _ _) | (with_reducible refine Go.below_drewN ?_ _) | (with_reducible refine Below.drew ?_) | (with_reducible refine Below.alloc ?_ (by first | exact Nat.le_refl _ | (simp; done) | (simp; omega) | omega) _) | (with_reducible refine Below.setCell ?_ (by first | exact Nat.le_refl _ | (simp; done) | (simp; omega) | omega) _)))
  clear hW0
  go_wp2_with fail
  refine (HEE.out _ _ x0.slice).mono ?_
  rintro e w2 ⟨rfl, hb2⟩
  go_wp2_with fail
  go_ret
  exact ⟨rfl, hB0.trans (hb2.mono hB0.size)⟩
set_option maxHeartbeats 4000000 in
set_option maxRecDepth 100000 in
theorem firstWrong_syms (A : Option Addr) (n c : Nat) (F : Nat → Nat → Gau) (w : World) (hn : n ≤ 100000) (hI : SymsAt w 0 A n F) :
    Calls Try.prog 89 #[.slice A n c, .func (.func 63) #[] #[]] w fun e w' => e = .returned (.tuple #[.int .i64 (badI (fun i => gausE 10000 (F i) 8) n : Nat), .int .i64 (symsE F n)]) ∧ Below w.heap.size w w' := by
  have eg := enters_of Try.func63 (by kernel_rfl) rfl
  have HP := hide (fun i W => Stream1_any (F i) W)
  have HI := hide hI
  clear hI
  unfold symsE
  go_enter Try.func89, Try.ntmps89
  go_wp2_with fail
  go_loopg [11] n (fun gg s wr => ∃ k : Nat, k ≤ n ∧ n - k ≤ gg ∧ s = .int .i64 (k : Int) ∧ Hid (badE (fun i => gausE 10000 (F i) 8) k = 0) ∧ Below w.heap.size w wr)
  case atStart => exact ⟨0, Nat.zero_le _, by omega, rfl, hide rfl, Below.refl _ _⟩
  case round =>
    obtain ⟨k, hk, hg, rfl, HZ, hB⟩ := hrel
    obtain ⟨wA, rfl⟩ : ∃ x : World, x = wr := ⟨_, rfl⟩
    have hBs := hB.size
    by_cases hlt : k < n
    · have hltz : (k : Int) < (n : Int) := by omega
      have HSA := hide (HI.out.below hB)
      obtain ⟨b, o, rfl, -, hb, -⟩ := HSA.out k hlt
      have HQ := hide (show gausE 10000 (F k) 8 ≠ 0 → badE (fun i => gausE 10000 (F i) 8) n = gausE 10000 (F k) 8 ∧ badI (fun i => gausE 10000 (F i) 8) n = k from fun h => ⟨badE_at (g := fun i => gausE 10000 (F i) 8) HZ.out h n hlt, badI_at (g := fun i => gausE 10000 (F i) 8) HZ.out h n hlt⟩)
      have HN := hide (show gausE 10000 (F k) 8 = 0 → badE (fun i => gausE 10000 (F i) 8) (k + 1) = 0 from fun h => by rw [badE_succ HZ.out]; exact h)
      have HC := hide (HP.out k)
      generalize gausE 10000 (F k) 8 = r at HQ HN HC
      obtain ⟨g7, hg7⟩ : ∃ z, wA.heap.size = z := ⟨_, rfl⟩
      go_upto_region 4 with (first
        | (refine wpList_storeG8 rfl (.tmp 7) (.tmp 15) rfl g7 (fun _ => Gau.zero) (F k) rfl rfl (ArrG8.at_alloc _ _ _ hg7.symm) ?_; intro W1 r1 o1)
        | (refine wpList_allocTo rfl (some 7) rfl (.pointer (some ⟨g7, 0, none⟩)) (.cells (arrG8 fun _ => Gau.zero) 24) (by rw [← hg7]; kernel_rfl) ?_)
        | (refine wpList_loadRow8 rfl (.tmp 14) rfl b o 0 n k F rfl HSA.out hlt ?_))
      have hc1 : Below wA.heap.size wA W1 := ((Below.refl _ _).alloc (Nat.le_refl _) _).trans (o1.to_below (by omega) (by simp))
      have hB1 := hB.trans (hc1.mono hB.size)
      have HR := hide r1
      clear hc1 o1 hg7 hB hb HSA r1
      by_cases hr : r = 0
      · have HN2 := hide (HN.out hr)
        subst hr
        clear HQ HN
        go_wp2_with (first
          | (refine wpList_loadG8 rfl (.tmp 7) rfl g7 (F k) rfl HR.out ?_)
          | (go_at_call 63; refine (HC.out _).mono ?_; rintro e w2 ⟨rfl, hb2⟩))
        go_roundg (n - (k + 1))
        case measure => omega
        case rel => exact ⟨k + 1, by omega, by omega, by go_num, HN2, hB1.trans (hb2.mono hB1.size)⟩
      · have t1 : (r != 0) = true := by simpa using hr
        have HQ2 := hide (HQ.out hr)
        clear HQ HN hr
        go_wp2_with (first
          | (refine wpList_loadG8 rfl (.tmp 7) rfl g7 (F k) rfl HR.out ?_)
          | (go_at_call 63; refine (HC.out _).mono ?_; rintro e w2 ⟨rfl, hb2⟩))
        go_ret2
        exact ⟨by rw [HQ2.out.1, HQ2.out.2]; rfl, hB1.trans (hb2.mono hB1.size)⟩
    · obtain rfl : k = n := by omega
      go_wp2_with fail
      go_ret2
      exact ⟨by rw [HZ.out, badI_zero HZ.out]; rfl, hB⟩
set_option maxHeartbeats 1000000 in
theorem itemsError_syms (A : Option Addr) (n c : Nat) (F : Nat → Nat → Gau) (w : World) (hn : n ≤ 100000) (hI : SymsAt w 0 A n F) :
    Calls Try.prog 62 #[.slice A n c, .func (.func 63) #[] #[]] w fun e w' => e = .returned (.int .i64 (symsE F n)) ∧ Below w.heap.size w w' := by
  have HX := hide (firstWrong_syms A n c F w hn hI)
  clear hI
  go_enter Try.func62, Try.ntmps62
  go_wp2_with (go_at_call 89; refine HX.out.mono ?_; rintro e w' ⟨rfl, hb1⟩)
  go_ret
  exact ⟨rfl, hb1⟩
theorem firstE_cons_ne {a : Int} {r : List Int} (h : a ≠ 0) : firstE (a :: r) = a := by rw [firstE, if_neg h]
theorem firstE_cons_zero {r : List Int} : firstE (0 :: r) = firstE r := by rw [firstE, if_pos rfl]
set_option maxHeartbeats 4000000 in
set_option maxRecDepth 100000 in
theorem streamErrR_any (A : Option Addr) (n c : Nat) (F : Nat → Nat → Gau) (g : Int) (w : World) (hn : n ≤ 100000) (hI : SymsAt w 0 A n F) :
    Calls Try.prog 28 #[.slice A n c, .int .i64 g] w fun e w' => e = .returned (.int .i64 (strE n F g)) ∧ Below w.heap.size w w' := by
  have HI := hide hI
  clear hI
  by_cases h0 : n = 0
  · have t0 : ((n : Int) == 0) = true := by simp; omega
    have hV : strE n F g = 10 := by subst h0; rfl
    rw [hV]
    subst h0
    clear HI hn
    go_enter Try.func28, Try.ntmps28
    go_wp2_with fail
    go_ret
    exact ⟨rfl, Below.refl _ _⟩
  have t0 : ((n : Int) == 0) = false := by simp; omega
  by_cases h6 : 6 < n
  · have hz : (n : Int) > 6 := by omega
    have hV : strE n F g = 8 := by
      unfold strE
      rw [show decide (0 < n) = true by simp; omega, show decide ((n : Int) ≤ 6) = false by simp; omega]
      rfl
    rw [hV]
    clear HI h6
    go_enter Try.func28, Try.ntmps28
    go_wp2_with fail
    go_ret
    exact ⟨rfl, Below.refl _ _⟩
  have hz : ¬ (n : Int) > 6 := by omega
  have hV : strE n F g = if symsE F n = 0 then unI (withinB g 0 7) 2 else symsE F n := by
    unfold strE
    rw [show decide (0 < n) = true by simp; omega, show decide ((n : Int) ≤ 6) = true by simp; omega]
    show firstE [0, 0, symsE F n, unI (withinB g 0 7) 2] = _
    rw [firstE_cons_zero, firstE_cons_zero]
    by_cases h : symsE F n = 0
    · rw [if_pos h, h, firstE_cons_zero]
      by_cases h2 : unI (withinB g 0 7) 2 = 0
      · rw [h2, firstE_cons_zero]; rfl
      · rw [firstE_cons_ne h2]
    · rw [if_neg h, firstE_cons_ne h]
  rw [hV]
  have HE := hide (fun X W i (h : GausAt W 0 X 8 (F i)) => entriesErrR_any X 8 8 (F i) W (by decide) h)
  have HG := hide (fun W => guardErrR_any g W)
  generalize unI (withinB g 0 7) 2 = u at *
  clear hV
  obtain ⟨Z, hZ⟩ : ∃ z, (if symsE F n = 0 then u else symsE F n) = z := ⟨_, rfl⟩
  rw [hZ]
  have HVZ := hide (show (if badE (fun i => gausE 10000 (F i) 8) n = 0 then u else badE (fun i => gausE 10000 (F i) 8) n) = Z from hZ)
  clear hZ
  go_enter Try.func28, Try.ntmps28
  go_wp2_with fail
  go_loopg [5, 6] n (fun gg s s6 wr => ∃ k : Nat, k ≤ n ∧ n - k ≤ gg ∧ s = .int .i64 (k : Int) ∧ Hid (badE (fun i => gausE 10000 (F i) 8) k = 0) ∧ Below w.heap.size w wr)
  case atStart => exact ⟨0, Nat.zero_le _, by omega, rfl, hide rfl, Below.refl _ _⟩
  case round =>
    obtain ⟨k, hk, hg, rfl, HZ, hB⟩ := hrel
    obtain ⟨wA, rfl⟩ : ∃ x : World, x = wr := ⟨_, rfl⟩
    by_cases hlt : k < n
    · have hltz : (k : Int) < (n : Int) := by omega
      have HSA := hide (HI.out.below hB)
      obtain ⟨b, o, rfl, -, hb, -⟩ := HSA.out k hlt
      have HQ := hide (show gausE 10000 (F k) 8 ≠ 0 → badE (fun i => gausE 10000 (F i) 8) n = gausE 10000 (F k) 8 from fun h => badE_at (g := fun i => gausE 10000 (F i) 8) HZ.out h n hlt)
      have HN := hide (show gausE 10000 (F k) 8 = 0 → badE (fun i => gausE 10000 (F i) 8) (k + 1) = 0 from fun h => by rw [badE_succ HZ.out]; exact h)
      have HC := hide (HE.out (some ⟨b, o + k * 16, none⟩) wA k (HSA.out.row hlt))
      generalize gausE 10000 (F k) 8 = r at HQ HN HC
      clear hb HSA
      go_upto_region 9 with (go_at_call 12; refine HC.out.mono ?_; rintro e w2 ⟨rfl, hb2⟩)
      have hB2 := hB.trans (hb2.mono hB.size)
      clear hb2 hB HC
      by_cases hr : r = 0
      · have HN2 := hide (HN.out hr)
        subst hr
        clear HQ HN
        go_wp2_with fail
        go_roundg (n - (k + 1))
        case measure => omega
        case rel => exact ⟨k + 1, by omega, by omega, by go_num, HN2, hB2⟩
      · have t1 : (r != 0) = true := by simpa using hr
        have hQ2 := HQ.out hr
        have hZr : Z = r := by rw [← HVZ.out, hQ2, if_neg hr]
        subst hZr
        clear HQ HN hr hQ2 HVZ
        go_wp2_with fail
        go_ret
        exact ⟨rfl, hB2⟩
    · obtain rfl : k = n := by omega
      have hZu : Z = u := by rw [← HVZ.out, if_pos HZ.out]
      subst hZu
      go_wp2_with (go_at_call 32; refine (HG.out _).mono ?_; rintro e w2 ⟨rfl, rfl⟩)
      go_ret
      exact ⟨rfl, hB⟩
end Go.Proofs.Ytfemghbjngemlaa
/- Stream of the code and of the reference. -/
namespace Go.Proofs.Ytfemghbjngemlaa
open Go.RowKit Go.Great
set_option maxRecDepth 100000 in
theorem run_append_numsG (w : World) (ty : TypeId) (base lo : Nat) (v : Value) (n : Nat) (F : Nat → Num) (hown : OwnNums w base v n F)
    (A : Option Addr) (m c : Nat) (G : Nat → Num) (hr : NumsAt w lo A m G) (hnm : n + m ≤ 100000000) (hbase : base ≤ w.heap.size) :
    ∃ v' w', (Builtin.append_ #[39, 39] ty #[v, .slice A m c]).run Try.prog w = .ok v' w' ∧ OwnNums w' base v' (n + m) (catN n F G) ∧ Below base w w' ∧ w.grownBy w' v.ownBlock ∧ (v'.ownBlock = v.ownBlock ∨ v'.ownBlock = some w.heap.size) := by
  obtain ⟨i0, hi, hz0, hz1, hz2⟩ := info_parts numInfo
  cases A with
  | none =>
    have hm : m = 0 := by
      rcases Nat.eq_zero_or_pos m with h0 | h0
      · exact h0
      · obtain ⟨b, o, e, -⟩ := hr 0 h0
        cases e
    subst hm
    have hrun : (Builtin.append_ #[39, 39] ty #[v, .slice none 0 c]).run Try.prog w = .ok v w := by
      rcases hown.2 with ⟨rfl, -⟩ | ⟨g, cap, cur, rfl, -, -, hnc, -⟩
      · simp [Builtin.append_, run_underlying Try.underlying39, sizeOf, typeInfo, hi, Builtin.lenOf, Builtin.firstCells]
      · simp [Builtin.append_, run_underlying Try.underlying39, sizeOf, typeInfo, hi, Builtin.lenOf, Builtin.firstCells, hnc, storeCells]
    exact ⟨v, w, hrun, OwnNums.congr (F := F) hown fun j hj => by unfold catN; rw [if_pos (show j < n by omega)], Below.refl _ _, ⟨rfl, rfl, rfl, Nat.le_refl _, fun _ _ _ => rfl⟩, .inl rfl⟩
  | some ad =>
    obtain ⟨v', w', hrun, hown', hg, -, hob⟩ := run_append_own_at (P := Try.prog) w base 39 ty 26 i0 (.agg #[.int .i64 0, .int .i64 0, .int .i64 0, .int .i64 0]) 4 32 Try.underlying39 hi hz0 hz1 hz2 rfl (by decide) v n _ hown ad m c (numVals m G) (by rw [numVals_len])
      (fun j u hu => by
        rw [numVals_get] at hu
        split at hu
        · rename_i hj
          obtain ⟨b, o, e, hc⟩ := hr.part hj
          injection e with e
          subst e
          injection hu with hu
          subst hu
          rw [Addr.add_lit]
          exact hc
        · cases hu)
      (fun u hu => by
        obtain ⟨j, -, rfl⟩ := List.mem_map.1 hu
        rfl) (by unfold maxLen; omega) (by omega) hbase
    rw [numVals_cat] at hown'
    exact ⟨v', w', hrun, hown', (Below.refl _ _).grown hg hbase (fun k hk => (World.ownsRow.lt hown k hk).1), hg, hob⟩
theorem wp_append_numsG {o : Oper} {a : Act} {K : Act → World → Prop} {Q : Exit → Act → World → Prop} (w : World) (s x : Operand)
    (ho : o.op = .call { callee := .builtin .append, args := #[s, x], argTypes := #[39, 39] })
    (base lo : Nat) (v : Value) (n : Nat) (F : Nat → Num) (hs : a.eval s = v) (hown : OwnNums w base v n F)
    (A : Option Addr) (m c : Nat) (G : Nat → Num) (hx : a.eval x = .slice A m c) (hr : NumsAt w lo A m G) (hnm : n + m ≤ 100000000) (hbase : base ≤ w.heap.size)
    (h : ∀ v' w', OwnNums w' base v' (n + m) (catN n F G) → Below base w w' → w.grownBy w' v.ownBlock → (v'.ownBlock = v.ownBlock ∨ v'.ownBlock = some w.heap.size) → K (a.put o.dst v') w') : o.wp Try.prog a w K Q := by
  obtain ⟨v', w', hrun, h1, h2, h3, h4⟩ := run_append_numsG w o.type base lo v n F hown A m c G hr hnm hbase
  unfold Oper.wp execOp
  simp only [ho, resolve, invoke, builtin, Sem.run_bind, Sem.run_pure, Result.andThen_ok, List.map_toArray, List.map_cons, List.map_nil, hs, hx, hrun]
  exact h v' w' h1 h2 h3 h4
theorem wpList_append_numsG {ops : Array Oper} {rest : List Oper} {o : Oper} {a : Act} {Q : Exit → Act → World → Prop} (w : World) (hgd : o.guard = none) (s x : Operand)
    (ho : o.op = .call { callee := .builtin .append, args := #[s, x], argTypes := #[39, 39] })
    (base lo : Nat) (v : Value) (n : Nat) (F : Nat → Num) (hs : a.eval s = v) (hown : OwnNums w base v n F)
    (A : Option Addr) (m c : Nat) (G : Nat → Num) (hx : a.eval x = .slice A m c) (hr : NumsAt w lo A m G) (hnm : n + m ≤ 100000000) (hbase : base ≤ w.heap.size)
    (h : ∀ v' w', OwnNums w' base v' (n + m) (catN n F G) → Below base w w' → w.grownBy w' v.ownBlock → (v'.ownBlock = v.ownBlock ∨ v'.ownBlock = some w.heap.size) → wpList Try.prog ops Q rest (a.put o.dst v') w') : wpList Try.prog ops Q (o :: rest) a w :=
  wpList_plain hgd fun _ hK => wp_append_numsG w s x ho base lo v n F hs hown A m c G hx hr hnm hbase fun v' w' h1 h2 h3 h4 => hK _ _ (h v' w' h1 h2 h3 h4)
theorem arrayLen8 : Try.prog.arrayLen 27 = 8 := by kernel_rfl
theorem run_tail8 (b d : Nat) (hd : d < 8) (W : World) : (Instr.sliceAt 27 (.pointer (some ⟨b, 0, none⟩)) (some (.int .i64 (d : Int))) none none).run Try.prog W = .ok (.slice (some ⟨b, d * 4, none⟩) (8 - d) (8 - d)) W := by
  have h1 : (d : Int) ≤ ((Try.prog.arrayLen 27 : Nat) : Int) := by rw [arrayLen8]; omega
  have h2 : ¬ 8 = d := by omega
  have hs : (sizeOf (Try.prog.elem 27)).run Try.prog W = .ok 4 W := by kernel_rfl
  refine (run_sliceAt_array_l (P := Try.prog) W 27 ⟨b, 0, none⟩ (by kernel_rfl) .i64 (d : Int) (by omega) h1).trans ?_
  rw [hs, arrayLen8]
  show Result.ok (slicedAt ⟨b, 0, none⟩ ((d : Int)).toNat 8 8 4) W = _
  unfold slicedAt
  rw [if_neg (show ¬ 8 = ((d : Int)).toNat by omega), show ((d : Int)).toNat = d from rfl, Addr.add_mid, Nat.zero_add]
/-- The samples of a stream of symbols. -/
def strF (F : Nat → Nat → Gau) (g : Nat) (j : Nat) : Num := if j % (8 + g) < g then smpF (F (j / (8 + g))) (8 - g + j % (8 + g)) else smpF (F (j / (8 + g))) (j % (8 + g) - g)
theorem str_at {k m p : Nat} (hp : p < m) : (k * m + p) / m = k ∧ (k * m + p) % m = p := by
  have hm : 0 < m := by omega
  constructor
  · rw [Nat.add_comm, Nat.add_mul_div_right _ _ hm, Nat.div_eq_of_lt hp, Nat.zero_add]
  · rw [Nat.add_comm, Nat.add_mul_mod_self_right, Nat.mod_eq_of_lt hp]
theorem str_step (F : Nat → Nat → Gau) (g k j : Nat) (hj : j < (k + 1) * (8 + g)) : catN (k * (8 + g) + g) (catN (k * (8 + g)) (strF F g) (fun j => smpF (F k) (8 - g + j))) (smpF (F k)) j = strF F g j := by
  unfold catN
  obtain ⟨m, hm⟩ : ∃ m, m = k * (8 + g) := ⟨_, rfl⟩
  have e : (k + 1) * (8 + g) = m + (8 + g) := by rw [hm, Nat.succ_mul]
  rw [← hm]
  rw [e] at hj
  by_cases h1 : j < m
  · rw [if_pos (by omega), if_pos h1]
  · obtain ⟨p, rfl⟩ : ∃ p, j = m + p := ⟨j - m, by omega⟩
    have hp : p < 8 + g := by omega
    obtain ⟨hd, hr⟩ := str_at (k := k) hp
    rw [← hm] at hd hr
    by_cases h2 : p < g
    · rw [if_pos (by omega), if_neg h1]
      unfold strF
      rw [hd, hr, if_pos h2, show m + p - m = p by omega]
    · rw [if_neg (by omega)]
      unfold strF
      rw [hd, hr, if_neg h2, show m + p - (m + g) = p - g by omega]
theorem ArrNums.tail {w : World} {b : Nat} {F : Nat → Num} (h : ArrNums w b F) (d n : Nat) (hdn : d + n ≤ 8) : NumsAt w 0 (some ⟨b, d * 4, none⟩) n (fun j => F (d + j)) := fun i hi => by
  obtain ⟨k0, k1, k2, k3⟩ := h.cells (k := d + i) (by omega)
  rw [Nat.add_mul] at k0 k1 k2 k3
  exact ⟨b, d * 4, rfl, Nat.zero_le _, h.lt, k0, k1, k2, k3⟩
theorem own_ne {w : World} {base n g : Nat} {v : Value} {F : Nat → Num} (h : OwnNums w base v n F) (hg : w.heap.size ≤ g) : v.ownBlock ≠ some g := fun e => by have := (World.ownsRow.lt h g e).2; omega
theorem ArrNums.grown {w w' : World} {b : Nat} {F : Nat → Num} {r : Option Nat} (h : ArrNums w b F) (hg : w.grownBy w' r) (hne : r ≠ some b) : ArrNums w' b F := h.of_block (hg.block b h.lt (fun e => hne e.symm))
set_option maxHeartbeats 8000000 in
set_option maxRecDepth 100000 in
theorem Stream_right (A : Option Addr) (n c : Nat) (F : Nat → Nat → Gau) (g : Nat) (w : World) (hV : strE n F (g : Int) = 0) (hI : SymsAt w 0 A n F) :
    Calls Try.prog 24 #[.slice A n c, .int .i64 (g : Int)] w fun e w' => ∃ v, e = .returned (.tuple #[v, .int .i64 0]) ∧ OwnNums w' w.heap.size v (n * (8 + g)) (strF F g) ∧ Below w.heap.size w w' := by
  obtain ⟨hn0, hn6, hE, -, hg7z⟩ := strE_zero hV
  have hg7 : g ≤ 7 := by omega
  have HS := hide (fun i (hi : i < n) W => samplesOf_any (F i) (gausE_within (hE i hi)) W)
  have HIE := hide (fun W (h : SymsAt W 0 A n F) => itemsError_syms A n c F W (by omega) h)
  have HE0 := hide (show firstE [unI (decide (0 < n)) 10, unI (decide ((n : Int) ≤ 6)) 8, symsE F n, unI (withinB (g : Int) 0 7) 2] = 0 from hV)
  have HGE := hide (fun W => guardError_any (g : Int) W)
  generalize unI (withinB (g : Int) 0 7) 2 = u at HE0 HGE
  generalize symsE F n = q at HE0 HIE
  obtain ⟨d, hd⟩ : ∃ d : Nat, g + d = 8 := ⟨8 - g, by omega⟩
  have q1 : IntKind.i64.wrap ((8 : Int) - (g : Int)) = (d : Int) := by rw [show (8 : Int) - (g : Int) = (d : Int) by omega]; exact IntWalk.i64_in _ (by omega)
  have q2 : (8 : Int) - (g : Int) = (d : Int) := by omega
  have HST := hide (str_step F g)
  have HI := hide hI
  clear hI hV hE hn0
  go_enter Try.func24, Try.ntmps24
  go_upto_region 2 with (first | (go_at_call 61; refine (unless_any _ _ _).mono ?_; rintro e w' ⟨rfl, rfl⟩) | (go_at_call 62; refine (HIE.out _ HI.out).mono ?_; rintro e w1 ⟨rfl, hb1⟩) | (go_at_call 64; refine (HGE.out _).mono ?_; rintro e w' ⟨rfl, rfl⟩) | (go_at_call 60; refine (firstError_laid [unI (decide (0 < n)) 10, unI (decide ((n : Int) ≤ 6)) 8, q, u] 4 _ _ rfl (by decide)).mono ?_; rintro e w2 ⟨rfl, hw2⟩))
  rw [HE0.out]
  have hB2 : Below w.heap.size w w2 := by rw [← hw2]; exact hb1.alloc hb1.size _
  clear hw2 hb1 HIE HE0 HGE
  go_wp2_with fail
  go_loopw [7, 9, 10, 30] (fun v x9 x10 i wr => ∃ k : Nat, k ≤ n ∧ i = .int .i64 (k : Int) ∧ OwnNums wr w.heap.size v (k * (8 + g)) (strF F g) ∧ Below w.heap.size w wr) (fun _ _ _ i _ => n - (Go.RowKit.intOf i).toNat)
  case atStart => exact ⟨0, Nat.zero_le _, rfl, by rw [Nat.zero_mul]; exact ownNums_nil _ _ _, hB2⟩
  case round =>
    clear hB2
    obtain ⟨k, hk, rfl, ho, hB⟩ := hrel
    obtain ⟨wA, rfl⟩ : ∃ q : World, q = wr := ⟨_, rfl⟩
    by_cases hlt : k < n
    · have hltz : (k : Int) < (n : Int) := by omega
      have HSA := hide (HI.out.below hB)
      obtain ⟨b, o, rfl, -, hb, -⟩ := HSA.out k hlt
      have HSK := hide (HS.out k hlt)
      have HSS := hide (fun j hj => HST.out k j hj)
      obtain ⟨Y, hY⟩ : ∃ z, smpF (F k) = z := ⟨_, rfl⟩
      simp only [hY] at HSK HSS
      clear hY hb
      obtain ⟨g9, hg9⟩ : ∃ z, wA.heap.size = z := ⟨_, rfl⟩
      go_upto_region 8 with (first
        | (refine wpList_storeG8 rfl (.tmp 9) (.tmp 33) rfl g9 (fun _ => Gau.zero) (F k) rfl rfl (ArrG8.at_alloc _ _ _ hg9.symm) ?_; intro W1 r1 o1)
        | (refine wpList_allocTo rfl (some 9) rfl (.pointer (some ⟨g9, 0, none⟩)) (.cells (arrG8 fun _ => Gau.zero) 24) (by rw [← hg9]; kernel_rfl) ?_)
        | (refine wpList_loadRow8 rfl (.tmp 32) rfl b o 0 n k F rfl HSA.out hlt ?_))
      have hc1 : Below wA.heap.size wA W1 := ((Below.refl _ _).alloc (Nat.le_refl _) _).trans (o1.to_below (by omega) (by simp))
      have hB1 := hB.trans (hc1.mono hB.size)
      have HR := hide r1
      have ho1 := ho.below hc1
      clear hc1 o1 hg9 hB HSA r1 ho
      go_wp2_with (refine wpList_loadG8 rfl (.tmp 9) rfl g9 (F k) rfl HR.out ?_)
      refine (HSK.out _).mono ?_
      rintro e w3 ⟨rfl, hb3⟩
      have hB3 := hB1.trans (hb3.mono hB1.size)
      have ho3 := ho1.below hb3
      clear hb3 hB1 ho1 HR HSK
      obtain ⟨g10, hg10⟩ : ∃ z, w3.heap.size = z := ⟨_, rfl⟩
      go_upto_region 9 with (first
        | (refine wpList_store8 rfl (.tmp 10) (.tmp 35) rfl g10 (fun _ => Num.zero) Y rfl rfl (arrNums_alloc _ _ _ hg10.symm) ?_; intro W4 r4 o4)
        | (refine wpList_allocTo rfl (some 10) rfl (.pointer (some ⟨g10, 0, none⟩)) (.cells (arr8 fun _ => Num.zero) 27) (by rw [← hg10]; kernel_rfl) ?_))
      have hc4 : Below w3.heap.size w3 W4 := ((Below.refl _ _).alloc (Nat.le_refl _) _).trans (o4.to_below (by omega) (by simp))
      have hB4 := hB3.trans (hc4.mono hB3.size)
      have ho4 := ho3.below hc4
      have hne4 := own_ne ho3 (Nat.le_of_eq hg10)
      have hlt4 := r4.lt
      have hkn : k * (8 + g) ≤ 100 := by
        have := Nat.mul_le_mul (show k ≤ 6 by omega) (show 8 + g ≤ 15 by omega)
        omega
      clear hc4 o4 hB3 ho3
      have hX := r4.slice
      obtain ⟨N, hN⟩ : ∃ z, z = k * (8 + g) := ⟨_, rfl⟩
      rw [← hN] at ho4 hkn HSS
      have HO4 := hide ho4
      have HR4 := hide r4
      have HB4 := hide hB4
      have HNN := hide (show N + g + 8 = (k + 1) * (8 + g) by rw [hN, Nat.succ_mul]; omega)
      clear ho4 r4 hB4 hN hX
      by_cases hg0 : g = 0
      · subst hg0
        obtain rfl : d = 8 := by omega
        go_upto_region 10 with (at_builtin; refine wpList_append_numsG _ rfl (.tmp 36) (.tmp 39) rfl w.heap.size 0 _ N (strF F 0) rfl HO4.out _ 0 _ (fun j => Y (8 + j)) rfl (fun i hi => absurd hi (Nat.not_lt_zero i)) (by omega) HB4.out.size ?_; intro v5 w5 h5 hb5 hg5 hob5)
        have HR5 := hide (HR4.out.grown hg5 hne4)
        have hB5 := HB4.out.trans hb5
        have HB5 := hide hB5
        have HO5 := hide h5
        clear hb5 hg5 hob5 h5 hB5 HO4 HB4
        go_wp2_with (at_builtin; refine wpList_append_numsG _ rfl (.tmp 41) (.tmp 42) rfl w.heap.size 0 v5 (N + 0) (catN N (strF F 0) (fun j => Y (8 + j))) rfl HO5.out (some ⟨g10, 0, none⟩) 8 8 Y rfl HR5.out.slice (by omega) HB5.out.size ?_; intro v6 w6 h6 hb6 hg6 hob6)
        have hB6 := HB5.out.trans hb6
        go_roundw
        case rel =>
          first | refine ⟨_, _, _, _, ⟨k + 1, by omega, by go_num, ?_, hB6⟩, rfl, rfl, rfl, rfl⟩ | refine ⟨k + 1, by omega, by go_num, ?_, hB6⟩
          rw [← HNN.out]
          refine OwnNums.congr h6 fun j hj => ?_
          have := HSS.out j (by rw [← HNN.out]; exact hj)
          rwa [show 8 - 0 = 8 by omega] at this
        case measure => simp [Go.RowKit.intOf]; omega
      · have hd4 : ¬ d = 8 := by omega
        have HXT := hide (HR4.out.tail d g (by omega))
        have hsl := fun W => run_tail8 g10 d (by omega) W
        have h8g : 8 - d = g := by omega
        rw [h8g] at hsl
        go_upto_region 10 with (at_builtin; refine wpList_append_numsG _ rfl (.tmp 36) (.tmp 39) rfl w.heap.size 0 _ N (strF F g) rfl HO4.out (some ⟨g10, d * 4, none⟩) g _ (fun j => Y (d + j)) rfl HXT.out (by omega) HB4.out.size ?_; intro v5 w5 h5 hb5 hg5 hob5)
        have HR5 := hide (HR4.out.grown hg5 hne4)
        have hB5 := HB4.out.trans hb5
        have HB5 := hide hB5
        have HO5 := hide h5
        clear hb5 hg5 hob5 h5 hB5 HO4 HB4
        go_wp2_with (at_builtin; refine wpList_append_numsG _ rfl (.tmp 41) (.tmp 42) rfl w.heap.size 0 v5 (N + g) (catN N (strF F g) (fun j => Y (d + j))) rfl HO5.out (some ⟨g10, 0, none⟩) 8 8 Y rfl HR5.out.slice (by omega) HB5.out.size ?_; intro v6 w6 h6 hb6 hg6 hob6)
        have hB6 := HB5.out.trans hb6
        go_roundw
        case rel =>
          first | refine ⟨_, _, _, _, ⟨k + 1, by omega, by go_num, ?_, hB6⟩, rfl, rfl, rfl, rfl⟩ | refine ⟨k + 1, by omega, by go_num, ?_, hB6⟩
          rw [← HNN.out]
          refine OwnNums.congr h6 fun j hj => ?_
          have := HSS.out j (by rw [← HNN.out]; exact hj)
          rwa [show 8 - g = d by omega] at this
        case measure => simp [Go.RowKit.intOf]; omega
    · obtain rfl : k = n := by omega
      go_wp2_with fail
      go_ret2
      exact ⟨_, rfl, ho, hB⟩
set_option maxHeartbeats 8000000 in
set_option maxRecDepth 100000 in
theorem streamR_any (A : Option Addr) (n c : Nat) (F : Nat → Nat → Gau) (g : Nat) (w : World) (hV : strE n F (g : Int) = 0) (hI : SymsAt w 0 A n F) :
    Calls Try.prog 29 #[.slice A n c, .int .i64 (g : Int)] w fun e w' => ∃ v, e = .returned v ∧ OwnNums w' w.heap.size v (n * (8 + g)) (strF F g) ∧ Below w.heap.size w w' := by
  obtain ⟨hn0, hn6, hE, -, hg7z⟩ := strE_zero hV
  have hg7 : g ≤ 7 := by omega
  have HS := hide (fun i (hi : i < n) W => (show Calls Try.prog 13 #[.agg (arrG8 (F i))] W fun e w' => e = .returned (.agg (arr8 (smpF (F i)))) ∧ Below W.heap.size W w' from samplesR_any (F i) (gausE_within (hE i hi)) W))
  obtain ⟨d, hd⟩ : ∃ d : Nat, g + d = 8 := ⟨8 - g, by omega⟩
  have q1 : IntKind.i64.wrap ((8 : Int) - (g : Int)) = (d : Int) := by rw [show (8 : Int) - (g : Int) = (d : Int) by omega]; exact IntWalk.i64_in _ (by omega)
  have q2 : (8 : Int) - (g : Int) = (d : Int) := by omega
  have HST := hide (str_step F g)
  have HI := hide hI
  clear hI hV hE hn0
  go_enter Try.func29, Try.ntmps29
  go_wp2_with fail
  have hB2 : Below w.heap.size w w := Below.refl _ _
  go_loopw [5, 6] (fun v i wr => ∃ k : Nat, k ≤ n ∧ i = .int .i64 (k : Int) ∧ OwnNums wr w.heap.size v (k * (8 + g)) (strF F g) ∧ Below w.heap.size w wr) (fun _ i _ => n - (Go.RowKit.intOf i).toNat)
  case atStart => exact ⟨0, Nat.zero_le _, rfl, by rw [Nat.zero_mul]; exact ownNums_nil _ _ _, hB2⟩
  case round =>
    clear hB2
    obtain ⟨k, hk, rfl, ho, hB⟩ := hrel
    obtain ⟨wA, rfl⟩ : ∃ q : World, q = wr := ⟨_, rfl⟩
    by_cases hlt : k < n
    · have hltz : (k : Int) < (n : Int) := by omega
      have HSA := hide (HI.out.below hB)
      obtain ⟨b, o, rfl, -, hb, -⟩ := HSA.out k hlt
      have HSK := hide (HS.out k hlt)
      have HSS := hide (fun j hj => HST.out k j hj)
      obtain ⟨Y, hY⟩ : ∃ z, smpF (F k) = z := ⟨_, rfl⟩
      simp only [hY] at HSK HSS
      clear hY hb
      go_wp2_with (refine wpList_loadRow8 rfl (.tmp 16) rfl b o 0 n k F rfl HSA.out hlt ?_)
      refine (HSK.out _).mono ?_
      rintro e w3 ⟨rfl, hb3⟩
      have hB3 := hB.trans (hb3.mono hB.size)
      have ho3 := ho.below hb3
      clear hb3 hB ho HSA HSK
      obtain ⟨g10, hg10⟩ : ∃ z, w3.heap.size = z := ⟨_, rfl⟩
      go_upto_region 6 with (first
        | (refine wpList_store8 rfl (.tmp 7) (.tmp 18) rfl g10 (fun _ => Num.zero) Y rfl rfl (arrNums_alloc _ _ _ hg10.symm) ?_; intro W4 r4 o4)
        | (refine wpList_allocTo rfl (some 7) rfl (.pointer (some ⟨g10, 0, none⟩)) (.cells (arr8 fun _ => Num.zero) 27) (by rw [← hg10]; kernel_rfl) ?_))
      have hc4 : Below w3.heap.size w3 W4 := ((Below.refl _ _).alloc (Nat.le_refl _) _).trans (o4.to_below (by omega) (by simp))
      have hB4 := hB3.trans (hc4.mono hB3.size)
      have ho4 := ho3.below hc4
      have hne4 := own_ne ho3 (Nat.le_of_eq hg10)
      have hlt4 := r4.lt
      have hkn : k * (8 + g) ≤ 100 := by
        have := Nat.mul_le_mul (show k ≤ 6 by omega) (show 8 + g ≤ 15 by omega)
        omega
      clear hc4 o4 hB3 ho3
      have hX := r4.slice
      obtain ⟨N, hN⟩ : ∃ z, z = k * (8 + g) := ⟨_, rfl⟩
      rw [← hN] at ho4 hkn HSS
      have HO4 := hide ho4
      have HR4 := hide r4
      have HB4 := hide hB4
      have HNN := hide (show N + g + 8 = (k + 1) * (8 + g) by rw [hN, Nat.succ_mul]; omega)
      clear ho4 r4 hB4 hN hX
      by_cases hg0 : g = 0
      · subst hg0
        obtain rfl : d = 8 := by omega
        go_upto_region 7 with (at_builtin; refine wpList_append_numsG _ rfl (.tmp 19) (.tmp 22) rfl w.heap.size 0 _ N (strF F 0) rfl HO4.out _ 0 _ (fun j => Y (8 + j)) rfl (fun i hi => absurd hi (Nat.not_lt_zero i)) (by omega) HB4.out.size ?_; intro v5 w5 h5 hb5 hg5 hob5)
        have HR5 := hide (HR4.out.grown hg5 hne4)
        have hB5 := HB4.out.trans hb5
        have HB5 := hide hB5
        have HO5 := hide h5
        clear hb5 hg5 hob5 h5 hB5 HO4 HB4
        go_wp2_with (at_builtin; refine wpList_append_numsG _ rfl (.tmp 24) (.tmp 25) rfl w.heap.size 0 v5 (N + 0) (catN N (strF F 0) (fun j => Y (8 + j))) rfl HO5.out (some ⟨g10, 0, none⟩) 8 8 Y rfl HR5.out.slice (by omega) HB5.out.size ?_; intro v6 w6 h6 hb6 hg6 hob6)
        have hB6 := HB5.out.trans hb6
        go_roundw
        case rel =>
          refine ⟨k + 1, by omega, by go_num, ?_, hB6⟩
          rw [← HNN.out]
          refine OwnNums.congr h6 fun j hj => ?_
          have := HSS.out j (by rw [← HNN.out]; exact hj)
          rwa [show 8 - 0 = 8 by omega] at this
        case measure => simp [Go.RowKit.intOf]; omega
      · have hd4 : ¬ d = 8 := by omega
        have HXT := hide (HR4.out.tail d g (by omega))
        have hsl := fun W => run_tail8 g10 d (by omega) W
        have h8g : 8 - d = g := by omega
        rw [h8g] at hsl
        go_upto_region 7 with (at_builtin; refine wpList_append_numsG _ rfl (.tmp 19) (.tmp 22) rfl w.heap.size 0 _ N (strF F g) rfl HO4.out (some ⟨g10, d * 4, none⟩) g _ (fun j => Y (d + j)) rfl HXT.out (by omega) HB4.out.size ?_; intro v5 w5 h5 hb5 hg5 hob5)
        have HR5 := hide (HR4.out.grown hg5 hne4)
        have hB5 := HB4.out.trans hb5
        have HB5 := hide hB5
        have HO5 := hide h5
        clear hb5 hg5 hob5 h5 hB5 HO4 HB4
        go_wp2_with (at_builtin; refine wpList_append_numsG _ rfl (.tmp 24) (.tmp 25) rfl w.heap.size 0 v5 (N + g) (catN N (strF F g) (fun j => Y (d + j))) rfl HO5.out (some ⟨g10, 0, none⟩) 8 8 Y rfl HR5.out.slice (by omega) HB5.out.size ?_; intro v6 w6 h6 hb6 hg6 hob6)
        have hB6 := HB5.out.trans hb6
        go_roundw
        case rel =>
          refine ⟨k + 1, by omega, by go_num, ?_, hB6⟩
          rw [← HNN.out]
          refine OwnNums.congr h6 fun j hj => ?_
          have := HSS.out j (by rw [← HNN.out]; exact hj)
          rwa [show 8 - g = d by omega] at this
        case measure => simp [Go.RowKit.intOf]; omega
    · obtain rfl : k = n := by omega
      go_wp2_with fail
      go_ret
      exact ⟨_, rfl, ho, hB⟩
set_option maxHeartbeats 4000000 in
set_option maxRecDepth 100000 in
theorem Stream_wrong (A : Option Addr) (n c : Nat) (F : Nat → Nat → Gau) (g : Int) (w : World) (hn : n ≤ 100000) (hV : strE n F g ≠ 0) (hI : SymsAt w 0 A n F) :
    Calls Try.prog 24 #[.slice A n c, .int .i64 g] w fun e w' => e = .returned (.tuple #[.slice none 0 0, .int .i64 (strE n F g)]) ∧ Below w.heap.size w w' := by
  have HIE := hide (fun W (h : SymsAt W 0 A n F) => itemsError_syms A n c F W hn h)
  have HE0 := hide (show firstE [unI (decide (0 < n)) 10, unI (decide ((n : Int) ≤ 6)) 8, symsE F n, unI (withinB g 0 7) 2] = strE n F g from rfl)
  have HGE := hide (fun W => guardError_any g W)
  generalize unI (withinB g 0 7) 2 = u at HE0 HGE
  generalize symsE F n = q at HE0 HIE
  generalize strE n F g = V at *
  have tv : (V != 0) = true := by simpa using hV
  have HI := hide hI
  clear hI hV
  go_enter Try.func24, Try.ntmps24
  go_upto_region 2 with (first | (go_at_call 61; refine (unless_any _ _ _).mono ?_; rintro e w' ⟨rfl, rfl⟩) | (go_at_call 62; refine (HIE.out _ HI.out).mono ?_; rintro e w1 ⟨rfl, hb1⟩) | (go_at_call 64; refine (HGE.out _).mono ?_; rintro e w' ⟨rfl, rfl⟩) | (go_at_call 60; refine (firstError_laid [unI (decide (0 < n)) 10, unI (decide ((n : Int) ≤ 6)) 8, q, u] 4 _ _ rfl (by decide)).mono ?_; rintro e w2 ⟨rfl, hw2⟩))
  rw [HE0.out]
  have hB2 : Below w.heap.size w w2 := by rw [← hw2]; exact hb1.alloc hb1.size _
  clear hw2 hb1
  go_wp2_with fail
  go_ret2
  exact ⟨rfl, hB2⟩
theorem Stream_any (A : Option Addr) (n c : Nat) (F : Nat → Nat → Gau) (g : Int) (w : World) (hn : n ≤ 100000) (hI : SymsAt w 0 A n F) :
    Calls Try.prog 24 #[.slice A n c, .int .i64 g] w fun e w' => ∃ v, e = .returned (.tuple #[v, .int .i64 (strE n F g)]) ∧ OwnNums w' w.heap.size v (if strE n F g = 0 then n * (8 + g.toNat) else 0) (strF F g.toNat) ∧ Below w.heap.size w w' := by
  by_cases h : strE n F g = 0
  · obtain ⟨-, -, -, h0, -⟩ := strE_zero h
    obtain ⟨k, rfl⟩ : ∃ k : Nat, g = (k : Int) := ⟨g.toNat, by omega⟩
    rw [if_pos h, h]
    exact Stream_right A n c F k w h hI
  · rw [if_neg h]
    refine (Stream_wrong A n c F g w hn h hI).mono ?_
    rintro e w' ⟨rfl, hb⟩
    exact ⟨_, rfl, ownNums_nil _ _ _, hb⟩
end Go.Proofs.Ytfemghbjngemlaa
