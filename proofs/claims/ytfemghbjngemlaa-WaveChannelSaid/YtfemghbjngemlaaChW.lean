/- Lemmas: C1, C2. -/
import Derived.Test.YtfemghbjngemlaaBk23
import Derived.Test.YtfemghbjngemlaaStW
set_option linter.unusedVariables false
set_option linter.unusedSimpArgs false
/- What WaveChannel needs besides: PathsErr of the reference, ascending delays, no errors on right ones. -/
namespace Go.Proofs.Ytfemghbjngemlaa
open Go.RowKit
set_option maxHeartbeats 1000000 in
theorem pathsErrR_any (A : Option Addr) (n c : Nat) (D R I : Nat → Int) (w : World) (hn : n ≤ 100000) (hI : PathsAt w 0 A n D R I) :
    Calls Try.prog 41 #[.slice A n c] w fun e w' => e = .returned (.int .i64 (chkE n D R I)) ∧ Below w.heap.size w w' := by
  have HX := hide (checkPathsR_any A n c D R I w hn hI)
  clear hI
  generalize chkE n D R I = V at *
  generalize chkI n D R I = K at *
  go_enter Try.func41, Try.ntmps41
  go_wp2_with fail
  refine HX.out.mono ?_
  rintro e w1 ⟨rfl, hb1⟩
  go_wp2_with fail
  go_ret
  exact ⟨rfl, hb1⟩
theorem chkE_rises {n : Nat} {D R I : Nat → Int} (h : chkE n D R I = 0) : ∀ {b a : Nat}, a ≤ b → b < n → D a ≤ D b
  | 0, a, hab, _ => by
    obtain rfl : a = 0 := by omega
    exact Int.le_refl _
  | b + 1, a, hab, hb => by
    by_cases e : a = b + 1
    · subst e; exact Int.le_refl _
    · have ih := chkE_rises h (b := b) (a := a) (by omega) (by omega)
      have hstep : D b < D (b + 1) := by
        unfold chkE at h
        by_cases hl : lenE n = 0
        · rw [if_pos hl] at h
          have h0 := badE_zero h (b + 1) hb
          unfold pathEs pathE at h0
          obtain ⟨-, h0⟩ := firstE_nil h0
          obtain ⟨-, h0⟩ := firstE_nil h0
          obtain ⟨h0, -⟩ := firstE_nil h0
          exact of_decide_eq_true (unI_zero (by decide) h0)
        · rw [if_neg hl] at h; exact absurd h hl
      omega
/-- A stream through paths: no error, and how great its samples are. -/
theorem chan_within {n p k : Nat} {F : Nat → Nat → Gau} {D R I : Nat → Int} (hV : strE n F (k : Int) = 0) (hC : chkE p D R I = 0) {j : Nat} (hj : j < n * (8 + k)) : (thrTo D R I (strF F k) p j).Within 96000000 := by
  obtain ⟨-, hn, hE, -, hk⟩ := strE_zero hV
  obtain ⟨-, hp, hq⟩ := chkE_right hC
  have hS : ∀ i, i < n * (8 + k) → (strF F k i).Within 80000 := fun i hi => strF_within (n := n) (fun i hi m hm => gausE_within (hE i hi) m hm) hi
  exact (thrTo_within (M := 80000) (by decide) hS (j := p) (fun q hq' => ⟨(hq q hq').2.1.1, (hq q hq').2.1.2, (hq q hq').2.2.1, (hq q hq').2.2.2⟩) hj).more (by
    have : ((p : Nat) : Int) ≤ 6 := by omega
    omega)
theorem chan_size {n k : Nat} {F : Nat → Nat → Gau} (hV : strE n F (k : Int) = 0) : n * (8 + k) ≤ 90 := by
  obtain ⟨-, hn, -, -, hk⟩ := strE_zero hV
  have := Nat.mul_le_mul hn (show 8 + k ≤ 15 by omega)
  omega
theorem chan_through {n p k : Nat} {F : Nat → Nat → Gau} {D R I : Nat → Int} (hV : strE n F (k : Int) = 0) (hC : chkE p D R I = 0) : thrR p D R I (n * (8 + k)) (strF F k) = 0 := by
  obtain ⟨-, hn, hE, -, hk⟩ := strE_zero hV
  have hS : numsE 1000000000 (strF F k) (n * (8 + k)) = 0 := numsE_all2 fun i hi => (strF_within (n := n) (fun i hi m hm => gausE_within (hE i hi) m hm) hi).more (by decide)
  have hs : sampE (n * (8 + k)) (strF F k) = 0 := by
    have := chan_size hV
    unfold sampE
    rw [if_neg (by omega)]
    exact hS
  have hT : numsE 1000000000 (thrTo D R I (strF F k) p) (n * (8 + k)) = 0 := numsE_all2 fun j hj => (chan_within hV hC hj).more (by decide)
  rw [thrR_large hC hs, hT]
  rfl
theorem chan_symbol {n p k i : Nat} {F : Nat → Nat → Gau} {D R I : Nat → Int} (hV : strE n F (k : Int) = 0) (hC : chkE p D R I = 0) (hi : i < n) : symR (n * (8 + k)) (thrTo D R I (strF F k) p) (k : Int) (i : Int) = 0 := by
  obtain ⟨-, hn, hE, -, hk⟩ := strE_zero hV
  have hT : numsE 1000000000 (thrTo D R I (strF F k) p) (n * (8 + k)) = 0 := numsE_all2 fun j hj => (chan_within hV hC hj).more (by decide)
  have hs : sampE (n * (8 + k)) (thrTo D R I (strF F k) p) = 0 := by
    have := chan_size hV
    unfold sampE
    rw [if_neg (by omega)]
    exact hT
  have hg : withinB (k : Int) 0 7 = true := withinB_iff.2 ⟨by omega, hk⟩
  have hE2 : twoE (sampE (n * (8 + k)) (thrTo D R I (strF F k) p)) (unI (withinB (k : Int) 0 7) 2) = 0 := by
    unfold twoE
    rw [if_pos hs, hg]
    rfl
  unfold symR
  rw [if_pos hE2, show ((k : Int)).toNat = k from rfl, Nat.mul_div_cancel _ (show 0 < 8 + k by omega)]
  rw [if_pos (withinB_iff.2 ⟨by omega, by omega⟩)]
theorem chan_transform {n p k i : Nat} {F : Nat → Nat → Gau} {D R I : Nat → Int} (hV : strE n F (k : Int) = 0) (hC : chkE p D R I = 0) (hi : i < n) : trnR (fun j => thrTo D R I (strF F k) p (i * (8 + k) + k + j)) = 0 := by
  have hb : ∀ j, j < 8 → (thrTo D R I (strF F k) p (i * (8 + k) + k + j)).Within 96000000 := fun j hj => chan_within hV hC (by
    have := Nat.mul_le_mul_right (8 + k) (show i + 1 ≤ n by omega)
    rw [Nat.succ_mul] at this
    omega)
  have h1 : numsE 1000000000 (fun j => thrTo D R I (strF F k) p (i * (8 + k) + k + j)) 8 = 0 := numsE_all2 fun j hj => (hb j hj).more (by decide)
  have h2 : numsE 1000000000 (trnF fun j => thrTo D R I (strF F k) p (i * (8 + k) + k + j)) 8 = 0 := numsE_all2 fun j hj => (trnF_of hb j).more (by decide)
  unfold trnR
  rw [if_pos h1, h2]
  rfl
theorem respTo_bound {p : Nat} {D R I : Nat → Int} (hC : chkE p D R I = 0) (k : Nat) : (respTo D R I k p).Within 600 := by
  obtain ⟨-, hp, hq⟩ := chkE_right hC
  exact (respTo_within fun j hj => ⟨(hq j hj).2.1.1, (hq j hj).2.1.2, (hq j hj).2.2.1, (hq j hj).2.2.2⟩).more (by omega)
theorem prodE_small {x y : Num} (hx : x.Within 1000000000) (hy : y.Within 1000000000) (h : (x.prod y).Within 1000000000) : prodE x y = 0 := by
  unfold prodE smallE
  have e1 : x.err 1000000000 = 0 := by unfold Num.err; rw [Num.isIn_iff.2 hx]; rfl
  have e2 : y.err 1000000000 = 0 := by unfold Num.err; rw [Num.isIn_iff.2 hy]; rfl
  rw [e1, e2]
  show (if (if (0 : Int) = 0 then (0 : Int) else 0) = 0 then _ else _) = _
  rw [if_pos rfl, if_pos rfl, Num.isIn_iff.2 h]
  rfl
/-- The law's last product. -/
theorem chan_product {n p k i m : Nat} {F : Nat → Nat → Gau} {D R I : Nat → Int} (hV : strE n F (k : Int) = 0) (hC : chkE p D R I = 0) (hD : D (p - 1) ≤ (k : Int)) (hi : i < n) (hm : m < 8) :
    prodE (respTo D R I m p) ⟨8 * (F i m).re, 0, 8 * (F i m).im, 0⟩ = 0 ∧ prodV (respTo D R I m p) ⟨8 * (F i m).re, 0, 8 * (F i m).im, 0⟩ = trnF (fun j => thrTo D R I (strF F k) p (i * (8 + k) + k + j)) m := by
  obtain ⟨-, hn, hE, -, hk⟩ := strE_zero hV
  obtain ⟨hp0, hp, hq⟩ := chkE_right hC
  have hch := stream_channel (i := i) (k := m) F D R I (g := k) (p := p) (by omega) (fun q hq' => ⟨(hq q hq').1.1, Int.le_trans (chkE_rises hC (show q ≤ p - 1 by omega) (by omega)) hD⟩) hm
  have hb : ∀ j, j < 8 → (thrTo D R I (strF F k) p (i * (8 + k) + k + j)).Within 96000000 := fun j hj => chan_within hV hC (by
    have := Nat.mul_le_mul_right (8 + k) (show i + 1 ≤ n by omega)
    rw [Nat.succ_mul] at this
    omega)
  have hg := gausE_within (hE i hi) m hm
  have hy : (⟨8 * (F i m).re, 0, 8 * (F i m).im, 0⟩ : Num).Within 1000000000 := ⟨by have := hg.re; show -1000000000 ≤ 8 * (F i m).re ∧ 8 * (F i m).re ≤ 1000000000; omega, by show (-1000000000 : Int) ≤ 0 ∧ (0 : Int) ≤ 1000000000; decide, by have := hg.im; show -1000000000 ≤ 8 * (F i m).im ∧ 8 * (F i m).im ≤ 1000000000; omega, by show (-1000000000 : Int) ≤ 0 ∧ (0 : Int) ≤ 1000000000; decide⟩
  have hE0 := prodE_small ((respTo_bound hC m).more (by decide)) hy (by rw [← hch]; exact (trnF_of hb m).more (by decide))
  refine ⟨hE0, ?_⟩
  unfold prodV
  rw [if_pos hE0, hch]
end Go.Proofs.Ytfemghbjngemlaa
/- The walk of WaveChannel. -/
namespace Go.Proofs.Ytfemghbjngemlaa
open Go.RowKit Go.Great
theorem numSize : (Try.prog.info? 26).map (·.size) = some 4 := by kernel_rfl
theorem wp_store_num {op : Oper} {a : Act} {w : World} {K : Act → World → Prop} {Q : Exit → Act → World → Prop} (x y : Operand) (ho : op.op = .store 26 x y)
    (b : Nat) (z : Num) (cs : Array Value) (hx : a.eval x = .pointer (some ⟨b, 0, none⟩)) (hy : a.eval y = .agg #[.int .i64 z.a, .int .i64 z.b, .int .i64 z.c, .int .i64 z.d]) (hb : Box w b 26 cs) (hs : cs.size = 4)
    (h : ∀ W, Box W b 26 #[.int .i64 z.a, .int .i64 z.b, .int .i64 z.c, .int .i64 z.d] → Only b w W → K (a.put op.dst undef) W) : op.wp Try.prog a w K Q := by
  obtain ⟨cs', g1, g2, g3, g4⟩ := setCells_row b 26 [Value.int .i64 z.a, .int .i64 z.b, .int .i64 z.c, .int .i64 z.d] 0 w cs hb (by simp [hs])
  have e : cs' = #[Value.int .i64 z.a, .int .i64 z.b, .int .i64 z.c, .int .i64 z.d] := Array.ext_getElem? fun i => by
    rw [g3 i]
    by_cases hi : i < 4
    · rw [if_pos (by simp; omega)]
      simp
    · rw [if_neg (by simp; omega), Array.getElem?_eq_none (by omega), Array.getElem?_eq_none (by simp; omega)]
  subst e
  refine wp_store_mid 26 x y ho b 0 #[.int .i64 z.a, .int .i64 z.b, .int .i64 z.c, .int .i64 z.d] hx hy (fun j hj => ⟨?_, hb.free _⟩) (by rw [numSize]; rfl) (by rw [Array.all_eq_true_iff_forall_mem]; intro v hv; simp at hv; rcases hv with rfl | rfl | rfl | rfl <;> rfl) (h _ g1 g4)
  simp at hj
  rw [hb.at_, Array.getElem?_eq_getElem (by omega)]
  rfl
theorem step_store_num {ops : Array Oper} {op : Oper} {a : Act} {w : World} {K : Act → World → Prop} {Q : Exit → Act → World → Prop} {E : Prop} (hgd : op.guard = none) (x y : Operand) (ho : op.op = .store 26 x y)
    (b : Nat) (z : Num) (cs : Array Value) (hx : a.eval x = .pointer (some ⟨b, 0, none⟩)) (hy : a.eval y = .agg #[.int .i64 z.a, .int .i64 z.b, .int .i64 z.c, .int .i64 z.d]) (hb : Box w b 26 cs) (hs : cs.size = 4)
    (h : ∀ W, Box W b 26 #[.int .i64 z.a, .int .i64 z.b, .int .i64 z.c, .int .i64 z.d] → Only b w W → K (a.put op.dst undef) W) :
    if Region.wanted op (yielded ops a.tmps) = true then Oper.wp Try.prog op a w K Q else E := by
  rw [if_pos (by simp [Region.wanted, hgd])]
  exact wp_store_num x y ho b z cs hx hy hb hs h
set_option maxHeartbeats 16000000 in
set_option maxRecDepth 100000 in
theorem waveChannel_walk (A B : Option Addr) (n c p d : Nat) (F : Nat → Nat → Gau) (D R I : Nat → Int) (g : Int) (w : World) (hn9 : n ≤ 9223372036854775807) (hp9 : p ≤ 9223372036854775807) (hI : SymsAt w 0 A n F) (hJ : PathsAt w 0 B p D R I) :
    Calls Try.prog 7 #[.slice A n c, .slice B p d, .int .i64 g] w fun e w' => e = .returned (.bool true) ∧ Below w.heap.size w w' := by
  have HAW := hide (fun W => awake_any W)
  have HI := hide hI
  have HJ := hide hJ
  clear hI hJ
  by_cases hn : 6 < n
  · have hnz : (n : Int) > 6 := by omega
    clear hn
    go_enter Try.func7, Try.ntmps7
    go_wp2_with fail
    refine (HAW.out _).mono ?_
    rintro e w1 ⟨rfl, hb1⟩
    go_wp2_with fail
    go_ret
    exact ⟨rfl, hb1⟩
  have hnz : ¬ (n : Int) > 6 := by omega
  by_cases hp : 6 < p
  · have hpz : (p : Int) > 6 := by omega
    clear hp hn
    go_enter Try.func7, Try.ntmps7
    go_wp2_with fail
    refine (HAW.out _).mono ?_
    rintro e w1 ⟨rfl, hb1⟩
    go_wp2_with fail
    go_ret
    exact ⟨rfl, hb1⟩
  have hpz : ¬ (p : Int) > 6 := by omega
  have hn6 : n ≤ 6 := by omega
  have hp6 : p ≤ 6 := by omega
  clear hn hp
  have HSE := hide (fun W (h : SymsAt W 0 A n F) => streamErrR_any A n c F g W (by omega) h)
  have HPE := hide (fun W (h : PathsAt W 0 B p D R I) => pathsErrR_any B p d D R I W (by omega) h)
  by_cases hV : strE n F g = 0
  case neg =>
    generalize strE n F g = V at *
    have t1 : (V != 0) = true := by simpa using hV
    clear hV HPE
    go_enter Try.func7, Try.ntmps7
    go_wp2_with fail
    refine (HAW.out _).mono ?_
    rintro e w1 ⟨rfl, hb1⟩
    go_wp2_with (go_at_call 28; refine (HSE.out _ (HI.out.below hb1)).mono ?_; rintro e w2 ⟨rfl, hb2⟩)
    go_ret
    exact ⟨rfl, hb1.trans (hb2.mono hb1.size)⟩
  case pos =>
  by_cases hC : chkE p D R I = 0
  case neg =>
    rw [hV] at HSE
    generalize chkE p D R I = C at *
    have t1 : (C != 0) = true := by simpa using hC
    clear hV hC
    go_enter Try.func7, Try.ntmps7
    go_wp2_with fail
    refine (HAW.out _).mono ?_
    rintro e w1 ⟨rfl, hb1⟩
    go_wp2_with fail
    refine (HSE.out _ (HI.out.below hb1)).mono ?_
    rintro e w2 ⟨rfl, hb2⟩
    have hB2 := hb1.trans (hb2.mono hb1.size)
    go_wp2_with fail
    refine (HPE.out _ (HJ.out.below hB2)).mono ?_
    rintro e w3 ⟨rfl, hb3⟩
    go_wp2_with fail
    go_ret
    exact ⟨rfl, hB2.trans (hb3.mono hB2.size)⟩
  case pos =>
  obtain ⟨hn0, -, hE, hg0, hg7⟩ := strE_zero hV
  obtain ⟨hp0, -, hq⟩ := chkE_right hC
  obtain ⟨k, rfl⟩ : ∃ k : Nat, g = (k : Int) := ⟨g.toNat, by omega⟩
  have hk7 : k ≤ 7 := by omega
  simp only [hV] at HSE
  simp only [hC] at HPE
  have q1 : IntKind.i64.wrap ((p : Int) - 1) = ((p - 1 : Nat) : Int) := by rw [show (p : Int) - 1 = ((p - 1 : Nat) : Int) by omega]; exact IntWalk.i64_in _ (by omega)
  obtain ⟨P, hP⟩ : ∃ z, p - 1 = z := ⟨_, rfl⟩
  have hPp : P < p := by omega
  rw [hP] at q1
  have hPz : (P : Int) < (p : Int) := by omega
  have HPC := hide (fun W (h : Below w.heap.size w W) => (HJ.out.below h) P hPp)
  by_cases hD : D P ≤ (k : Int)
  case neg =>
    have t1 : ¬ D P ≤ (k : Int) := hD
    have t2 : D P > (k : Int) := by omega
    clear hV hC hE hq hP
    go_enter Try.func7, Try.ntmps7
    go_wp2_with fail
    refine (HAW.out _).mono ?_
    rintro e w1 ⟨rfl, hb1⟩
    go_wp2_with fail
    refine (HSE.out _ (HI.out.below hb1)).mono ?_
    rintro e w2 ⟨rfl, hb2⟩
    have hB2 := hb1.trans (hb2.mono hb1.size)
    go_wp2_with fail
    refine (HPE.out _ (HJ.out.below hB2)).mono ?_
    rintro e w3 ⟨rfl, hb3⟩
    have hB3 := hB2.trans (hb3.mono hB2.size)
    obtain ⟨bp, op, rfl, -, -, p0, -, -⟩ := HPC.out _ hB3
    clear hb1 hb2 hB2 hb3
    go_wp2_with fail
    go_ret
    exact ⟨rfl, hB3⟩
  case pos =>
  have HTHR := hide (chan_through hV hC)
  have HSYM := hide (fun i (hi : i < n) => chan_symbol hV hC hi)
  have HTRN := hide (fun i (hi : i < n) => chan_transform hV hC hi)
  have HPRD := hide (fun i m (hi : i < n) (hm : m < 8) => chan_product hV hC (by rw [hP]; exact hD) hi hm)
  have hN90 := chan_size hV
  have t1 : ¬ D P > (k : Int) := by omega
  have HCS := hide (fun W (h : SymsAt W 0 A n F) => copySymbols_own A n c F W (by omega) h)
  have HCP := hide (fun W (h : PathsAt W 0 B p D R I) => copyPaths_own B p d (fun i => ⟨D i, R i, I i⟩) W (by omega) (paths_pats h))
  have HST := hide (fun Y y W (h : SymsAt W 0 Y n F) => Stream_right Y n y F k W hV h)
  have HRE := hide (fun Y y W (h : PathsAt W 0 Y p D R I) => (show Calls Try.prog 37 #[.slice Y p y] W fun e w' => e = .returned (.tuple #[.agg (arr8 fun m => respTo D R I m p), .int .i64 0]) ∧ Below W.heap.size W w' from by
    have h1 := ResponseOf_any Y p y D R I W (by omega) h
    simp only [hC, if_true] at h1
    exact h1))
  obtain ⟨N, hN⟩ : ∃ z, n * (8 + k) = z := ⟨_, rfl⟩
  obtain ⟨X, hX⟩ : ∃ z, strF F k = z := ⟨_, rfl⟩
  obtain ⟨Y, hY⟩ : ∃ z, thrTo D R I (strF F k) p = z := ⟨_, rfl⟩
  obtain ⟨H, hH⟩ : ∃ z : Nat → Num, (fun m => respTo D R I m p) = z := ⟨_, rfl⟩
  have HHM := hide (fun m => congrFun hH m)
  rw [hN] at hN90
  simp only [hN, hX] at HST HTHR
  simp only [hN, hY] at HSYM
  simp only [hY] at HTRN HPRD
  simp only [hH] at HRE
  have HTH := hide (fun Q q Z z W (h : PathsAt W 0 Q p D R I) (u : NumsAt W 0 Z N X) => (show Calls Try.prog 36 #[.slice Q p q, .slice Z N z] W fun e w' => ∃ v, e = .returned (.tuple #[v, .int .i64 0]) ∧ OwnNums w' W.heap.size v N Y ∧ Below W.heap.size W w' from by
    have h1 := Through_any Q Z p q N z D R I X W (by omega) (by omega) h u
    rw [HTHR.out, if_pos rfl, ← hX, hY] at h1
    exact h1))
  have HCX := hide (fun Z z W (h : NumsAt W 0 Z N X) => copyNumbers_own Z N z X W (by omega) h)
  have HCY := hide (fun Z z W (h : NumsAt W 0 Z N Y) => copyNumbers_own Z N z Y W (by omega) h)
  have HSY := hide (fun i (hi : i < n) Z z W (hc : N ≤ z) (h : NumsAt W 0 Z N Y) => (show Calls Try.prog 26 #[.slice Z N z, .int .i64 (k : Int), .int .i64 (i : Int)] W fun e w' => e = .returned (.tuple #[.agg (arr8 fun j => Y (i * (8 + k) + k + j)), .int .i64 0]) ∧ Below W.heap.size W w' from by
    have h1 := SymbolOf_any Z N z Y (k : Int) (i : Int) W (by omega) hc h
    simp only [HSYM.out i hi, if_true] at h1
    rw [show ((i : Int) * (8 + (k : Int)) + (k : Int)).toNat = i * (8 + k) + k from by
      have e1 : (i : Int) * (8 + (k : Int)) = ((i * (8 + k) : Nat) : Int) := by push_cast; rfl
      omega] at h1
    exact h1))
  have HTA := hide (fun i (hi : i < n) W => (show Calls Try.prog 10 #[.agg (arr8 fun j => Y (i * (8 + k) + k + j))] W fun e w' => e = .returned (.tuple #[.agg (arr8 (trnF fun j => Y (i * (8 + k) + k + j))), .int .i64 0]) ∧ Below W.heap.size W w' from by
    have h1 := Transform_any (fun j => Y (i * (8 + k) + k + j)) W
    simp only [HTRN.out i hi, if_true] at h1
    exact h1))
  have HPP := hide (fun i m (hi : i < n) (hm : m < 8) W => (show Calls Try.prog 42 #[.agg #[.int .i64 (H m).a, .int .i64 (H m).b, .int .i64 (H m).c, .int .i64 (H m).d], .agg #[.int .i64 (8 * (F i m).re), .int .i64 0, .int .i64 (8 * (F i m).im), .int .i64 0]] W fun e w' => e = .returned (.tuple #[.agg #[.int .i64 (trnF (fun j => Y (i * (8 + k) + k + j)) m).a, .int .i64 (trnF (fun j => Y (i * (8 + k) + k + j)) m).b, .int .i64 (trnF (fun j => Y (i * (8 + k) + k + j)) m).c, .int .i64 (trnF (fun j => Y (i * (8 + k) + k + j)) m).d], .int .i64 0]) ∧ Below W.heap.size W w' from by
    have h1 := Product_any (H m) ⟨8 * (F i m).re, 0, 8 * (F i m).im, 0⟩ W
    obtain ⟨h2, h3⟩ := HPRD.out i m hi hm
    rw [HHM.out m] at h2 h3
    rw [h2, h3] at h1
    exact h1))
  have HGW := hide (fun i (hi : i < n) m (hm : m < 8) => gausE_within (hE i hi) m hm)
  have q2 : IntKind.i64.wrap ((8 : Int) + (k : Int)) = ((8 + k : Nat) : Int) := by rw [show (8 : Int) + (k : Int) = ((8 + k : Nat) : Int) by omega]; exact IntWalk.i64_in _ (by omega)
  have q3 : IntKind.i64.wrap ((n : Int) * ((8 + k : Nat) : Int)) = (N : Int) := by rw [show (n : Int) * ((8 + k : Nat) : Int) = (N : Int) by rw [← hN]; push_cast; rfl]; exact IntWalk.i64_in _ (by omega)
  obtain ⟨mm, hmm⟩ : ∃ z, 8 + k = z := ⟨_, rfl⟩
  rw [hmm] at q2 q3
  clear hV hC hE hq hP hD hN hX hY hH hmm HTHR HSYM HTRN HPRD HHM
  go_enter Try.func7, Try.ntmps7
  go_wp2_with fail
  refine (HAW.out _).mono ?_
  rintro e w1 ⟨rfl, hb1⟩
  go_wp2_with fail
  refine (HSE.out _ (HI.out.below hb1)).mono ?_
  rintro e w2 ⟨rfl, hb2⟩
  have hB2 := hb1.trans (hb2.mono hb1.size)
  go_wp2_with fail
  refine (HPE.out _ (HJ.out.below hB2)).mono ?_
  rintro e w3 ⟨rfl, hb3⟩
  have hB3 := hB2.trans (hb3.mono hB2.size)
  obtain ⟨bp, op, rfl, -, -, p0, -, -⟩ := HPC.out _ hB3
  clear hb1 hb2 hB2 hb3
  clear HAW HSE HPE
  go_wp2_with fail
  refine (HCS.out _ (HI.out.below hB3)).mono ?_
  rintro e w_1 ⟨v4, rfl, ho_1, hb_1⟩
  obtain ⟨X4, x4, rfl, -, hX4⟩ := ownSyms_form ho_1
  have HX4 := hide (hX4.weak (Nat.zero_le _))
  clear ho_1 hX4 p0 HPC
  have hB_2 := hB3.trans (hb_1.mono hB3.size)
  clear hb_1 hB3 
  go_wp2_with fail
  refine (HST.out _ _ _ HX4.out).mono ?_
  rintro e w_3 ⟨v5, rfl, ho_3, hb_3⟩
  obtain ⟨X5, x5, rfl, -, hX5⟩ := ownNums_form ho_3
  have HX5 := hide (hX5.weak (Nat.zero_le _))
  clear ho_3 hX5
  have HX4_4 := hide (HX4.out.below hb_3)
  have hB_4 := hB_2.trans (hb_3.mono hB_2.size)
  clear hb_3 hB_2 HX4
  clear HCS HST
  go_wp2_with fail
  refine (HCP.out _ (HJ.out.below hB_4)).mono ?_
  rintro e w_5 ⟨v6, rfl, ho_5, hb_5⟩
  obtain ⟨X6, x6, rfl, -, hX6⟩ := ownPats_form ho_5
  have HX6 := hide (pats_paths (hX6.weak (Nat.zero_le _)))
  clear ho_5 hX6
  have HX5_6 := hide (HX5.out.below hb_5)
  have hB_6 := hB_4.trans (hb_5.mono hB_4.size)
  clear hb_5 hB_4 HX5
  go_wp2_with fail
  refine (HCX.out _ _ _ HX5_6.out).mono ?_
  rintro e w_7 ⟨v7, rfl, ho_7, hb_7⟩
  obtain ⟨X7, x7, rfl, -, hX7⟩ := ownNums_form ho_7
  have HX7 := hide (hX7.weak (Nat.zero_le _))
  clear ho_7 hX7
  have HX5_8 := hide (HX5_6.out.below hb_7)
  have HX6_8 := hide (HX6.out.below hb_7)
  have hB_8 := hB_6.trans (hb_7.mono hB_6.size)
  clear hb_7 hB_6 HX5_6 HX6
  go_wp2_with fail
  refine (HTH.out _ _ _ _ _ HX6_8.out HX7.out).mono ?_
  rintro e w_9 ⟨v8, rfl, ho_9, hb_9⟩
  obtain ⟨X8, x8, rfl, hx8, hX8⟩ := ownNums_form ho_9
  have HY := hide (hX8.weak (Nat.zero_le _))
  clear ho_9 hX8
  have HX5_10 := hide (HX5_8.out.below hb_9)
  have HX6_10 := hide (HX6_8.out.below hb_9)
  have HX7_10 := hide (HX7.out.below hb_9)
  have hB_10 := hB_8.trans (hb_9.mono hB_8.size)
  clear hb_9 hB_8 HX5_8 HX6_8 HX7
  clear HTH HCX
  go_wp2_with fail
  refine (HCP.out _ (HJ.out.below hB_10)).mono ?_
  rintro e w_11 ⟨v9, rfl, ho_11, hb_11⟩
  obtain ⟨X9, x9, rfl, -, hX9⟩ := ownPats_form ho_11
  have HX9 := hide (pats_paths (hX9.weak (Nat.zero_le _)))
  clear ho_11 hX9
  have HY_12 := hide (HY.out.below hb_11)
  have hB_12 := hB_10.trans (hb_11.mono hB_10.size)
  clear hb_11 hB_10 HY
  go_wp2_with fail
  refine (HRE.out _ _ _ HX9.out).mono ?_
  rintro e w_13 ⟨rfl, hb_13⟩
  have HY_14 := hide (HY_12.out.below hb_13)
  have hB_14 := hB_12.trans (hb_13.mono hB_12.size)
  clear hb_13 hB_12 HY_12
  clear HX9 HRE HCP
  obtain ⟨HHbB, hHHbB⟩ : ∃ z, w_13.heap.size = z := ⟨_, rfl⟩
  go_upto_region 8 with (first
    | (refine wpList_store8 rfl (.tmp 11) (.tmp 72) rfl HHbB (fun _ => Num.zero) H rfl rfl (arrNums_alloc _ _ _ hHHbB.symm) ?_; intro W_15 r_15 o_15)
    | (refine wpList_allocTo rfl (some 11) rfl (.pointer (some ⟨HHbB, 0, none⟩)) (.cells (arr8 fun _ => Num.zero) 27) (by rw [← hHHbB]; kernel_rfl) ?_))
  have hc_15 : Below w_13.heap.size w_13 W_15 := ((Below.refl _ _).alloc (Nat.le_refl _) _).trans (o_15.to_below (by omega) (by simp))
  clear o_15 hHHbB
  have HY_16 := hide (HY_14.out.below hc_15)
  have hB_16 := hB_14.trans (hc_15.mono hB_14.size)
  clear hc_15 hB_14 HY_14
  have HHb := hide r_15
  clear r_15
  have t3 : ((N : Int) != (N : Int)) = false := by simp
  have t4 : ((0 : Int) != 0) = false := rfl
  go_wp2_with fail
  go_loopw [13] (fun i wr => ∃ i0 : Nat, i0 ≤ n ∧ i = .int .i64 (i0 : Int) ∧ ArrNums wr HHbB H ∧ NumsAt wr 0 X8 N Y ∧ Below w.heap.size w wr) (fun i _ => n - (Go.RowKit.intOf i).toNat)
  case atStart => exact ⟨0, Nat.zero_le _, rfl, HHb.out, HY_16.out, hB_16⟩
  case round =>
    clear HHb HY_16 hB_16
    obtain ⟨i, hi, rfl, hH, hY, hB⟩ := hrel
    obtain ⟨wA, rfl⟩ : ∃ q : World, q = wr := ⟨_, rfl⟩
    have HHH := hide hH
    have HYY := hide hY
    clear hH hY
    by_cases hlt : i < n
    · have hltz : (i : Int) < (n : Int) := by omega
      have HSI := hide (HSY.out i hlt)
      have HTI := hide (HTA.out i hlt)
      have HPI := hide (fun m hm => HPP.out i m hlt hm)
      have HGI := hide (HGW.out i hlt)
      obtain ⟨T, hT⟩ : ∃ z, (trnF fun j => Y (i * (8 + k) + k + j)) = z := ⟨_, rfl⟩
      simp only [hT] at HTI HPI
      obtain ⟨Z, hZ⟩ : ∃ z : Nat → Num, (fun j => Y (i * (8 + k) + k + j)) = z := ⟨_, rfl⟩
      simp only [hZ] at HSI HTI
      clear hT hZ
      go_wp2_with fail
      refine (HCY.out _ _ _ HYY.out).mono ?_
      rintro e w_17 ⟨v1, rfl, ho_17, hb_17⟩
      obtain ⟨X1, x1, rfl, hx1, hX1⟩ := ownNums_form ho_17
      have HX1 := hide (hX1.weak (Nat.zero_le _))
      clear ho_17 hX1
      have HHH_18 := hide (HHH.out.below hb_17)
      have HYY_18 := hide (HYY.out.below hb_17)
      have hB_18 := hB.trans (hb_17.mono hB.size)
      clear hb_17 hB HHH HYY
      go_wp2_with fail
      refine (HSI.out _ _ _ hx1 HX1.out).mono ?_
      rintro e w_19 ⟨rfl, hb_19⟩
      have HHH_20 := hide (HHH_18.out.below hb_19)
      have HYY_20 := hide (HYY_18.out.below hb_19)
      have hB_20 := hB_18.trans (hb_19.mono hB_18.size)
      clear hb_19 hB_18 HHH_18 HYY_18
      clear HX1 hx1 HSI
      obtain ⟨HZbB, hHZbB⟩ : ∃ z, w_19.heap.size = z := ⟨_, rfl⟩
      go_upto_region 14 with (first
        | (refine wpList_store8 rfl (.tmp 14) (.tmp 106) rfl HZbB (fun _ => Num.zero) Z rfl rfl (arrNums_alloc _ _ _ hHZbB.symm) ?_; intro W_21 r_21 o_21)
        | (refine wpList_allocTo rfl (some 14) rfl (.pointer (some ⟨HZbB, 0, none⟩)) (.cells (arr8 fun _ => Num.zero) 27) (by rw [← hHZbB]; kernel_rfl) ?_))
      have hc_21 : Below w_19.heap.size w_19 W_21 := ((Below.refl _ _).alloc (Nat.le_refl _) _).trans (o_21.to_below (by omega) (by simp))
      clear o_21 hHZbB
      have HHH_22 := hide (HHH_20.out.below hc_21)
      have HYY_22 := hide (HYY_20.out.below hc_21)
      have hB_22 := hB_20.trans (hc_21.mono hB_20.size)
      clear hc_21 hB_20 HHH_20 HYY_20
      have HZb := hide r_21
      clear r_21
      go_wp2_with (refine wpList_load8G rfl (.tmp 14) rfl HZbB Z rfl HZb.out ?_)
      refine (HTI.out _).mono ?_
      rintro e w_23 ⟨rfl, hb_23⟩
      have HHH_24 := hide (HHH_22.out.below hb_23)
      have HYY_24 := hide (HYY_22.out.below hb_23)
      have HZb_24 := hide (HZb.out.below hb_23)
      have hB_24 := hB_22.trans (hb_23.mono hB_22.size)
      clear hb_23 hB_22 HHH_22 HYY_22 HZb
      clear HTI
      clear HZb_24
      obtain ⟨HTbB, hHTbB⟩ : ∃ z, w_23.heap.size = z := ⟨_, rfl⟩
      go_upto_region 15 with (first
        | (refine wpList_store8 rfl (.tmp 16) (.tmp 111) rfl HTbB (fun _ => Num.zero) T rfl rfl (arrNums_alloc _ _ _ hHTbB.symm) ?_; intro W_25 r_25 o_25)
        | (refine wpList_allocTo rfl (some 16) rfl (.pointer (some ⟨HTbB, 0, none⟩)) (.cells (arr8 fun _ => Num.zero) 27) (by rw [← hHTbB]; kernel_rfl) ?_))
      have hc_25 : Below w_23.heap.size w_23 W_25 := ((Below.refl _ _).alloc (Nat.le_refl _) _).trans (o_25.to_below (by omega) (by simp))
      clear o_25 hHTbB
      have HHH_26 := hide (HHH_24.out.below hc_25)
      have HYY_26 := hide (HYY_24.out.below hc_25)
      have hB_26 := hB_24.trans (hc_25.mono hB_24.size)
      clear hc_25 hB_24 HHH_24 HYY_24
      have HTb := hide r_25
      clear r_25
      have t5 : ((0 : Int) != 0) = false := rfl
      go_wp2_with fail
      go_loopw [18] (fun m wr => ∃ m0 : Nat, m0 ≤ 8 ∧ m = .int .i64 (m0 : Int) ∧ ArrNums wr HTbB T ∧ ArrNums wr HHbB H ∧ NumsAt wr 0 X8 N Y ∧ Below w.heap.size w wr) (fun m _ => 8 - (Go.RowKit.intOf m).toNat)
      case atStart => exact ⟨0, Nat.zero_le _, rfl, HTb.out, HHH_26.out, HYY_26.out, hB_26⟩
      case round =>
        clear HTb HHH_26 HYY_26 hB_26
        obtain ⟨m, hm, rfl, hT, hH, hY, hB⟩ := hrel
        obtain ⟨wB, rfl⟩ : ∃ q : World, q = wr := ⟨_, rfl⟩
        by_cases hm8 : m < 8
        · have hm8z : (m : Int) < 8 := by omega
          have HPM := hide (HPI.out m hm8)
          have hgw := HGI.out m hm8
          obtain ⟨bs, os, rfl, -, hbs, hcs⟩ := (HI.out.below hB) i hlt
          have HSC := hide (fun W (h : Below w.heap.size w W) => (show W.cell? ⟨bs, os + i * 16 + m * 2, none⟩ = some (.int .i64 (F i m).re) ∧ W.cell? ⟨bs, os + i * 16 + m * 2 + 1, none⟩ = some (.int .i64 (F i m).im) from by
            obtain ⟨b1, o1, e1, -, -, h0, h1⟩ := (HI.out.below h).row hlt m hm8
            injection e1 with e1
            injection e1 with e2 e3
            subst e2
            subst e3
            exact ⟨h0, h1⟩))
          have p1 : IntKind.i64.wrap (8 * (F i m).re) = 8 * (F i m).re := IntWalk.i64_in _ (by have := hgw.re; omega)
          have p2 : IntKind.i64.wrap (8 * (F i m).im) = 8 * (F i m).im := IntWalk.i64_in _ (by have := hgw.im; omega)
          obtain ⟨re, hre⟩ : ∃ z, (F i m).re = z := ⟨_, rfl⟩
          obtain ⟨im, him⟩ : ∃ z, (F i m).im = z := ⟨_, rfl⟩
          rw [hre] at p1
          rw [him] at p2
          simp only [hre, him] at HPM HSC
          clear hre him hgw hcs hbs
          obtain ⟨x, hx⟩ : ∃ z, H m = z := ⟨_, rfl⟩
          obtain ⟨y, hy⟩ : ∃ z, T m = z := ⟨_, rfl⟩
          simp only [hx, hy] at HPM
          have HHC := hide (fun W (h : ArrNums W HHbB H) => (show W.cell? ⟨HHbB, m * 4, none⟩ = some (.int .i64 x.a) ∧ W.cell? ⟨HHbB, m * 4 + 1, none⟩ = some (.int .i64 x.b) ∧ W.cell? ⟨HHbB, m * 4 + 2, none⟩ = some (.int .i64 x.c) ∧ W.cell? ⟨HHbB, m * 4 + 3, none⟩ = some (.int .i64 x.d) from by rw [← hx]; exact h.cells hm8))
          have HTC := hide (fun W (h : ArrNums W HTbB T) => (show W.cell? ⟨HTbB, m * 4, none⟩ = some (.int .i64 y.a) ∧ W.cell? ⟨HTbB, m * 4 + 1, none⟩ = some (.int .i64 y.b) ∧ W.cell? ⟨HTbB, m * 4 + 2, none⟩ = some (.int .i64 y.c) ∧ W.cell? ⟨HTbB, m * 4 + 3, none⟩ = some (.int .i64 y.d) from by rw [← hy]; exact h.cells hm8))
          clear hx hy
          have HT0 := hide hT
          have HH0 := hide hH
          have HY0 := hide hY
          clear hT hH hY
          go_upto_region 20 with fail
          go_cut [19, 20] (fun q u wx => (∃ b, q = .pointer (some ⟨b, 0, none⟩) ∧ Box wx b 26 #[.int .i64 y.a, .int .i64 y.b, .int .i64 y.c, .int .i64 y.d]) ∧ u = .int .i64 0 ∧ Below wB.heap.size wB wx)
          case first =>
            have hb_0 : Below wB.heap.size wB wB := Below.refl _ _
            obtain ⟨s0, s1⟩ := HSC.out _ (hB.trans (hb_0.mono hB.size))
            obtain ⟨h0, h1, h2, h3⟩ := HHC.out _ (HH0.out.below hb_0)
            refine wp_region_held_drew (S := fun w' => (w'.cell? ⟨bs, os + i * 16 + m * 2, none⟩ = some (.int .i64 re) ∧ w'.cell? ⟨bs, os + i * 16 + m * 2 + 1, none⟩ = some (.int .i64 im)) ∧ w'.cell? ⟨HHbB, m * 4, none⟩ = some (.int .i64 x.a) ∧ w'.cell? ⟨HHbB, m * 4 + 1, none⟩ = some (.int .i64 x.b) ∧ w'.cell? ⟨HHbB, m * 4 + 2, none⟩ = some (.int .i64 x.c) ∧ w'.cell? ⟨HHbB, m * 4 + 3, none⟩ = some (.int .i64 x.d)) (by kernel_rfl) ⟨⟨s0, s1⟩, h0, h1, h2, h3⟩ (fun hHeld => ?_)
            refine wpAnyH_take (i := 0) (oi := ⟨some 124, _, _, _, _, _⟩) (v := ?_) rfl (by kernel_rfl) (by kernel_rfl) (by kernel_rfl) (fun _ _ _ h => h) (Or.inl ⟨by rfl, ?_⟩) (by assumption) ?_
            rotate_left
            · (intro w' hSw; (try dsimp only at hSw); go_simp <;> (with_reducible rfl))
            try simp only [Act.put, List.setIfInBounds_toArray, List.set_cons_zero, List.set_cons_succ]
            refine wpAnyH_take (i := 1) (oi := ⟨some 125, _, _, _, _, _⟩) (v := ?_) rfl (by kernel_rfl) (by kernel_rfl) (by kernel_rfl) (fun _ _ _ h => h) (Or.inl ⟨by rfl, ?_⟩) (by assumption) ?_
            rotate_left
            · (intro w' hSw; (try dsimp only at hSw); go_simp <;> (with_reducible rfl))
            try simp only [Act.put, List.setIfInBounds_toArray, List.set_cons_zero, List.set_cons_succ]
            refine wpAnyH_take (i := 2) (oi := ⟨some 126, _, _, _, _, _⟩) (v := ?_) rfl (by kernel_rfl) (by kernel_rfl) (by kernel_rfl) (fun _ _ _ h => h) (Or.inl ⟨by rfl, ?_⟩) (by assumption) ?_
            rotate_left
            · (intro w' hSw; (try dsimp only at hSw); go_simp <;> (with_reducible rfl))
            try simp only [Act.put, List.setIfInBounds_toArray, List.set_cons_zero, List.set_cons_succ]
            refine wpAnyH_take (i := 3) (oi := ⟨some 127, _, _, _, _, _⟩) (v := ?_) rfl (by kernel_rfl) (by kernel_rfl) (by kernel_rfl) (fun _ _ _ h => h) (Or.inl ⟨by rfl, ?_⟩) (by assumption) ?_
            rotate_left
            · (intro w' hSw; (try dsimp only at hSw); go_simp <;> (with_reducible rfl))
            try simp only [Act.put, List.setIfInBounds_toArray, List.set_cons_zero, List.set_cons_succ]
            refine wpAnyH_take (i := 4) (oi := ⟨some 128, _, _, _, _, _⟩) (v := ?_) rfl (by kernel_rfl) (by kernel_rfl) (by kernel_rfl) (fun _ _ _ h => h) (Or.inl ⟨by rfl, ?_⟩) (by assumption) ?_
            rotate_left
            · (intro w' hSw; (try dsimp only at hSw); go_simp <;> (with_reducible rfl))
            try simp only [Act.put, List.setIfInBounds_toArray, List.set_cons_zero, List.set_cons_succ]
            refine wpAnyH_take (i := 5) (oi := ⟨some 129, _, _, _, _, _⟩) (v := ?_) rfl (by kernel_rfl) (by kernel_rfl) (by kernel_rfl) (fun _ _ _ h => h) (Or.inl ⟨by rfl, ?_⟩) (by assumption) ?_
            rotate_left
            · (intro w' hSw; (try dsimp only at hSw); go_simp <;> (with_reducible rfl))
            try simp only [Act.put, List.setIfInBounds_toArray, List.set_cons_zero, List.set_cons_succ]
            refine wpAnyH_take (i := 6) (oi := ⟨some 130, _, _, _, _, _⟩) (v := ?_) rfl (by kernel_rfl) (by kernel_rfl) (by kernel_rfl) (fun _ _ _ h => h) (Or.inl ⟨by rfl, ?_⟩) (by assumption) ?_
            rotate_left
            · (intro w' hSw; (try dsimp only at hSw); go_simp <;> (with_reducible rfl))
            try simp only [Act.put, List.setIfInBounds_toArray, List.set_cons_zero, List.set_cons_succ]
            refine wpAnyH_take (i := 7) (oi := ⟨some 131, _, _, _, _, _⟩) (v := ?_) rfl (by kernel_rfl) (by kernel_rfl) (by kernel_rfl) (fun _ _ _ h => h) (Or.inl ⟨by rfl, ?_⟩) (by assumption) ?_
            rotate_left
            · (intro w' hSw; (try dsimp only at hSw); go_simp <;> (with_reducible rfl))
            try simp only [Act.put, List.setIfInBounds_toArray, List.set_cons_zero, List.set_cons_succ]
            refine wpAnyH_take (i := 8) (oi := ⟨some 132, _, _, _, _, _⟩) (v := ?_) rfl (by kernel_rfl) (by kernel_rfl) (by kernel_rfl) (fun _ _ _ h => h) (Or.inl ⟨by rfl, ?_⟩) (by assumption) ?_
            rotate_left
            · (intro w' hSw; (try dsimp only at hSw); go_simp <;> (with_reducible rfl))
            try simp only [Act.put, List.setIfInBounds_toArray, List.set_cons_zero, List.set_cons_succ]
            refine wpAnyH_take (i := 9) (oi := ⟨some 133, _, _, _, _, _⟩) (v := ?_) rfl (by kernel_rfl) (by kernel_rfl) (by kernel_rfl) (fun _ _ _ h => h) (Or.inl ⟨by rfl, ?_⟩) (by assumption) ?_
            rotate_left
            · (intro w' hSw; (try dsimp only at hSw); go_simp <;> (with_reducible rfl))
            try simp only [Act.put, List.setIfInBounds_toArray, List.set_cons_zero, List.set_cons_succ]
            refine wpAnyH_take (i := 10) (oi := ⟨some 134, _, _, _, _, _⟩) (v := ?_) rfl (by kernel_rfl) (by kernel_rfl) (by kernel_rfl) (fun _ _ _ h => h) (Or.inl ⟨by rfl, ?_⟩) (by assumption) ?_
            rotate_left
            · (intro w' hSw; (try dsimp only at hSw); go_simp <;> (with_reducible rfl))
            try simp only [Act.put, List.setIfInBounds_toArray, List.set_cons_zero, List.set_cons_succ]
            refine wpAnyH_take (i := 11) (oi := ⟨some 135, _, _, _, _, _⟩) (v := ?_) rfl (by kernel_rfl) (by kernel_rfl) (by kernel_rfl) (fun _ _ _ h => h) (Or.inl ⟨by rfl, ?_⟩) (by assumption) ?_
            rotate_left
            · (intro w' hSw; (try dsimp only at hSw); go_simp <;> (with_reducible rfl))
            try simp only [Act.put, List.setIfInBounds_toArray, List.set_cons_zero, List.set_cons_succ]
            refine wpAnyH_take (i := 12) (oi := ⟨some 136, _, _, _, _, _⟩) (v := ?_) rfl (by kernel_rfl) (by kernel_rfl) (by kernel_rfl) (fun _ _ _ h => h) (Or.inl ⟨by rfl, ?_⟩) (by assumption) ?_
            rotate_left
            · (intro w' hSw; (try dsimp only at hSw); go_simp <;> (with_reducible rfl))
            try simp only [Act.put, List.setIfInBounds_toArray, List.set_cons_zero, List.set_cons_succ]
            refine wpAnyH_take (i := 13) (oi := ⟨some 137, _, _, _, _, _⟩) (v := ?_) rfl (by kernel_rfl) (by kernel_rfl) (by kernel_rfl) (fun _ _ _ h => h) (Or.inl ⟨by rfl, ?_⟩) (by assumption) ?_
            rotate_left
            · (intro w' hSw; (try dsimp only at hSw); go_simp <;> (with_reducible rfl))
            try simp only [Act.put, List.setIfInBounds_toArray, List.set_cons_zero, List.set_cons_succ]
            refine wpAnyH_take (i := 14) (oi := ⟨some 138, _, _, _, _, _⟩) (v := ?_) rfl (by kernel_rfl) (by kernel_rfl) (by kernel_rfl) (fun _ _ _ h => h) (Or.inl ⟨by rfl, ?_⟩) (by assumption) ?_
            rotate_left
            · (intro w' hSw; (try dsimp only at hSw); go_simp <;> (with_reducible rfl))
            try simp only [Act.put, List.setIfInBounds_toArray, List.set_cons_zero, List.set_cons_succ]
            refine wpAnyH_take (i := 15) (oi := ⟨some 139, _, _, _, _, _⟩) (v := ?_) rfl (by kernel_rfl) (by kernel_rfl) (by kernel_rfl) (fun _ _ _ h => h) (Or.inl ⟨by rfl, ?_⟩) (by assumption) ?_
            rotate_left
            · (intro w' hSw; (try dsimp only at hSw); go_simp <;> (with_reducible rfl))
            try simp only [Act.put, List.setIfInBounds_toArray, List.set_cons_zero, List.set_cons_succ]
            refine wpAnyH_take (i := 16) (oi := ⟨some 140, _, _, _, _, _⟩) (v := ?_) rfl (by kernel_rfl) (by kernel_rfl) (by kernel_rfl) (fun _ _ _ h => h) (Or.inl ⟨by rfl, ?_⟩) (by assumption) ?_
            rotate_left
            · (intro w' hSw; (try dsimp only at hSw); go_simp <;> (with_reducible rfl))
            try simp only [Act.put, List.setIfInBounds_toArray, List.set_cons_zero, List.set_cons_succ]
            refine wpAnyH_take (i := 17) (oi := ⟨some 141, _, _, _, _, _⟩) (v := ?_) rfl (by kernel_rfl) (by kernel_rfl) (by kernel_rfl) (fun _ _ _ h => h) (Or.inl ⟨by rfl, ?_⟩) (by assumption) ?_
            rotate_left
            · (intro w' hSw; (try dsimp only at hSw); go_simp <;> (with_reducible rfl))
            try simp only [Act.put, List.setIfInBounds_toArray, List.set_cons_zero, List.set_cons_succ]
            refine wpAnyH_take (i := 18) (oi := ⟨some 142, _, _, _, _, _⟩) (v := ?_) rfl (by kernel_rfl) (by kernel_rfl) (by kernel_rfl) (fun _ _ _ h => h) (Or.inl ⟨by rfl, ?_⟩) (by assumption) ?_
            rotate_left
            · (intro w' hSw; (try dsimp only at hSw); go_simp <;> (with_reducible rfl))
            try simp only [Act.put, List.setIfInBounds_toArray, List.set_cons_zero, List.set_cons_succ]
            refine wpAnyH_take (i := 19) (oi := ⟨some 143, _, _, _, _, _⟩) (v := ?_) rfl (by kernel_rfl) (by kernel_rfl) (by kernel_rfl) (fun _ _ _ h => h) (Or.inl ⟨by rfl, ?_⟩) (by assumption) ?_
            rotate_left
            · (intro w' hSw; (try dsimp only at hSw); go_simp <;> (with_reducible rfl))
            try simp only [Act.put, List.setIfInBounds_toArray, List.set_cons_zero, List.set_cons_succ]
            refine wpAnyH_ready (rs := [20, 24]) (by kernel_rfl) (by simp) ?_
            refine AllReadyH.cons (o := ⟨some 144, _, _, _, _, _⟩) rfl (fun K' hK => ?_) (AllReadyH.cons (o := ⟨some 19, _, _, _, _, _⟩) rfl (fun K' hK => ?_) AllReadyH.nil)
            · skip
              go_simp
              go_at_call 42
              refine (HPM.out _).mono ?_
              rintro e w_27 ⟨rfl, hb'⟩
              have hc : Below wB.heap.size wB w_27 := by first | exact hb' | exact below_of_drew hb' | exact below_of_drew (below_of_drew hb')
              have hb_27 := hb_0.trans (hc.mono hb_0.size)
              clear hb' hc
              clear s0 s1 h0 h1 h2 h3
              obtain ⟨s0, s1⟩ := HSC.out _ (hB.trans (hb_27.mono hB.size))
              obtain ⟨h0, h1, h2, h3⟩ := HHC.out _ (HH0.out.below hb_27)
              go_wp2_with fail
              refine hK.out _ _ ⟨⟨s0, s1⟩, h0, h1, h2, h3⟩ (fun hHeld => ?_)
              clear hK K'
              try simp only [Act.put, List.setIfInBounds_toArray, List.set_cons_zero, List.set_cons_succ]
              refine wpAnyH_take (i := 21) (oi := ⟨some 123, _, _, _, _, _⟩) (v := ?_) rfl (by kernel_rfl) (by kernel_rfl) (by kernel_rfl) (fun _ _ _ h => h) (Or.inl ⟨by rfl, ?_⟩) (by assumption) ?_
              rotate_left
              · (intro w' hSw; (try dsimp only at hSw); go_simp <;> (with_reducible rfl))
              try simp only [Act.put, List.setIfInBounds_toArray, List.set_cons_zero, List.set_cons_succ]
              refine wpAnyH_take (i := 22) (oi := ⟨some 145, _, _, _, _, _⟩) (v := ?_) rfl (by kernel_rfl) (by kernel_rfl) (by kernel_rfl) (fun _ _ _ h => h) (Or.inl ⟨by rfl, ?_⟩) (by assumption) ?_
              rotate_left
              · (intro w' hSw; (try dsimp only at hSw); go_simp <;> (with_reducible rfl))
              try simp only [Act.put, List.setIfInBounds_toArray, List.set_cons_zero, List.set_cons_succ]
              refine wpAnyH_take (i := 23) (oi := ⟨some 146, _, _, _, _, _⟩) (v := ?_) rfl (by kernel_rfl) (by kernel_rfl) (by kernel_rfl) (fun _ _ _ h => h) (Or.inl ⟨by rfl, ?_⟩) (by assumption) ?_
              rotate_left
              · (intro w' hSw; (try dsimp only at hSw); go_simp <;> (with_reducible rfl))
              try simp only [Act.put, List.setIfInBounds_toArray, List.set_cons_zero, List.set_cons_succ]
              refine wpAnyH_ready (rs := [24]) (by kernel_rfl) (by simp) ?_
              refine AllReadyH.cons (o := ⟨some 19, _, _, _, _, _⟩) rfl (fun K' hK => ?_) AllReadyH.nil
              go_simp
              obtain ⟨b9, hb9⟩ : ∃ q, w_27.heap.size = q := ⟨_, rfl⟩
              have A_28 : Box (w_27.alloc (.cells #[.int .i64 0, .int .i64 0, .int .i64 0, .int .i64 0] 26)) b9 26 #[.int .i64 0, .int .i64 0, .int .i64 0, .int .i64 0] := Box.made hb9.symm
              have hb_28 : Below wB.heap.size wB (w_27.alloc (.cells #[.int .i64 0, .int .i64 0, .int .i64 0, .int .i64 0] 26)) := hb_27.alloc hb_27.size _
              have hle : wB.heap.size ≤ b9 := by have := hb_27.size; omega
              clear s0 s1 h0 h1 h2 h3
              obtain ⟨s0, s1⟩ := HSC.out _ (hB.trans (hb_28.mono hB.size))
              obtain ⟨h0, h1, h2, h3⟩ := HHC.out _ (HH0.out.below hb_28)
              try simp only [hb9]
              refine hK.out _ _ ⟨⟨s0, s1⟩, h0, h1, h2, h3⟩ (fun hHeld => ?_)
              clear hK K'
              try simp only [Act.put, List.setIfInBounds_toArray, List.set_cons_zero, List.set_cons_succ]
              refine wpAnyH_ready (rs := [25]) (by kernel_rfl) (by simp) ?_
              refine AllReadyH.cons (o := ⟨none, _, _, _, _, _⟩) rfl (fun K' hK => ?_) AllReadyH.nil
              refine step_store_num rfl (.tmp 19) (.tmp 145) rfl b9 y #[.int .i64 0, .int .i64 0, .int .i64 0, .int .i64 0] rfl rfl (by have h := A_28; exact h) rfl (fun W9 r9 o9 => ?_)
              have hb_29 : Below wB.heap.size wB W9 := hb_28.trans (Only.to_below (a := (w_27.alloc (.cells #[.int .i64 0, .int .i64 0, .int .i64 0, .int .i64 0] 26))) (by have h := o9; exact h) hle hb_28.size)
              clear s0 s1 h0 h1 h2 h3
              clear o9
              obtain ⟨s0, s1⟩ := HSC.out _ (hB.trans (hb_29.mono hB.size))
              obtain ⟨h0, h1, h2, h3⟩ := HHC.out _ (HH0.out.below hb_29)
              refine hK.out _ _ ⟨⟨s0, s1⟩, h0, h1, h2, h3⟩ (fun hHeld => ?_)
              clear hK K'
              try simp only [Act.put, List.setIfInBounds_toArray, List.set_cons_zero, List.set_cons_succ]
              refine wpAnyH_take (i := 26) (oi := ⟨some 20, _, _, _, _, _⟩) (v := ?_) rfl (by kernel_rfl) (by kernel_rfl) (by kernel_rfl) (fun _ _ _ h => h) (Or.inl ⟨by rfl, ?_⟩) (by assumption) ?_
              rotate_left
              · (intro w' hSw; (try dsimp only at hSw); go_simp <;> (with_reducible rfl))
              try simp only [Act.put, List.setIfInBounds_toArray, List.set_cons_zero, List.set_cons_succ]
              refine wpAnyH_done (by kernel_rfl) ?_ _
              go_wp2_with fail
              go_meet
              case rel => exact ⟨⟨b9, rfl, r9⟩, rfl, hb_29⟩
            · skip
              go_simp
              obtain ⟨b9, hb9⟩ : ∃ q, wB.heap.size = q := ⟨_, rfl⟩
              have A_30 : Box (wB.alloc (.cells #[.int .i64 0, .int .i64 0, .int .i64 0, .int .i64 0] 26)) b9 26 #[.int .i64 0, .int .i64 0, .int .i64 0, .int .i64 0] := Box.made hb9.symm
              have hb_30 : Below wB.heap.size wB (wB.alloc (.cells #[.int .i64 0, .int .i64 0, .int .i64 0, .int .i64 0] 26)) := hb_0.alloc hb_0.size _
              have hle : wB.heap.size ≤ b9 := by have := hb_0.size; omega
              clear s0 s1 h0 h1 h2 h3
              obtain ⟨s0, s1⟩ := HSC.out _ (hB.trans (hb_30.mono hB.size))
              obtain ⟨h0, h1, h2, h3⟩ := HHC.out _ (HH0.out.below hb_30)
              try simp only [hb9]
              refine hK.out _ _ ⟨⟨s0, s1⟩, h0, h1, h2, h3⟩ (fun hHeld => ?_)
              clear hK K'
              try simp only [Act.put, List.setIfInBounds_toArray, List.set_cons_zero, List.set_cons_succ]
              refine wpAnyH_ready (rs := [20]) (by kernel_rfl) (by simp) ?_
              refine AllReadyH.cons (o := ⟨some 144, _, _, _, _, _⟩) rfl (fun K' hK => ?_) AllReadyH.nil
              go_simp
              go_at_call 42
              refine (HPM.out _).mono ?_
              rintro e w_31 ⟨rfl, hb'⟩
              have hc : Below (wB.alloc (.cells #[.int .i64 0, .int .i64 0, .int .i64 0, .int .i64 0] 26)).heap.size (wB.alloc (.cells #[.int .i64 0, .int .i64 0, .int .i64 0, .int .i64 0] 26)) w_31 := by first | exact hb' | exact below_of_drew hb' | exact below_of_drew (below_of_drew hb')
              have hb_31 := hb_30.trans (hc.mono hb_30.size)
              have A_31 := A_30.below hc
              clear hb' hc
              clear s0 s1 h0 h1 h2 h3
              obtain ⟨s0, s1⟩ := HSC.out _ (hB.trans (hb_31.mono hB.size))
              obtain ⟨h0, h1, h2, h3⟩ := HHC.out _ (HH0.out.below hb_31)
              go_wp2_with fail
              refine hK.out _ _ ⟨⟨s0, s1⟩, h0, h1, h2, h3⟩ (fun hHeld => ?_)
              clear hK K'
              try simp only [Act.put, List.setIfInBounds_toArray, List.set_cons_zero, List.set_cons_succ]
              refine wpAnyH_take (i := 21) (oi := ⟨some 123, _, _, _, _, _⟩) (v := ?_) rfl (by kernel_rfl) (by kernel_rfl) (by kernel_rfl) (fun _ _ _ h => h) (Or.inl ⟨by rfl, ?_⟩) (by assumption) ?_
              rotate_left
              · (intro w' hSw; (try dsimp only at hSw); go_simp <;> (with_reducible rfl))
              try simp only [Act.put, List.setIfInBounds_toArray, List.set_cons_zero, List.set_cons_succ]
              refine wpAnyH_take (i := 22) (oi := ⟨some 145, _, _, _, _, _⟩) (v := ?_) rfl (by kernel_rfl) (by kernel_rfl) (by kernel_rfl) (fun _ _ _ h => h) (Or.inl ⟨by rfl, ?_⟩) (by assumption) ?_
              rotate_left
              · (intro w' hSw; (try dsimp only at hSw); go_simp <;> (with_reducible rfl))
              try simp only [Act.put, List.setIfInBounds_toArray, List.set_cons_zero, List.set_cons_succ]
              refine wpAnyH_take (i := 23) (oi := ⟨some 146, _, _, _, _, _⟩) (v := ?_) rfl (by kernel_rfl) (by kernel_rfl) (by kernel_rfl) (fun _ _ _ h => h) (Or.inl ⟨by rfl, ?_⟩) (by assumption) ?_
              rotate_left
              · (intro w' hSw; (try dsimp only at hSw); go_simp <;> (with_reducible rfl))
              try simp only [Act.put, List.setIfInBounds_toArray, List.set_cons_zero, List.set_cons_succ]
              refine wpAnyH_ready (rs := [25]) (by kernel_rfl) (by simp) ?_
              refine AllReadyH.cons (o := ⟨none, _, _, _, _, _⟩) rfl (fun K' hK => ?_) AllReadyH.nil
              refine step_store_num rfl (.tmp 19) (.tmp 145) rfl b9 y #[.int .i64 0, .int .i64 0, .int .i64 0, .int .i64 0] rfl rfl (by have h := A_31; exact h) rfl (fun W9 r9 o9 => ?_)
              have hb_32 : Below wB.heap.size wB W9 := hb_31.trans (Only.to_below (a := w_31) (by have h := o9; exact h) hle hb_31.size)
              clear s0 s1 h0 h1 h2 h3
              clear o9
              obtain ⟨s0, s1⟩ := HSC.out _ (hB.trans (hb_32.mono hB.size))
              obtain ⟨h0, h1, h2, h3⟩ := HHC.out _ (HH0.out.below hb_32)
              refine hK.out _ _ ⟨⟨s0, s1⟩, h0, h1, h2, h3⟩ (fun hHeld => ?_)
              clear hK K'
              try simp only [Act.put, List.setIfInBounds_toArray, List.set_cons_zero, List.set_cons_succ]
              refine wpAnyH_take (i := 26) (oi := ⟨some 20, _, _, _, _, _⟩) (v := ?_) rfl (by kernel_rfl) (by kernel_rfl) (by kernel_rfl) (fun _ _ _ h => h) (Or.inl ⟨by rfl, ?_⟩) (by assumption) ?_
              rotate_left
              · (intro w' hSw; (try dsimp only at hSw); go_simp <;> (with_reducible rfl))
              try simp only [Act.put, List.setIfInBounds_toArray, List.set_cons_zero, List.set_cons_succ]
              refine wpAnyH_done (by kernel_rfl) ?_ _
              go_wp2_with fail
              go_meet
              case rel => exact ⟨⟨b9, rfl, r9⟩, rfl, hb_32⟩
          case rest =>
          obtain ⟨⟨b, rfl, hbx⟩, rfl, hbc⟩ := hcut
          obtain ⟨wQ, rfl⟩ : ∃ x : World, x = wc := ⟨_, rfl⟩
          have hB5 := hB.trans (hbc.mono hB.size)
          have HT5 := hide (HT0.out.below hbc)
          have HH5 := hide (HH0.out.below hbc)
          have HY5 := hide (HY0.out.below hbc)
          have HBX := hide hbx
          clear hbc hB HT0 HH0 HY0 hbx
          obtain ⟨u0, u1, u2, u3⟩ := HTC.out _ HT5.out
          have v0 := HBX.out.at_ 0
          have v1 := HBX.out.at_ 1
          have v2 := HBX.out.at_ 2
          have v3 := HBX.out.at_ 3
          simp only [List.getElem?_toArray] at v0 v1 v2 v3
          go_upto_region 21 with fail
          refine wp_region_held_drew (S := fun w' => (w'.cell? ⟨HTbB, m * 4, none⟩ = some (.int .i64 y.a) ∧ w'.cell? ⟨HTbB, m * 4 + 1, none⟩ = some (.int .i64 y.b) ∧ w'.cell? ⟨HTbB, m * 4 + 2, none⟩ = some (.int .i64 y.c) ∧ w'.cell? ⟨HTbB, m * 4 + 3, none⟩ = some (.int .i64 y.d)) ∧ w'.cell? ⟨b, 0, none⟩ = some (.int .i64 y.a) ∧ w'.cell? ⟨b, 1, none⟩ = some (.int .i64 y.b) ∧ w'.cell? ⟨b, 2, none⟩ = some (.int .i64 y.c) ∧ w'.cell? ⟨b, 3, none⟩ = some (.int .i64 y.d)) (by kernel_rfl) ⟨⟨u0, u1, u2, u3⟩, v0, v1, v2, v3⟩ (fun hHeld => ?_)
          refine wpAnyH_take (i := 0) (oi := ⟨some 147, _, _, _, _, _⟩) (v := ?_) rfl (by kernel_rfl) (by kernel_rfl) (by kernel_rfl) (fun _ _ _ h => h) (Or.inl ⟨by rfl, ?_⟩) (by assumption) ?_
          rotate_left
          · (intro w' hSw; (try dsimp only at hSw); go_simp <;> (with_reducible rfl))
          try simp only [Act.put, List.setIfInBounds_toArray, List.set_cons_zero, List.set_cons_succ]
          refine wpAnyH_take (i := 1) (oi := ⟨some 148, _, _, _, _, _⟩) (v := ?_) rfl (by kernel_rfl) (by kernel_rfl) (by kernel_rfl) (fun _ _ _ h => h) (Or.inl ⟨by rfl, ?_⟩) (by assumption) ?_
          rotate_left
          · (intro w' hSw; (try dsimp only at hSw); go_simp <;> (with_reducible rfl))
          try simp only [Act.put, List.setIfInBounds_toArray, List.set_cons_zero, List.set_cons_succ]
          refine wpAnyH_take (i := 2) (oi := ⟨some 149, _, _, _, _, _⟩) (v := ?_) rfl (by kernel_rfl) (by kernel_rfl) (by kernel_rfl) (fun _ _ _ h => h) (Or.inl ⟨by rfl, ?_⟩) (by assumption) ?_
          rotate_left
          · (intro w' hSw; (try dsimp only at hSw); go_simp <;> (with_reducible rfl))
          try simp only [Act.put, List.setIfInBounds_toArray, List.set_cons_zero, List.set_cons_succ]
          refine wpAnyH_take (i := 3) (oi := ⟨some 150, _, _, _, _, _⟩) (v := ?_) rfl (by kernel_rfl) (by kernel_rfl) (by kernel_rfl) (fun _ _ _ h => h) (Or.inl ⟨by rfl, ?_⟩) (by assumption) ?_
          rotate_left
          · (intro w' hSw; (try dsimp only at hSw); go_simp <;> (with_reducible rfl))
          try simp only [Act.put, List.setIfInBounds_toArray, List.set_cons_zero, List.set_cons_succ]
          refine wpAnyH_take (i := 4) (oi := ⟨some 151, _, _, _, _, _⟩) (v := ?_) rfl (by kernel_rfl) (by kernel_rfl) (by kernel_rfl) (fun _ _ _ h => h) (Or.inl ⟨by rfl, ?_⟩) (by assumption) ?_
          rotate_left
          · (intro w' hSw; (try dsimp only at hSw); go_simp <;> (with_reducible rfl))
          try simp only [Act.put, List.setIfInBounds_toArray, List.set_cons_zero, List.set_cons_succ]
          refine wpAnyH_take (i := 5) (oi := ⟨some 152, _, _, _, _, _⟩) (v := ?_) rfl (by kernel_rfl) (by kernel_rfl) (by kernel_rfl) (fun _ _ _ h => h) (Or.inl ⟨by rfl, ?_⟩) (by assumption) ?_
          rotate_left
          · (intro w' hSw; (try dsimp only at hSw); go_simp <;> (with_reducible rfl))
          try simp only [Act.put, List.setIfInBounds_toArray, List.set_cons_zero, List.set_cons_succ]
          refine wpAnyH_take (i := 6) (oi := ⟨some 153, _, _, _, _, _⟩) (v := ?_) rfl (by kernel_rfl) (by kernel_rfl) (by kernel_rfl) (fun _ _ _ h => h) (Or.inl ⟨by rfl, ?_⟩) (by assumption) ?_
          rotate_left
          · (intro w' hSw; (try dsimp only at hSw); go_simp <;> (with_reducible rfl))
          try simp only [Act.put, List.setIfInBounds_toArray, List.set_cons_zero, List.set_cons_succ]
          refine wpAnyH_take (i := 7) (oi := ⟨some 154, _, _, _, _, _⟩) (v := (.bool false)) rfl (by kernel_rfl) (by kernel_rfl) (by kernel_rfl) (fun _ _ _ h => h) (Or.inl ⟨by rfl, fun w' hSw => by go_simp⟩) (by assumption) ?_
          try simp only [Act.put, List.setIfInBounds_toArray, List.set_cons_zero, List.set_cons_succ]
          refine wpAnyH_take (i := 8) (oi := ⟨some 155, _, _, _, _, _⟩) (v := ?_) rfl (by kernel_rfl) (by kernel_rfl) (by kernel_rfl) (fun _ _ _ h => h) (Or.inl ⟨by rfl, ?_⟩) (by assumption) ?_
          rotate_left
          · (intro w' hSw; (try dsimp only at hSw); go_simp <;> (with_reducible rfl))
          try simp only [Act.put, List.setIfInBounds_toArray, List.set_cons_zero, List.set_cons_succ]
          refine wpAnyH_done (by kernel_rfl) ?_ _
          go_wp2_with fail
          go_roundw
          case rel => exact ⟨m + 1, by omega, by go_num, HT5.out, HH5.out, HY5.out, hB5.drew⟩
          case measure => simp [Go.RowKit.intOf]; omega
        · obtain rfl : m = 8 := by omega
          go_wp2_with fail
          go_roundw
          case rel => exact ⟨i + 1, by omega, by go_num, hH, hY, hB⟩
          case measure => simp [Go.RowKit.intOf]; omega
    · obtain rfl : i = n := by omega
      go_wp2_with fail
      go_ret
      exact ⟨rfl, hB⟩
end Go.Proofs.Ytfemghbjngemlaa
