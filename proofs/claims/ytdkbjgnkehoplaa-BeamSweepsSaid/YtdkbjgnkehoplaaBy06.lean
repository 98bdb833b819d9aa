/- Lemmas: E4, We, Wi, E5, Wk. -/
import Derived.Laws.Bits64b
import Derived.Lib.Mul64
import Derived.Test.YtdkbjgnkehoplaaBy01
import Derived.Test.YtdkbjgnkehoplaaBy03
import Derived.Test.YtdkbjgnkehoplaaBy05
set_option linter.unusedVariables false
set_option linter.unusedSimpArgs false
/- responseOf of the code. -/
namespace Go.Proofs.Ytdkbjgnkehoplaa
open Go.RowKit Go.Great
/-- The phase with which an antenna is received in a direction. -/
def ahF (F : Nat → Int) (s j : Nat) : Int := if F j = -1 then -1 else (F j + ((j * s : Nat) : Int)) % 8
def oneG : Gau := ⟨1, 0⟩
/-- The response of the first n antennas. -/
def rsN (F : Nat → Int) (s n : Nat) : Num := tsN (ahF F s) (fun _ => oneG) n
theorem ahF_in {F : Nat → Int} {s j : Nat} : -1 ≤ ahF F s j ∧ ahF F s j ≤ 7 := by
  unfold ahF
  split <;> omega
theorem oneG_within : oneG.Within 1 := ⟨by decide, by decide⟩
theorem rsN_within (F : Nat → Int) (s n : Nat) : (rsN F s n).Within n := by
  have h := tsN_within (F := ahF F s) (X := fun _ => oneG) (M := 1) (by decide) n fun _ _ => oneG_within
  rw [Int.mul_one] at h
  exact h
theorem cpxInfo : (Try.prog.info? 118).map (fun i => (i.zero, i.size, i.bytes)) = some (some (.complex .f64 0 0), 1, 16) := by kernel_rfl
theorem CpxAt.of_row {w : World} {g n : Nat} {t : TypeId} {U V : Nat → Nat} (h : w.rowIs g t n (fun j => .complex .f64 (U j) (V j))) : CpxAt w (some ⟨g, 0, none⟩) n U V := fun k hk =>
  ⟨g, 0, rfl, h.lt, by rw [Nat.zero_add]; exact h.cell hk⟩
set_option maxHeartbeats 8000000 in
set_option maxRecDepth 100000 in
theorem responseOf_any (A : Option Addr) (n c : Nat) (F : Nat → Int) (s : Nat) (w : World) (hn : n ≤ 100) (hs : s ≤ 7) (hI : IntsAt w 0 A n F) (hF : ∀ j, j < n → -1 ≤ F j ∧ F j ≤ 7) :
    Calls Try.prog 103 #[.agg #[.slice A n c], .int .i64 (s : Int)] w fun e w' => e = .returned (.agg #[.int .i64 (rsN F s n).a, .int .i64 (rsN F s n).b, .int .i64 (rsN F s n).c, .int .i64 (rsN F s n).d]) ∧ Below w.heap.size w w' := by
  obtain ⟨i0, hi, hz0, hz1, hz2⟩ := info_parts intInfo
  have hmk := fun W => run_make_row (P := Try.prog) 27 3 i0 (.int .i64 0) Try.underlying27 hi hz0 hz1 rfl .i64 .i64 n (by rw [hz2]; omega) (by omega) W
  obtain ⟨i1, hj, hy0, hy1, hy2⟩ := info_parts cpxInfo
  have hmc := fun W => run_make_row (P := Try.prog) 120 118 i1 (.complex .f64 0 0) Try.underlying120 hj hy0 hy1 rfl .i64 .i64 n (by rw [hy2]; omega) (by omega) W
  have HI := hide hI
  have HF := hide hF
  have HTS := hide (fun g5 g6 W (h : IntsAt W 0 (some ⟨g5, 0, none⟩) n (ahF F s)) (k : CpxAt W (some ⟨g6, 0, none⟩) n (fun _ => 4607182418800017408) (fun _ => 0)) => (show Calls Try.prog 118 #[.slice (some ⟨g5, 0, none⟩) n n, .slice (some ⟨g6, 0, none⟩) n n] W fun e w' => e = .returned (.agg #[.int .i64 (rsN F s n).a, .int .i64 (rsN F s n).b, .int .i64 (rsN F s n).c, .int .i64 (rsN F s n).d]) ∧ Below W.heap.size W w' from turnedSum_any _ _ n n n (ahF F s) (fun _ => 4607182418800017408) (fun _ => 0) (fun _ => oneG) W (by omega) h k (fun _ _ => ahF_in) (fun _ _ => ⟨whole_one, whole_zero⟩) (fun _ _ => oneG_within.more (by decide))))
  have HA := hide (fun j => (show ahF F s j = if F j = -1 then -1 else (F j + ((j * s : Nat) : Int)) % 8 from rfl))
  obtain ⟨S, hS⟩ : ∃ z, rsN F s n = z := ⟨_, rfl⟩
  rw [hS] at HTS
  have HSE := hide hS
  obtain ⟨T, hT⟩ : ∃ z, ahF F s = z := ⟨_, rfl⟩
  simp only [hT] at HTS HA
  clear hI hF hS hT hi hz0 hz1 hz2 hj hy0 hy1 hy2
  go_enter Try.func103, Try.ntmps103
  go_upto_region 1 with fail
  obtain ⟨W0, hW0⟩ : ∃ q : World, q = (w.alloc (.cells #[.slice A n c] 43)).alloc (.cells #[.int .i64 0, .int .i64 0, .int .i64 0, .int .i64 0] 109) := ⟨_, rfl⟩
  rw [← hW0]
  have b2 : Box W0 w.heap.size 43 #[.slice A n c] := by rw [hW0]; exact (Box.made rfl).alloc _
  have b4 : Box W0 (w.heap.size + 1) 109 #[.int .i64 0, .int .i64 0, .int .i64 0, .int .i64 0] := by rw [hW0]; exact Box.made (by simp)
  have hB0 : Below w.heap.size w W0 := by rw [hW0]; (repeat (first | (with_reducible exact Below.refl _ _) | (with_reducible refine Go.below_drewN ?_ _) | (with_reducible refine Below.drew ?_) | (with_reducible refine Below.alloc ?_ (by first | exact Nat.le_refl _ | (simp; done) | (simp; omega) | omega) _) | (with_reducible refine Below.setCell ?_ (by first | exact Nat.le_refl _ | (simp; done) | (simp; omega) | omega) _)))
  have hs0 : W0.heap.size = w.heap.size + 1 + 1 := by rw [hW0]; simp
  clear hW0
  obtain ⟨x0, -, hlx⟩ := b2.c1
  go_upto_region 2 with fail
  obtain ⟨W1, hW1⟩ : ∃ q : World, q = W0.alloc (.cells (madeCells #[.int .i64 0] n) 3) := ⟨_, rfl⟩
  try rw [← hW1]
  have r5 : W1.rowIs (w.heap.size + 1 + 1) 3 n (fun _ => .int .i64 0) := by rw [hW1, ← hs0]; exact World.rowIs_made W0 (.int .i64 0) n 3
  have b21 : Box W1 w.heap.size 43 #[.slice A n c] := by rw [hW1]; exact b2.alloc _
  have b41 : Box W1 (w.heap.size + 1) 109 #[.int .i64 0, .int .i64 0, .int .i64 0, .int .i64 0] := by rw [hW1]; exact b4.alloc _
  have hB1 : Below w.heap.size w W1 := by rw [hW1]; exact hB0.alloc hB0.size _
  have hs1 : W1.heap.size = w.heap.size + 1 + 1 + 1 := by rw [hW1]; simp [hs0]
  try simp only [hs0]
  clear hW1 b2 b4 hB0 hs0 x0 hlx hmk
  obtain ⟨x0, -, hlx⟩ := b21.c1
  go_upto_region 3 with fail
  obtain ⟨W2, hW2⟩ : ∃ q : World, q = W1.alloc (.cells (madeCells #[.complex .f64 0 0] n) 118) := ⟨_, rfl⟩
  try rw [← hW2]
  have r6 : W2.rowIs (w.heap.size + 1 + 1 + 1) 118 n (fun _ => .complex .f64 0 0) := by rw [hW2, ← hs1]; exact World.rowIs_made W1 (.complex .f64 0 0) n 118
  have r52 : W2.rowIs (w.heap.size + 1 + 1) 3 n (fun _ => .int .i64 0) := by rw [hW2]; exact r5.alloc _
  have b22 : Box W2 w.heap.size 43 #[.slice A n c] := by rw [hW2]; exact b21.alloc _
  have b42 : Box W2 (w.heap.size + 1) 109 #[.int .i64 0, .int .i64 0, .int .i64 0, .int .i64 0] := by rw [hW2]; exact b41.alloc _
  have hB2 : Below w.heap.size w W2 := by rw [hW2]; exact hB1.alloc hB1.size _
  try simp only [hs1]
  clear hW2 b21 b41 hB1 hs1 x0 hlx hmc r5
  obtain ⟨x0, -, hlx⟩ := b22.c1
  go_wp2_with fail
  go_loopw [20] (fun i wr => ∃ k : Nat, k ≤ n ∧ i = .int .i64 (k : Int) ∧ Box wr (w.heap.size + 1) 109 #[.int .i64 0, .int .i64 0, .int .i64 0, .int .i64 0] ∧ wr.rowIs (w.heap.size + 1 + 1) 3 n (fun j => .int .i64 (if j < k then T j else 0)) ∧ wr.rowIs (w.heap.size + 1 + 1 + 1) 118 n (fun j => .complex .f64 (if j < k then 4607182418800017408 else 0) 0) ∧ Below w.heap.size w wr) (fun i _ => n - (Go.RowKit.intOf i).toNat)
  case atStart => exact ⟨0, Nat.zero_le _, rfl, b42, r52.congr (fun _ _ => by simp), r6.congr (fun _ _ => by simp), hB2⟩
  case round =>
    clear b22 b42 r52 r6 hB2 x0 hlx
    obtain ⟨k, hk, rfl, hb4, h5, h6, hB⟩ := hrel
    obtain ⟨wA, rfl⟩ : ∃ x : World, x = wr := ⟨_, rfl⟩
    have n45 : w.heap.size + 1 ≠ w.heap.size + 1 + 1 := by omega
    have n46 : w.heap.size + 1 ≠ w.heap.size + 1 + 1 + 1 := by omega
    have n56 : w.heap.size + 1 + 1 ≠ w.heap.size + 1 + 1 + 1 := by omega
    have n65 : w.heap.size + 1 + 1 + 1 ≠ w.heap.size + 1 + 1 := by omega
    by_cases hlt : k < n
    · have hltz : (k : Int) < (n : Int) := by omega
      obtain ⟨b, o, rfl, -, hbl, hcell⟩ := (HI.out.below hB) k hlt
      have hbw : b < w.heap.size := by
        obtain ⟨b', o', e, -, h', -⟩ := HI.out k hlt
        injection e with e; injection e with e _; subst e; exact h'
      have hfk := HF.out k hlt
      have HAK := hide (HA.out k)
      have hc5 := h5.cell hlt
      have hf5 := h5.frozen k
      have hc6 := h6.cell hlt
      have hf6 := h6.frozen k
      have hst : Sem.run Try.prog (Go.store ⟨w.heap.size + 1 + 1 + 1, k, none⟩ (.complex .f64 4607182418800017408 0)) wA = .ok () (wA.setCell ⟨w.heap.size + 1 + 1 + 1, k, none⟩ (.complex .f64 4607182418800017408 0)) := by rw [run_store _ _ _ _ _ rfl]; simp [hc6, hf6]
      have hl5 := h5.lt
      have hl6 := h6.lt
      have hnb5 : b ≠ w.heap.size + 1 + 1 := by omega
      have hnb6 : b ≠ w.heap.size + 1 + 1 + 1 := by omega
      have HR6 := hide ((h6.set k (.complex .f64 4607182418800017408 0)).congr (g := fun j => .complex .f64 (if j < k + 1 then 4607182418800017408 else 0) 0) (fun x _ => by
        by_cases e : x = k
        · subst e
          rw [if_pos rfl, if_pos (Nat.lt_succ_self _)]
        · rw [if_neg e]
          by_cases e2 : x < k
          · rw [if_pos e2, if_pos (by omega)]
          · rw [if_neg e2, if_neg (by omega)]))
      have HR5 := hide (h5.setOther (a := ⟨w.heap.size + 1 + 1 + 1, k, none⟩) n56 (.complex .f64 4607182418800017408 0))
      have HR4 := hide (hb4.other (p := ⟨w.heap.size + 1 + 1 + 1, k, none⟩) n46 (.complex .f64 4607182418800017408 0))
      have HBB := hide (hB.setCell (p := ⟨w.heap.size + 1 + 1 + 1, k, none⟩) (by show w.heap.size ≤ w.heap.size + 1 + 1 + 1; omega) (.complex .f64 4607182418800017408 0))
      clear hb4 h5 h6 hB
      obtain ⟨f, hf⟩ : ∃ z, F k = z := ⟨_, rfl⟩
      simp only [hf] at hcell hfk HAK
      clear hf
      by_cases hoff : f = -1
      · have HV := hide (HAK.out.trans (if_pos hoff))
        subst hoff
        clear HAK hfk
        go_wp2_with fail
        go_roundw
        case rel =>
          exact ⟨k + 1, by omega, by go_num, HR4.out.other n45 _, (HR5.out.set k _).congr (fun x _ => by
            by_cases e : x = k
            · subst e
              rw [if_pos rfl, if_pos (Nat.lt_succ_self _), HV.out]
            · rw [if_neg e]
              by_cases e2 : x < k
              · rw [if_pos e2, if_pos (by omega)]
              · rw [if_neg e2, if_neg (by omega)]), HR6.out.setOther n65 _, HBB.out.setCell (by show w.heap.size ≤ w.heap.size + 1 + 1; omega) _⟩
        case measure => simp [Go.RowKit.intOf]; omega
      · have tne : (f != -1) = true := by simpa using hoff
        obtain ⟨m, hm⟩ : ∃ m : Nat, k * s = m := ⟨_, rfl⟩
        have hmz : (k : Int) * (s : Int) = (m : Int) := by rw [← hm]; exact (Int.natCast_mul k s).symm
        have hm9 : m ≤ 700 := by rw [← hm]; exact Nat.le_trans (Nat.mul_le_mul (show k ≤ 100 by omega) hs) (by decide)
        have q1 : IntKind.i64.wrap ((k : Int) * (s : Int)) = (m : Int) := by rw [hmz]; exact IntWalk.i64_in _ (by omega)
        obtain ⟨v, hv⟩ : ∃ v : Int, f + (m : Int) = v := ⟨_, rfl⟩
        have q2 : IntKind.i64.wrap (f + (m : Int)) = v := by rw [IntWalk.i64_in _ (by omega)]; exact hv
        obtain ⟨r, hr⟩ : ∃ r : Int, v % 8 = r := ⟨_, rfl⟩
        have q3 : v.tmod 8 = r := by rw [Int.tmod_eq_emod_of_nonneg (by omega)]; exact hr
        have HV := hide (HAK.out.trans (if_neg hoff))
        rw [hm, hv, hr] at HV
        clear HAK hfk hm hmz hv hr hoff
        go_wp2_with fail
        go_roundw
        case rel =>
          exact ⟨k + 1, by omega, by go_num, (HR4.out.other n45 _).other n45 _, ((HR5.out.set k _).set k _).congr (fun x _ => by
            by_cases e : x = k
            · subst e
              rw [if_pos rfl, if_pos (Nat.lt_succ_self _), HV.out]
            · rw [if_neg e, if_neg e]
              by_cases e2 : x < k
              · rw [if_pos e2, if_pos (by omega)]
              · rw [if_neg e2, if_neg (by omega)]), (HR6.out.setOther n65 _).setOther n65 _, (HBB.out.setCell (by show w.heap.size ≤ w.heap.size + 1 + 1; omega) _).setCell (by show w.heap.size ≤ w.heap.size + 1 + 1; omega) _⟩
        case measure => simp [Go.RowKit.intOf]; omega
    · obtain rfl : k = n := by omega
      have hJ5 := IntsAt.of_row (lo := 0) (h5.congr (g := fun j => .int .i64 (T j)) fun j hj => by rw [if_pos hj]) (Nat.zero_le _)
      have hJ6 := CpxAt.of_row (U := fun _ => 4607182418800017408) (V := fun _ => 0) (h6.congr fun j hj => by rw [if_pos hj])
      have HTT := hide (HTS.out _ _ wA hJ5 hJ6)
      clear h5 h6 hJ5 hJ6
      go_wp2_with fail
      refine HTT.out.mono ?_
      rintro e w9 ⟨rfl, hb9⟩
      have b49 := hb4.below hb9
      have hB9 := hB.trans (hb9.mono hB.size)
      clear hb9 hb4 hB HTT
      obtain ⟨y0, y1, y2, y3, g0, g1, g2, g3, hly⟩ := b49.cells4
      obtain ⟨s0, hs0⟩ : ∃ z, S.a = z := ⟨_, rfl⟩
      obtain ⟨s1, hs1⟩ : ∃ z, S.b = z := ⟨_, rfl⟩
      obtain ⟨s2, hs2⟩ : ∃ z, S.c = z := ⟨_, rfl⟩
      obtain ⟨s3, hs3⟩ : ∃ z, S.d = z := ⟨_, rfl⟩
      have HEQ := hide (show (rsN F s k).a = s0 ∧ (rsN F s k).b = s1 ∧ (rsN F s k).c = s2 ∧ (rsN F s k).d = s3 by rw [HSE.out]; exact ⟨hs0, hs1, hs2, hs3⟩)
      simp only [hs0, hs1, hs2, hs3]
      have HBX := hide (b49.put4 (.int .i64 s0) (.int .i64 s1) (.int .i64 s2) (.int .i64 s3)).cells4
      have HBL := hide (Below.put4 hB9 (Nat.le_succ _) (.int .i64 s0) (.int .i64 s1) (.int .i64 s2) (.int .i64 s3))
      clear b49 hB9 hs0 hs1 hs2 hs3
      go_wp2_with fail
      clear y0 y1 y2 y3
      obtain ⟨y0, y1, y2, y3, -⟩ := HBX.out
      refine bodyPost_ret (v := .agg #[.int .i64 s0, .int .i64 s1, .int .i64 s2, .int .i64 s3]) ?_ rfl ⟨by obtain ⟨e0, e1, e2, e3⟩ := HEQ.out; rw [e0, e1, e2, e3], HBL.out⟩
      simp [results, Try.results103, go_sem, y0, y1, y2, y3]
end Go.Proofs.Ytdkbjgnkehoplaa
/- cmp.Compare, cmp.Or, bits.Mul64. -/
namespace Go.Proofs.Ytdkbjgnkehoplaa
open Go.RowKit Go.Lib
/-- -1, 0 or 1. -/
def cmpI (a b : Int) : Int := if a < b then -1 else if b < a then 1 else 0
theorem cmpI_lt {a b : Int} (h : a < b) : cmpI a b = -1 := if_pos h
theorem cmpI_gt {a b : Int} (h : b < a) : cmpI a b = 1 := by unfold cmpI; rw [if_neg (by omega), if_pos h]
theorem cmpI_eq {a b : Int} (h : a = b) : cmpI a b = 0 := by unfold cmpI; rw [if_neg (by omega), if_neg (by omega)]
theorem cmpI_le (a b : Int) : -1 ≤ cmpI a b ∧ cmpI a b ≤ 1 := by
  unfold cmpI
  split
  · decide
  · split <;> decide
set_option maxHeartbeats 400000 in
theorem isNaN_int (a : Int) (w : World) : Calls Try.prog 145 #[.int .i64 a] w fun e w' => e = .returned (.bool false) ∧ w = w' := by
  have t1 : (a != a) = false := by simp
  go_enter Try.func145, Try.ntmps145
  go_wp2_with fail
  go_ret
  exact ⟨rfl, rfl⟩
set_option maxHeartbeats 400000 in
theorem isNaN_u64 (a : Int) (w : World) : Calls Try.prog 146 #[.int .u64 a] w fun e w' => e = .returned (.bool false) ∧ w = w' := by
  have t1 : (a != a) = false := by simp
  go_enter Try.func146, Try.ntmps146
  go_wp2_with fail
  go_ret
  exact ⟨rfl, rfl⟩
set_option maxHeartbeats 1000000 in
theorem compare_int (a b : Int) (w : World) : Calls Try.prog 123 #[.int .i64 a, .int .i64 b] w fun e w' => e = .returned (.int .i64 (cmpI a b)) ∧ w = w' := by
  by_cases h1 : a < b
  · have t1 : decide (a < b) = true := decide_eq_true h1
    rw [cmpI_lt h1]
    clear h1
    go_enter Try.func123, Try.ntmps123
    go_wp2_with (go_at_call 145; refine (isNaN_int _ _).mono ?_; rintro e w' ⟨rfl, rfl⟩)
    go_ret
    exact ⟨rfl, rfl⟩
  · have t1 : decide (a < b) = false := decide_eq_false h1
    by_cases h2 : b < a
    · have t2 : decide (b < a) = true := decide_eq_true h2
      rw [cmpI_gt h2]
      clear h1 h2
      go_enter Try.func123, Try.ntmps123
      go_wp2_with (go_at_call 145; refine (isNaN_int _ _).mono ?_; rintro e w' ⟨rfl, rfl⟩)
      go_ret
      exact ⟨rfl, rfl⟩
    · have t2 : decide (b < a) = false := decide_eq_false h2
      rw [cmpI_eq (show a = b by omega)]
      clear h1 h2
      go_enter Try.func123, Try.ntmps123
      go_wp2_with (go_at_call 145; refine (isNaN_int _ _).mono ?_; rintro e w' ⟨rfl, rfl⟩)
      go_ret
      exact ⟨rfl, rfl⟩
set_option maxHeartbeats 1000000 in
theorem compare_u64 (a b : Int) (w : World) : Calls Try.prog 126 #[.int .u64 a, .int .u64 b] w fun e w' => e = .returned (.int .i64 (cmpI a b)) ∧ w = w' := by
  by_cases h1 : a < b
  · have t1 : decide (a < b) = true := decide_eq_true h1
    rw [cmpI_lt h1]
    clear h1
    go_enter Try.func126, Try.ntmps126
    go_wp2_with (go_at_call 146; refine (isNaN_u64 _ _).mono ?_; rintro e w' ⟨rfl, rfl⟩)
    go_ret
    exact ⟨rfl, rfl⟩
  · have t1 : decide (a < b) = false := decide_eq_false h1
    by_cases h2 : b < a
    · have t2 : decide (b < a) = true := decide_eq_true h2
      rw [cmpI_gt h2]
      clear h1 h2
      go_enter Try.func126, Try.ntmps126
      go_wp2_with (go_at_call 146; refine (isNaN_u64 _ _).mono ?_; rintro e w' ⟨rfl, rfl⟩)
      go_ret
      exact ⟨rfl, rfl⟩
    · have t2 : decide (b < a) = false := decide_eq_false h2
      rw [cmpI_eq (show a = b by omega)]
      clear h1 h2
      go_enter Try.func126, Try.ntmps126
      go_wp2_with (go_at_call 146; refine (isNaN_u64 _ _).mono ?_; rintro e w' ⟨rfl, rfl⟩)
      go_ret
      exact ⟨rfl, rfl⟩
/-- cmp.Or of two numbers in a new block. -/
def orI (a b : Int) : Int := if a = 0 then b else a
set_option maxHeartbeats 1000000 in
theorem or_two (a b : Int) (g c : Nat) (w : World) (h0 : w.cell? ⟨g, 0, none⟩ = some (.int .i64 a)) (h1 : w.cell? ⟨g, 1, none⟩ = some (.int .i64 b)) :
    Calls Try.prog 125 #[.slice (some ⟨g, 0, none⟩) 2 c] w fun e w' => e = .returned (.int .i64 (orI a b)) ∧ w = w' := by
  have H0 := hide h0
  have H1 := hide h1
  clear h0 h1
  go_enter Try.func125, Try.ntmps125
  go_wp2_with fail
  go_loopw [8] (fun i wr => ∃ k : Nat, k ≤ 2 ∧ i = .int .i64 (k : Int) ∧ Hid (0 < k → a = 0) ∧ Hid (1 < k → b = 0) ∧ w = wr) (fun i _ => 2 - (Go.RowKit.intOf i).toNat)
  case atStart => exact ⟨0, by decide, rfl, hide fun h => absurd h (by decide), hide fun h => absurd h (by decide), rfl⟩
  case round =>
    obtain ⟨k, hk, rfl, HA, HB, rfl⟩ := hrel
    match k, hk with
    | 0, _ =>
      have hc := H0.out
      by_cases ha : a = 0
      · have HQ := hide ha
        subst ha
        go_wp2_with fail
        go_roundw
        case rel => exact ⟨1, by decide, rfl, hide fun _ => by first | rfl | trivial, hide fun h => absurd h (by decide), by first | rfl | trivial⟩
        case measure => simp [Go.RowKit.intOf]
      · have t1 : (a != 0) = true := by simpa using ha
        have HQ := hide (show orI a b = a from if_neg ha)
        clear ha
        go_wp2_with fail
        go_ret
        exact ⟨ret_int HQ.out.symm, rfl⟩
    | 1, _ =>
      have hc := H1.out
      have ha := HA.out (by decide)
      by_cases hb : b = 0
      · have HQ := hide hb
        subst hb
        go_wp2_with fail
        go_roundw
        case rel => exact ⟨2, by decide, rfl, hide fun _ => ha, hide fun _ => by first | rfl | trivial, by first | rfl | trivial⟩
        case measure => simp [Go.RowKit.intOf]
      · have t1 : (b != 0) = true := by simpa using hb
        have HQ := hide (show orI a b = b from if_pos ha)
        clear ha hb
        go_wp2_with fail
        go_ret
        exact ⟨ret_int HQ.out.symm, rfl⟩
    | 2, _ =>
      have HQ := hide (show orI a b = 0 from by rw [show orI a b = b from if_pos (HA.out (by decide)), HB.out (by decide)])
      go_wp2_with fail
      go_ret
      exact ⟨ret_int HQ.out.symm, rfl⟩
theorem maskN (a : Nat) (ha : a < 18446744073709551616) : bits .and .u64 (a : Int) 4294967295 = ((a % 4294967296 : Nat) : Int) := by
  have h := bits_and_u64_nat a 4294967295 ha (by omega)
  have e : a &&& 4294967295 = a % 4294967296 := Nat.and_two_pow_sub_one_eq_mod a 32
  rw [e] at h
  exact h
theorem divN (a : Nat) : (a : Int) / 4294967296 = ((a / 4294967296 : Nat) : Int) := by omega
theorem mulN (a b : Nat) : (a : Int) * (b : Int) = ((a * b : Nat) : Int) := (Int.natCast_mul a b).symm
theorem addN (a b : Nat) : (a : Int) + (b : Int) = ((a + b : Nat) : Int) := (Int.natCast_add a b).symm
theorem wrapN (a : Nat) (ha : a < 18446744073709551616) : IntKind.u64.wrap (a : Int) = (a : Int) := by rw [IntKind.wrap_u64]; omega
theorem wrapM (a : Nat) : IntKind.u64.wrap (a : Int) = ((a % 18446744073709551616 : Nat) : Int) := by rw [IntKind.wrap_u64]; omega
end Go.Proofs.Ytdkbjgnkehoplaa
/- Mul64, squareOf of the code. -/
namespace Go.Proofs.Ytdkbjgnkehoplaa
open Go.RowKit Go.Lib
set_option maxHeartbeats 1000000 in
theorem mul64_any (x y : Nat) (hx : x < 18446744073709551616) (hy : y < 18446744073709551616) (w : World) :
    Calls Try.prog 124 #[.int .u64 x, .int .u64 y] w fun e w' => e = .returned (.tuple #[.int .u64 ((x * y / 18446744073709551616 : Nat) : Int), .int .u64 ((x * y % 18446744073709551616 : Nat) : Int)]) ∧ w = w' := by
  obtain ⟨bd, bt, bw, hhi⟩ := Lib.mul64_hi x y hx hy
  have ba := Lib.half_mul_le (a := x / 4294967296) (b := y / 4294967296) (by omega) (by omega)
  have bb := Lib.half_mul_le (a := x / 4294967296) (b := y % 4294967296) (by omega) (by omega)
  have bc := Lib.half_mul_le (a := x % 4294967296) (b := y / 4294967296) (by omega) (by omega)
  have ba' : x / 4294967296 * (y / 4294967296) < 18446744073709551616 := by omega
  have bb' : x / 4294967296 * (y % 4294967296) < 18446744073709551616 := by omega
  have bc' : x % 4294967296 * (y / 4294967296) < 18446744073709551616 := by omega
  have bh1 : x / 4294967296 * (y / 4294967296) + (x / 4294967296 * (y % 4294967296) + x % 4294967296 * (y % 4294967296) / 4294967296) / 4294967296 < 18446744073709551616 := by omega
  have bh : x / 4294967296 * (y / 4294967296) + (x / 4294967296 * (y % 4294967296) + x % 4294967296 * (y % 4294967296) / 4294967296) / 4294967296 + ((x / 4294967296 * (y % 4294967296) + x % 4294967296 * (y % 4294967296) / 4294967296) % 4294967296 + x % 4294967296 * (y / 4294967296)) / 4294967296 < 18446744073709551616 := by omega
  go_enter Try.func124, Try.ntmps124
  go_wp2
  simp only [maskN x hx, maskN y hy, divN, mulN, addN, wrapN _ bd, wrapN _ bb', wrapN _ bt, maskN _ bt, wrapN _ bc', wrapN _ bw, wrapN _ ba', wrapN _ bh1, wrapN _ bh, wrapM]
  rw [hhi]
  go_ret2
  exact ⟨rfl, rfl⟩
set_option maxHeartbeats 2000000 in
theorem squareOf_any (x : Num) (w : World) (hx : x.Within 1000000000) :
    Calls Try.prog 102 #[.agg #[.int .i64 x.a, .int .i64 x.b, .int .i64 x.c, .int .i64 x.d]] w fun e w' => e = .returned (.agg #[.int .i64 x.sqP, .int .i64 x.sqQ]) ∧ Below w.heap.size w w' := by
  obtain ⟨ha, hb, hc, hd⟩ := hx
  have HP := hide (show x.sqP = x.a * x.a + x.b * x.b + x.c * x.c + x.d * x.d from rfl)
  have HQ := hide (show x.sqQ = x.a * x.b + x.b * x.c + x.c * x.d - x.a * x.d from rfl)
  obtain ⟨a, b, c, d⟩ := x
  simp only at ha hb hc hd HP HQ ⊢
  have m1 := mul_within ha ha
  have m2 := mul_within hb hb
  have m3 := mul_within hc hc
  have m4 := mul_within hd hd
  have m5 := mul_within ha hb
  have m6 := mul_within hb hc
  have m7 := mul_within hc hd
  have m8 := mul_within ha hd
  obtain ⟨P, hP⟩ : ∃ P, P = (⟨a, b, c, d⟩ : Num).sqP := ⟨_, rfl⟩
  obtain ⟨Q, hQ⟩ : ∃ Q, Q = (⟨a, b, c, d⟩ : Num).sqQ := ⟨_, rfl⟩
  rw [← hP] at HP ⊢
  rw [← hQ] at HQ ⊢
  clear hP hQ ha hb hc hd
  generalize e1 : a * a = aa at *
  generalize e2 : b * b = bb at *
  generalize e3 : c * c = cc at *
  generalize e4 : d * d = dd at *
  generalize e5 : a * b = ab at *
  generalize e6 : b * c = bc at *
  generalize e7 : c * d = cd at *
  generalize e8 : a * d = ad at *
  have q1 : IntKind.i64.wrap aa = aa := IntWalk.i64_in _ (by omega)
  have q2 : IntKind.i64.wrap bb = bb := IntWalk.i64_in _ (by omega)
  have q3 : IntKind.i64.wrap cc = cc := IntWalk.i64_in _ (by omega)
  have q4 : IntKind.i64.wrap dd = dd := IntWalk.i64_in _ (by omega)
  have q5 : IntKind.i64.wrap ab = ab := IntWalk.i64_in _ (by omega)
  have q6 : IntKind.i64.wrap bc = bc := IntWalk.i64_in _ (by omega)
  have q7 : IntKind.i64.wrap cd = cd := IntWalk.i64_in _ (by omega)
  have q8 : IntKind.i64.wrap ad = ad := IntWalk.i64_in _ (by omega)
  have q9 : IntKind.i64.wrap (aa + bb) = aa + bb := IntWalk.i64_in _ (by omega)
  have q10 : IntKind.i64.wrap (aa + bb + cc) = aa + bb + cc := IntWalk.i64_in _ (by omega)
  have q11 : IntKind.i64.wrap (aa + bb + cc + dd) = P := by rw [HP.out]; exact IntWalk.i64_in _ (by omega)
  have q12 : IntKind.i64.wrap (ab + bc) = ab + bc := IntWalk.i64_in _ (by omega)
  have q13 : IntKind.i64.wrap (ab + bc + cd) = ab + bc + cd := IntWalk.i64_in _ (by omega)
  have q14 : IntKind.i64.wrap (ab + bc + cd - ad) = Q := by rw [HQ.out]; exact IntWalk.i64_in _ (by omega)
  clear m1 m2 m3 m4 m5 m6 m7 m8
  go_enter Try.func102, Try.ntmps102
  go_wp2_with fail
  have hbx : Box ((w.alloc (.cells #[.int .i64 a, .int .i64 b, .int .i64 c, .int .i64 d] 109)).alloc (.cells #[.int .i64 P, .int .i64 Q] 39)) (w.heap.size + 1) 39 #[.int .i64 P, .int .i64 Q] := Box.made (by simp)
  have y0 := hbx.at_ 0
  have y1 := hbx.at_ 1
  simp only [List.getElem?_toArray] at y0 y1
  refine bodyPost_ret (v := .agg #[.int .i64 P, .int .i64 Q]) ?_ rfl ⟨rfl, by (repeat (first | (with_reducible exact Below.refl _ _) | (with_reducible refine Go.below_drewN ?_ _) | (with_reducible refine Below.drew ?_) | (with_reducible refine Below.alloc ?_ (by first | exact Nat.le_refl _ | (simp; done) | (simp; omega) | omega) _) | (with_reducible refine Below.setCell ?_ (by first | exact Nat.le_refl _ | (simp; done) | (simp; omega) | omega) _)))⟩
  simp [results, Try.results102, go_sem, y0, y1]
end Go.Proofs.Ytdkbjgnkehoplaa
/- ResponseOf and GainOf of the code. -/
namespace Go.Proofs.Ytdkbjgnkehoplaa
open Go.RowKit Go.Great
theorem cbE_zero {n : Nat} {F : Nat → Int} (h : cbE n F = 0) : (0 < n ∧ n ≤ 8) ∧ (∀ j, j < n → -1 ≤ F j ∧ F j ≤ 7) ∧ anyN n (fun j => onB (F j)) = true := by
  unfold cbE at h
  by_cases h1 : cbA n = 0
  · rw [if_pos h1] at h
    by_cases h2 : phE F n = 0
    · rw [if_pos h2] at h
      exact ⟨cbA_zero h1, fun j hj => withinB_iff.1 (unI_none (by decide) (badE_none h2 j hj)), unI_none (by decide) h⟩
    · rw [if_neg h2] at h
      exact absurd h h2
  · rw [if_neg h1] at h
    exact absurd h h1
/-- The error of a beam and a step, and what ResponseOf and GainOf hand back. -/
def gnE (n : Nat) (F : Nat → Int) (s : Int) : Int := firstE [cbE n F, stepE s]
def rsR (n : Nat) (F : Nat → Int) (s : Int) : Num := if gnE n F s = 0 then rsN F s.toNat n else Num.zero
def gnP (n : Nat) (F : Nat → Int) (s : Int) : Int := if gnE n F s = 0 then (rsN F s.toNat n).sqP else 0
def gnQ (n : Nat) (F : Nat → Int) (s : Int) : Int := if gnE n F s = 0 then (rsN F s.toNat n).sqQ else 0
theorem gnE_zero {n : Nat} {F : Nat → Int} {s : Int} (h : gnE n F s = 0) : (0 < n ∧ n ≤ 8) ∧ (∀ j, j < n → -1 ≤ F j ∧ F j ≤ 7) ∧ 0 ≤ s ∧ s ≤ 7 := by
  obtain ⟨h1, h2⟩ := firstE_none2 h
  obtain ⟨h3, -⟩ := firstE_none2 h2
  obtain ⟨h4, h5, -⟩ := cbE_zero h1
  exact ⟨h4, h5, withinB_iff.1 (unI_none (by decide) h3)⟩
set_option maxHeartbeats 4000000 in
set_option maxRecDepth 100000 in
theorem GainOf_any (A : Option Addr) (n c : Nat) (F : Nat → Int) (s : Int) (w : World) (hn : n ≤ 100000) (hI : IntsAt w 0 A n F) :
    Calls Try.prog 59 #[.agg #[.slice A n c], .int .i64 s] w fun e w' => e = .returned (.tuple #[.agg #[.int .i64 (gnP n F s), .int .i64 (gnQ n F s)], .int .i64 (gnE n F s)]) ∧ Below w.heap.size w w' := by
  have HE := hide (show firstE [cbE n F, stepE s] = gnE n F s from rfl)
  have HZ := hide (gnE_zero (n := n) (F := F) (s := s))
  have HV0 := hide (show gnP n F s = if gnE n F s = 0 then (rsN F s.toNat n).sqP else 0 from rfl)
  have HV1 := hide (show gnQ n F s = if gnE n F s = 0 then (rsN F s.toNat n).sqQ else 0 from rfl)
  have HBE := hide (fun W (h : IntsAt W 0 A n F) => beamError_any A n c F W hn h)
  have HI := hide hI
  clear hI
  generalize gnP n F s = v0 at *
  generalize gnQ n F s = v1 at *
  generalize gnE n F s = V at *
  obtain ⟨r, hr⟩ : ∃ z, cbE n F = z := ⟨_, rfl⟩
  simp only [hr] at HE HBE
  clear hr
  go_enter Try.func59, Try.ntmps59
  go_upto_region 1 with fail
  obtain ⟨w_5, hw_5⟩ : ∃ q : World, q = ((w.alloc (.cells #[.slice A n c] 43)).alloc (.cells #[.int .i64 0, .int .i64 0] 39)) := ⟨_, rfl⟩
  try rw [← hw_5]
  have HX0 := hide (show Box w_5 (w.heap.size) 43 #[.slice A n c] by rw [hw_5]; exact (Box.made rfl).alloc _)
  have HX1 := hide (show Box w_5 (w.heap.size + 1) 39 #[.int .i64 0, .int .i64 0] by rw [hw_5]; exact Box.made (by simp))
  have HB := hide (show Below w.heap.size w w_5 by rw [hw_5]; (repeat (first | (with_reducible exact Below.refl _ _) | (with_reducible refine Go.below_drewN ?_ _) | (with_reducible refine Below.drew ?_) | (with_reducible refine Below.alloc ?_ (by first | exact Nat.le_refl _ | (simp; done) | (simp; omega) | omega) _) | (with_reducible refine Below.setCell ?_ (by first | exact Nat.le_refl _ | (simp; done) | (simp; omega) | omega) _))))
  clear hw_5
  obtain ⟨x0, -, hlx⟩ := HX0.out.c1
  go_wp2_with fail
  refine (HBE.out _ (HI.out.below HB.out)).mono ?_
  rintro e_ w_6 ⟨rfl, hb_6⟩
  replace HX0 := hide (HX0.out.below hb_6)
  replace HX1 := hide (HX1.out.below hb_6)
  replace HB := hide (HB.out.trans (hb_6.mono HB.out.size))
  clear hb_6
  clear x0 hlx HBE
  go_wp2_with (go_at_call 100; refine (stepError_any _ _).mono ?_; rintro e_ v_ ⟨rfl, rfl⟩)
  refine (firstError_laid [r, stepE s] 2 _ _ rfl (by decide)).mono ?_
  rintro e_ w_7 ⟨rfl, hw⟩
  rw [HE.out]
  have hb : Below w_6.heap.size w_6 w_7 := by rw [← hw]; exact (Below.refl _ _).alloc (Nat.le_refl _) _
  clear hw HE
  replace HX0 := hide (HX0.out.below hb)
  replace HX1 := hide (HX1.out.below hb)
  replace HB := hide (HB.out.trans (hb.mono HB.out.size))
  clear hb
  by_cases hv : V = 0
  case neg =>
    have tv : (V != 0) = true := by simpa using hv
    replace HV0 := hide (HV0.out.trans (if_neg hv))
    replace HV1 := hide (HV1.out.trans (if_neg hv))
    clear hv HZ
    obtain ⟨y0, y1, f0, f1, hly⟩ := HX1.out.c2
    have HBX := hide (HX1.out.put2 (.int .i64 0) (.int .i64 0)).c2
    have HBL := hide ((HB.out.setCell (p := ⟨w.heap.size + 1, 0, none⟩) (Nat.le_succ _) (.int .i64 0)).setCell (p := ⟨w.heap.size + 1, 1, none⟩) (Nat.le_succ _) (.int .i64 0))
    clear HX0 HX1 HB
    go_wp2_with fail
    clear y0 y1
    obtain ⟨y0, y1, -⟩ := HBX.out
    refine bodyPost_ret (v := .tuple #[.agg #[.int .i64 0, .int .i64 0], .int .i64 V]) ?_ rfl ⟨by rw [HV0.out, HV1.out], HBL.out⟩
    simp [results, Try.results59, go_sem, y0, y1]
  obtain ⟨⟨n0, n8⟩, hF, s0, s7⟩ := HZ.out hv
  have tv : (V != 0) = false := by simpa using hv
  replace HV0 := hide (HV0.out.trans (if_pos hv))
  replace HV1 := hide (HV1.out.trans (if_pos hv))
  obtain ⟨t, rfl⟩ : ∃ t : Nat, s = (t : Int) := ⟨s.toNat, by omega⟩
  simp only [Int.toNat_natCast] at HV0 HV1
  have HRO := hide (fun W (h : IntsAt W 0 A n F) => responseOf_any A n c F t W (by omega) (by omega) h hF)
  have HSQ := hide (fun W => squareOf_any (rsN F t n) W ((rsN_within F t n).more (by omega)))
  rw [← HV0.out, ← HV1.out] at HSQ
  obtain ⟨S, hS⟩ : ∃ z, rsN F t n = z := ⟨_, rfl⟩
  simp only [hS] at HRO HSQ
  subst hv
  clear HZ n0 n8 hF s0 s7 hS
  obtain ⟨x0, -, hlx⟩ := HX0.out.c1
  go_wp2_with fail
  refine (HRO.out _ (HI.out.below HB.out)).mono ?_
  rintro e_ w_8 ⟨rfl, hb_8⟩
  replace HX0 := hide (HX0.out.below hb_8)
  replace HX1 := hide (HX1.out.below hb_8)
  replace HB := hide (HB.out.trans (hb_8.mono HB.out.size))
  clear hb_8
  clear x0 hlx HRO
  go_wp2_with fail
  refine (HSQ.out _).mono ?_
  rintro e_ w_9 ⟨rfl, hb_9⟩
  replace HX0 := hide (HX0.out.below hb_9)
  replace HX1 := hide (HX1.out.below hb_9)
  replace HB := hide (HB.out.trans (hb_9.mono HB.out.size))
  clear hb_9
  obtain ⟨y0, y1, f0, f1, hly⟩ := HX1.out.c2
  have HBX := hide (HX1.out.put2 (.int .i64 v0) (.int .i64 v1)).c2
  have HBL := hide ((HB.out.setCell (p := ⟨w.heap.size + 1, 0, none⟩) (Nat.le_succ _) (.int .i64 v0)).setCell (p := ⟨w.heap.size + 1, 1, none⟩) (Nat.le_succ _) (.int .i64 v1))
  clear HX0 HX1 HB
  go_wp2_with fail
  clear y0 y1
  obtain ⟨y0, y1, -⟩ := HBX.out
  refine bodyPost_ret (v := .tuple #[.agg #[.int .i64 v0, .int .i64 v1], .int .i64 0]) ?_ rfl ⟨by rfl, HBL.out⟩
  simp [results, Try.results59, go_sem, y0, y1]
end Go.Proofs.Ytdkbjgnkehoplaa
/- compared of the code. -/
namespace Go.Proofs.Ytdkbjgnkehoplaa
open Go.RowKit Go.Lib
theorem or_cmp (X Y : Nat) : orI (cmpI ((X / 18446744073709551616 : Nat) : Int) ((Y / 18446744073709551616 : Nat) : Int)) (cmpI ((X % 18446744073709551616 : Nat) : Int) ((Y % 18446744073709551616 : Nat) : Int)) = cmpI X Y := by
  obtain ⟨a, ha⟩ : ∃ a, a = X / 18446744073709551616 := ⟨_, rfl⟩
  obtain ⟨b, hb⟩ : ∃ b, b = Y / 18446744073709551616 := ⟨_, rfl⟩
  obtain ⟨c, hc⟩ : ∃ c, c = X % 18446744073709551616 := ⟨_, rfl⟩
  obtain ⟨d, hd⟩ : ∃ d, d = Y % 18446744073709551616 := ⟨_, rfl⟩
  rw [← ha, ← hb, ← hc, ← hd]
  have hX : X = 18446744073709551616 * a + c := by omega
  have hY : Y = 18446744073709551616 * b + d := by omega
  have hc9 : c < 18446744073709551616 := by omega
  have hd9 : d < 18446744073709551616 := by omega
  rcases Nat.lt_trichotomy a b with e | e | e
  · rw [cmpI_lt (by omega), cmpI_lt (show (X : Int) < Y by omega)]; rfl
  · rw [cmpI_eq (by omega)]
    show cmpI c d = cmpI X Y
    rcases Nat.lt_trichotomy c d with f | f | f
    · rw [cmpI_lt (by omega), cmpI_lt (by omega)]
    · rw [cmpI_eq (by omega), cmpI_eq (by omega)]
    · rw [cmpI_gt (by omega), cmpI_gt (by omega)]
  · rw [cmpI_gt (by omega), cmpI_gt (show (Y : Int) < X by omega)]; rfl
/-- Which one of two squares is greater, of the differences p of P, and q of Q the other way round. -/
def compI (p q : Int) : Int := if cmpI p 0 = cmpI q 0 then cmpI p 0 * cmpI (p * p) (q * (q * 2)) else cmpI (cmpI p 0) (cmpI q 0)
theorem sign_cases (p : Int) : (p < 0 ∧ cmpI p 0 = -1) ∨ (p = 0 ∧ cmpI p 0 = 0) ∨ (0 < p ∧ cmpI p 0 = 1) := by
  rcases Int.lt_trichotomy p 0 with h | h | h
  · exact .inl ⟨h, cmpI_lt h⟩
  · exact .inr (.inl ⟨h, cmpI_eq h⟩)
  · exact .inr (.inr ⟨h, cmpI_gt h⟩)
/-- A number times its sign is a natural number with the same square. -/
theorem sign_mul (p : Int) : ∃ n : Nat, cmpI p 0 * p = (n : Int) ∧ (n : Int) * n = p * p ∧ (n = p ∨ (n : Int) = -p) := by
  rcases sign_cases p with ⟨h, e⟩ | ⟨h, e⟩ | ⟨h, e⟩
  · refine ⟨(-p).toNat, by rw [e]; omega, ?_, .inr (by omega)⟩
    rw [show (((-p).toNat : Nat) : Int) = -p by omega, Int.neg_mul_neg]
  · subst h; exact ⟨0, by simp, by simp, .inl rfl⟩
  · refine ⟨p.toNat, by rw [e]; omega, ?_, .inl (by omega)⟩
    rw [show ((p.toNat : Nat) : Int) = p by omega]
set_option maxHeartbeats 600000 in
set_option maxRecDepth 100000 in
theorem compared_any (a b c d : Int) (w : World) (ha : -100000000000000000 ≤ a ∧ a ≤ 100000000000000000) (hb : -100000000000000000 ≤ b ∧ b ≤ 100000000000000000) (hc : -100000000000000000 ≤ c ∧ c ≤ 100000000000000000) (hd : -100000000000000000 ≤ d ∧ d ≤ 100000000000000000) :
    Calls Try.prog 79 #[.agg #[.int .i64 a, .int .i64 b], .agg #[.int .i64 c, .int .i64 d]] w fun e w' => e = .returned (.int .i64 (compI (a - c) (d - b))) ∧ Below w.heap.size w w' := by
  obtain ⟨p, hp⟩ : ∃ p, p = a - c := ⟨_, rfl⟩
  obtain ⟨q, hq⟩ : ∃ q, q = d - b := ⟨_, rfl⟩
  have q1 : IntKind.i64.wrap (a - c) = p := by rw [hp]; exact IntWalk.i64_in _ (by omega)
  have q2 : IntKind.i64.wrap (d - b) = q := by rw [hq]; exact IntWalk.i64_in _ (by omega)
  have hpb : -200000000000000000 ≤ p ∧ p ≤ 200000000000000000 := by omega
  have hqb : -200000000000000000 ≤ q ∧ q ≤ 200000000000000000 := by omega
  rw [← hp, ← hq]
  have HD := hide (show compI p q = if cmpI p 0 = cmpI q 0 then cmpI p 0 * cmpI (p * p) (q * (q * 2)) else cmpI (cmpI p 0) (cmpI q 0) from rfl)
  have hsl := cmpI_le p 0
  have htl := cmpI_le q 0
  obtain ⟨mp, hnp, hnp2, hnp3⟩ := sign_mul p
  obtain ⟨mq, hnq, hnq2, hnq3⟩ := sign_mul q
  have CP := hide (fun W => compare_int p 0 W)
  have CQ := hide (fun W => compare_int q 0 W)
  obtain ⟨R, hR⟩ : ∃ R, R = compI p q := ⟨_, rfl⟩
  rw [← hR] at HD ⊢
  clear hR hp hq ha hb hc hd
  generalize hs : cmpI p 0 = s at *
  generalize ht : cmpI q 0 = t at *
  clear hs ht
  by_cases hst : s = t
  · subst hst
    have t1 : (s != s) = false := by simp
    have q3 : IntKind.i64.wrap (s * p) = (mp : Int) := by rw [hnp]; exact IntWalk.i64_in _ (by omega)
    have q4 : IntKind.i64.wrap (s * q) = (mq : Int) := by rw [hnq]; exact IntWalk.i64_in _ (by omega)
    have q5 : IntKind.i64.wrap ((mq : Int) * 2) = ((mq * 2 : Nat) : Int) := by rw [IntWalk.i64_in _ (by omega)]; omega
    have u1 : IntKind.u64.wrap (mp : Int) = (mp : Int) := wrapN mp (by omega)
    have u2 : IntKind.u64.wrap (mq : Int) = (mq : Int) := wrapN mq (by omega)
    obtain ⟨n2, hn2⟩ : ∃ n2, n2 = mq * 2 := ⟨_, rfl⟩
    have u3 : IntKind.u64.wrap (n2 : Int) = (n2 : Int) := wrapN n2 (by omega)
    have M1 := hide (fun W => mul64_any mp mp (by omega) (by omega) W)
    have M2 := hide (fun W => mul64_any mq n2 (by omega) (by omega) W)
    have HF := hide (show s * orI (cmpI ((mp * mp / 18446744073709551616 : Nat) : Int) ((mq * n2 / 18446744073709551616 : Nat) : Int)) (cmpI ((mp * mp % 18446744073709551616 : Nat) : Int) ((mq * n2 % 18446744073709551616 : Nat) : Int)) = R from by
      rw [or_cmp, HD.out, if_pos rfl, Int.natCast_mul, Int.natCast_mul, hnp2, hn2, Int.natCast_mul, ← Int.mul_assoc, ← Int.mul_assoc, hnq2]
      rfl)
    rw [← hn2] at q5
    generalize mp * mp / 18446744073709551616 = x1 at *
    generalize mp * mp % 18446744073709551616 = x2 at *
    generalize mq * n2 / 18446744073709551616 = y1 at *
    generalize mq * n2 % 18446744073709551616 = y2 at *
    have hl1 := cmpI_le (x1 : Int) (y1 : Int)
    have hl2 := cmpI_le (x2 : Int) (y2 : Int)
    have hol : -1 ≤ orI (cmpI (x1 : Int) (y1 : Int)) (cmpI (x2 : Int) (y2 : Int)) ∧ orI (cmpI (x1 : Int) (y1 : Int)) (cmpI (x2 : Int) (y2 : Int)) ≤ 1 := by unfold orI; split <;> omega
    have hRb : IntKind.i64.wrap (s * orI (cmpI (x1 : Int) (y1 : Int)) (cmpI (x2 : Int) (y2 : Int))) = R := by
      have := mul_within (M := 1) (N := 1) (show -1 ≤ s ∧ s ≤ 1 by omega) hol
      rw [IntWalk.i64_in _ (by omega), HF.out]
    clear hnp hnq hnp2 hnq2 hnp3 hnq3 hn2 HD hol
    go_enter Try.func79, Try.ntmps79
    go_upto_region 1 with fail
    obtain ⟨W, hW⟩ : ∃ y : World, y = (w.alloc (.cells #[.int .i64 a, .int .i64 b] 39)).alloc (.cells #[.int .i64 c, .int .i64 d] 39) := ⟨_, rfl⟩
    rw [← hW]
    have bx : Box W w.heap.size 39 #[.int .i64 a, .int .i64 b] := by rw [hW]; exact (Box.made rfl).alloc _
    have by' : Box W (w.heap.size + 1) 39 #[.int .i64 c, .int .i64 d] := by rw [hW]; exact Box.made (by simp)
    have hB : Below w.heap.size w W := by rw [hW]; (repeat (first | (with_reducible exact Below.refl _ _) | (with_reducible refine Go.below_drewN ?_ _) | (with_reducible refine Below.drew ?_) | (with_reducible refine Below.alloc ?_ (by first | exact Nat.le_refl _ | (simp; done) | (simp; omega) | omega) _) | (with_reducible refine Below.setCell ?_ (by first | exact Nat.le_refl _ | (simp; done) | (simp; omega) | omega) _)))
    have x0 : W.cell? ⟨w.heap.size, 0, none⟩ = some (.int .i64 a) := bx.at_ 0
    have x1 : W.cell? ⟨w.heap.size, 1, none⟩ = some (.int .i64 b) := bx.at_ 1
    have y0 : W.cell? ⟨w.heap.size + 1, 0, none⟩ = some (.int .i64 c) := by'.at_ 0
    have y1 : W.cell? ⟨w.heap.size + 1, 1, none⟩ = some (.int .i64 d) := by'.at_ 1
    have hlx := bx.lt
    have hly := by'.lt
    clear hW bx by'
    go_quiet (fail)
    clear x0 x1 y0 y1 hlx hly
    have hBV := Go.below_drewN hB nq
    generalize W.drewN nq = V at *
    clear hB
    go_wp2_with fail
    refine (CP.out _).mono ?_
    rintro e w' ⟨rfl, rfl⟩
    go_wp2_with fail
    refine (CQ.out _).mono ?_
    rintro e w' ⟨rfl, rfl⟩
    go_wp2_with fail
    refine (M1.out _).mono ?_
    rintro e w' ⟨rfl, rfl⟩
    go_wp2_with fail
    refine (M2.out _).mono ?_
    rintro e w' ⟨rfl, rfl⟩
    go_wp2_with fail
    refine (compare_u64 _ _ _).mono ?_
    rintro e w' ⟨rfl, rfl⟩
    go_wp2_with fail
    refine (compare_u64 _ _ _).mono ?_
    rintro e w' ⟨rfl, rfl⟩
    go_wp2_with fail
    have hb2 : Box (V.alloc (.cells #[.int .i64 (cmpI (x1 : Int) (y1 : Int)), .int .i64 (cmpI (x2 : Int) (y2 : Int))] 3)) V.heap.size 3 #[.int .i64 (cmpI (x1 : Int) (y1 : Int)), .int .i64 (cmpI (x2 : Int) (y2 : Int))] := Box.made rfl
    refine (or_two (cmpI (x1 : Int) (y1 : Int)) (cmpI (x2 : Int) (y2 : Int)) V.heap.size _ _ (hb2.at_ 0) (hb2.at_ 1)).mono ?_
    rintro e w' ⟨rfl, rfl⟩
    clear hb2
    go_wp2_with fail
    go_ret
    exact ⟨rfl, hBV.alloc hBV.size _⟩
  · have t1 : (s != t) = true := by simpa using hst
    have HE := hide (HD.out.trans (if_neg hst))
    clear hst HD hnp hnq hnp2 hnq2 hnp3 hnq3
    go_enter Try.func79, Try.ntmps79
    go_upto_region 1 with fail
    obtain ⟨W, hW⟩ : ∃ y : World, y = (w.alloc (.cells #[.int .i64 a, .int .i64 b] 39)).alloc (.cells #[.int .i64 c, .int .i64 d] 39) := ⟨_, rfl⟩
    rw [← hW]
    have bx : Box W w.heap.size 39 #[.int .i64 a, .int .i64 b] := by rw [hW]; exact (Box.made rfl).alloc _
    have by' : Box W (w.heap.size + 1) 39 #[.int .i64 c, .int .i64 d] := by rw [hW]; exact Box.made (by simp)
    have hB : Below w.heap.size w W := by rw [hW]; (repeat (first | (with_reducible exact Below.refl _ _) | (with_reducible refine Go.below_drewN ?_ _) | (with_reducible refine Below.drew ?_) | (with_reducible refine Below.alloc ?_ (by first | exact Nat.le_refl _ | (simp; done) | (simp; omega) | omega) _) | (with_reducible refine Below.setCell ?_ (by first | exact Nat.le_refl _ | (simp; done) | (simp; omega) | omega) _)))
    have x0 : W.cell? ⟨w.heap.size, 0, none⟩ = some (.int .i64 a) := bx.at_ 0
    have x1 : W.cell? ⟨w.heap.size, 1, none⟩ = some (.int .i64 b) := bx.at_ 1
    have y0 : W.cell? ⟨w.heap.size + 1, 0, none⟩ = some (.int .i64 c) := by'.at_ 0
    have y1 : W.cell? ⟨w.heap.size + 1, 1, none⟩ = some (.int .i64 d) := by'.at_ 1
    have hlx := bx.lt
    have hly := by'.lt
    clear hW bx by'
    go_quiet (fail)
    clear x0 x1 y0 y1 hlx hly
    have hBV := Go.below_drewN hB nq
    generalize W.drewN nq = V at *
    clear hB
    go_wp2_with fail
    refine (CP.out _).mono ?_
    rintro e w' ⟨rfl, rfl⟩
    go_wp2_with fail
    refine (CQ.out _).mono ?_
    rintro e w' ⟨rfl, rfl⟩
    go_wp2_with fail
    refine (CQ.out _).mono ?_
    rintro e w' ⟨rfl, rfl⟩
    go_wp2_with fail
    refine (compare_int s t _).mono ?_
    rintro e w' ⟨rfl, rfl⟩
    go_wp2_with fail
    go_ret
    exact ⟨ret_int HE.out.symm, hBV⟩
end Go.Proofs.Ytdkbjgnkehoplaa
