/- Lemmas: Pc, Je, Pe, Pm. -/
import Derived.Test.YtnglmfdcnoglhaaBk07
import Derived.Test.YtnglmfdcnoglhaaBk08
import Derived.Test.YtnglmfdcnoglhaaBk10
import Derived.Test.YtnglmfdcnoglhaaBk11
set_option linter.unusedVariables false
set_option linter.unusedSimpArgs false
/- A reception's error, of the code and of the reference; buffers' error of the reference. -/
namespace Go.Proofs.Ytnglmfdcnoglhaa
open Go.RowKit Go.Shelf
def recepErrI (n : Nat) (p t v : Int) (l : Nat) (S : Nat → Int) : Int := firstE [unI (withinB p 0 ((n : Int) - 1)) 6, unI (withinB t 0 1) 15, unI (withinB v 0 3) 15, sizedErrI l 400 S 1000000]
theorem recv_cells {W : World} {b : Nat} {p t v : Int} {D : Option Addr} {l e : Nat} (bx : Box W b 51 #[.int .i64 p, .int .i64 t, .int .i64 v, .slice D l e]) :
    W.cell? ⟨b, 0, none⟩ = some (.int .i64 p) ∧ W.cell? ⟨b, 1, none⟩ = some (.int .i64 t) ∧ W.cell? ⟨b, 2, none⟩ = some (.int .i64 v) ∧ W.cell? ⟨b, 3, none⟩ = some (.slice D l e) ∧ b < W.heap.size := ⟨bx.at_ 0, bx.at_ 1, bx.at_ 2, bx.at_ 3, bx.lt⟩
set_option maxHeartbeats 4000000 in
set_option maxRecDepth 100000 in
theorem receptionError_any (len p t v : Int) (A D : Option Addr) (n c l e : Nat) (S : Nat → Int) (w : World) (hn : n ≤ 1000) (hl : l ≤ 100000) (hI : IntsAt w 0 D l S) :
    Calls Try.prog 50 #[.agg #[.int .i64 len, .slice A n c], .agg #[.int .i64 p, .int .i64 t, .int .i64 v, .slice D l e]] w fun r w' => r = .returned (.int .i64 (recepErrI n p t v l S)) ∧ Below w.heap.size w w' := by
  have HI := hide hI
  have HF := hide (show firstE [unI (withinB p 0 ((n : Int) - 1)) 6, unI (withinB t 0 1) 15, unI (withinB v 0 3) 15, sizedErrI l 400 S 1000000] = recepErrI n p t v l S from rfl)
  clear hI
  go_enter Try.func50, Try.ntmps50
  go_wp2_with fail
  generalize hW : World.alloc (World.alloc w _) _ = W
  have bx : Box W w.heap.size 36 #[.int .i64 len, .slice A n c] := by rw [← hW]; exact (Box.made rfl).alloc _
  have by1 : Box W (w.heap.size + 1) 51 #[.int .i64 p, .int .i64 t, .int .i64 v, .slice D l e] := by rw [← hW]; exact Box.made (by simp)
  have hB : Below w.heap.size w W := by rw [← hW]; exact ((Below.refl _ _).alloc (Nat.le_refl _) _).alloc (by simp) _
  clear hW
  obtain ⟨z0, z1, hlz⟩ := bufs_cells bx
  obtain ⟨y0, y1, y2, y3, hly⟩ := recv_cells by1
  have HJ := hide (HI.out.below hB)
  have q1 : IntKind.i64.wrap ((n : Int) - 1) = (n : Int) - 1 := IntWalk.i64_in _ (by omega)
  have SOF := hide (fun W' (h : Below W.heap.size W W') => (⟨(h.cell (p := ⟨w.heap.size, 1, none⟩) hlz).trans z1, (h.cell (p := ⟨w.heap.size + 1, 0, none⟩) hly).trans y0, (h.cell (p := ⟨w.heap.size + 1, 1, none⟩) hly).trans y1, (h.cell (p := ⟨w.heap.size + 1, 2, none⟩) hly).trans y2, (h.cell (p := ⟨w.heap.size + 1, 3, none⟩) hly).trans y3, h⟩ : W'.cell? ⟨w.heap.size, 1, none⟩ = some (.slice A n c) ∧ W'.cell? ⟨w.heap.size + 1, 0, none⟩ = some (.int .i64 p) ∧ W'.cell? ⟨w.heap.size + 1, 1, none⟩ = some (.int .i64 t) ∧ W'.cell? ⟨w.heap.size + 1, 2, none⟩ = some (.int .i64 v) ∧ W'.cell? ⟨w.heap.size + 1, 3, none⟩ = some (.slice D l e) ∧ Below W.heap.size W W'))
  have KJ := hide (fun W' (h : W'.cell? ⟨w.heap.size, 1, none⟩ = some (.slice A n c) ∧ W'.cell? ⟨w.heap.size + 1, 0, none⟩ = some (.int .i64 p) ∧ W'.cell? ⟨w.heap.size + 1, 1, none⟩ = some (.int .i64 t) ∧ W'.cell? ⟨w.heap.size + 1, 2, none⟩ = some (.int .i64 v) ∧ W'.cell? ⟨w.heap.size + 1, 3, none⟩ = some (.slice D l e) ∧ Below W.heap.size W W') => HJ.out.below h.2.2.2.2.2)
  have bb0 : Below W.heap.size W W := Below.refl _ _
  clear z0 z1 y0 y1 y2 y3
  go_region_held3 (fun w' => w'.cell? ⟨w.heap.size, 1, none⟩ = some (.slice A n c) ∧ w'.cell? ⟨w.heap.size + 1, 0, none⟩ = some (.int .i64 p) ∧ w'.cell? ⟨w.heap.size + 1, 1, none⟩ = some (.int .i64 t) ∧ w'.cell? ⟨w.heap.size + 1, 2, none⟩ = some (.int .i64 v) ∧ w'.cell? ⟨w.heap.size + 1, 3, none⟩ = some (.slice D l e) ∧ Below W.heap.size W w')
    (first | assumption | exact SOF.out _ (by assumption) | exact SOF.out _ bb0.drew | exact SOF.out _ (below_drewN (by assumption) _) | exact SOF.out _ (ballocH (by assumption) (Nat.le_refl _) _) | exact SOF.out _ (ballocH bb0 (Nat.le_refl _) _).drew)
    (first
      | (go_at_call 39; refine (isWithin_any _ _ _ _).mono ?_; rintro r w4 ⟨rfl, rfl⟩)
      | (go_at_call 38; refine (unless_any _ _ _).mono ?_; rintro r w4 ⟨rfl, rfl⟩)
      | (go_at_call 44; refine (versionError_any _ _).mono ?_; rintro r w4 ⟨rfl, rfl⟩)
      | (go_at_call 68; refine (softErr_any D l e S _ hl (KJ.out _ (by assumption))).mono ?_; rintro r w5 ⟨rfl, hb5⟩; have hs_w5 : Below W.heap.size W w5 := bst5 hb5 (by assumption) (Nat.le_refl _))
      | (go_at_call 36; refine (firstError_laid [unI (withinB p 0 ((n : Int) - 1)) 6, unI (withinB t 0 1) 15, unI (withinB v 0 3) 15, sizedErrI l 400 S 1000000] 4 _ _ rfl (by decide)).mono ?_; rintro r w6 ⟨rfl, rfl⟩))
  rw [HF.out]
  go_wp2_with fail
  go_ret
  exact ⟨rfl, hB.trans ((hs_w5.alloc hs_w5.size _).mono hB.size)⟩
set_option maxHeartbeats 4000000 in
set_option maxRecDepth 100000 in
theorem receivedErrR_any (len p t v : Int) (A D : Option Addr) (n c l e : Nat) (S : Nat → Int) (w : World) (hn : n ≤ 1000) (hl : l ≤ 9223372036854775807) (hI : IntsAt w 0 D l S) :
    Calls Try.prog 29 #[.agg #[.int .i64 len, .slice A n c], .agg #[.int .i64 p, .int .i64 t, .int .i64 v, .slice D l e]] w fun r w' => r = .returned (.int .i64 (recepErrI n p t v l S)) ∧ Below w.heap.size w w' := by
  have HI := hide hI
  clear hI
  obtain ⟨R, hR⟩ : ∃ R, R = recepErrI n p t v l S := ⟨_, rfl⟩
  have EQ : R = if withinB p 0 ((n : Int) - 1) = false then 6 else if withinB t 0 1 = false then 15 else if unI (withinB v 0 3) 15 = 0 then sizedErrI l 400 S 1000000 else unI (withinB v 0 3) 15 := by
    rw [hR]
    unfold recepErrI
    rw [firstE_cons, firstE_cons, firstE_cons, firstE_cons, firstE_nil]
    cases withinB p 0 ((n : Int) - 1)
    · rfl
    · cases withinB t 0 1
      · rfl
      · cases withinB v 0 3
        · rfl
        · show (if (0 : Int) = 0 then _ else _) = _
          simp [unI]
          exact fun h => h.symm
  rw [← hR]
  have HR := hide EQ
  clear hR EQ
  have q1 : IntKind.i64.wrap ((n : Int) - 1) = (n : Int) - 1 := IntWalk.i64_in _ (by omega)
  go_enter Try.func29, Try.ntmps29
  go_wp2_with fail
  refine (within_any p 0 ((n : Int) - 1) _).mono ?_
  rintro r w' ⟨rfl, rfl⟩
  cases h1 : withinB p 0 ((n : Int) - 1)
  · have HE := hide (show R = 6 from by rw [HR.out, if_pos h1])
    clear h1
    go_wp2_with fail
    go_ret
    exact ⟨ret_int HE.out.symm, by (repeat (first | (with_reducible exact Below.refl _ _) | (with_reducible refine below_drewN ?_ _) | (with_reducible refine Below.drew ?_) | (with_reducible refine Below.alloc ?_ (by first | exact Nat.le_refl _ | (simp; done) | (simp; omega) | omega) _) | (with_reducible refine Below.setCell ?_ (by first | exact Nat.le_refl _ | (simp; done) | (simp; omega) | omega) _)))⟩
  · go_wp2_with fail
    refine (within_any t 0 1 _).mono ?_
    rintro r w' ⟨rfl, rfl⟩
    cases h2 : withinB t 0 1
    · have HE := hide (show R = 15 from by rw [HR.out, if_neg (by rw [h1]; decide), if_pos h2])
      clear h1 h2
      go_wp2_with fail
      go_ret
      exact ⟨ret_int HE.out.symm, by (repeat (first | (with_reducible exact Below.refl _ _) | (with_reducible refine below_drewN ?_ _) | (with_reducible refine Below.drew ?_) | (with_reducible refine Below.alloc ?_ (by first | exact Nat.le_refl _ | (simp; done) | (simp; omega) | omega) _) | (with_reducible refine Below.setCell ?_ (by first | exact Nat.le_refl _ | (simp; done) | (simp; omega) | omega) _)))⟩
    · have HQ := hide (show R = if unI (withinB v 0 3) 15 = 0 then sizedErrI l 400 S 1000000 else unI (withinB v 0 3) 15 from by rw [HR.out, if_neg (by rw [h1]; decide), if_neg (by rw [h2]; decide)])
      clear h1 h2 HR
      go_wp2_with fail
      refine (versionErrR_any v _).mono ?_
      rintro r w' ⟨rfl, rfl⟩
      generalize unI (withinB v 0 3) 15 = u at *
      by_cases hu : u = 0
      · have t5 : (u != 0) = false := by simpa using hu
        have HE := hide (show R = sizedErrI l 400 S 1000000 from by rw [HQ.out, if_pos hu])
        clear hu HQ
        go_wp2_with fail
        refine (softErrR_any D l e S _ hl ((HI.out.alloc _).alloc _)).mono ?_
        rintro r w2 ⟨rfl, q, rfl⟩
        go_wp2_with fail
        go_ret
        exact ⟨ret_int HE.out.symm, by (repeat (first | (with_reducible exact Below.refl _ _) | (with_reducible refine below_drewN ?_ _) | (with_reducible refine Below.drew ?_) | (with_reducible refine Below.alloc ?_ (by first | exact Nat.le_refl _ | (simp; done) | (simp; omega) | omega) _) | (with_reducible refine Below.setCell ?_ (by first | exact Nat.le_refl _ | (simp; done) | (simp; omega) | omega) _)))⟩
      · have t5 : (u != 0) = true := by simpa using hu
        have HE := hide (show R = u from by rw [HQ.out, if_neg hu])
        clear hu HQ
        go_wp2_with fail
        go_ret
        exact ⟨ret_int HE.out.symm, by (repeat (first | (with_reducible exact Below.refl _ _) | (with_reducible refine below_drewN ?_ _) | (with_reducible refine Below.drew ?_) | (with_reducible refine Below.alloc ?_ (by first | exact Nat.le_refl _ | (simp; done) | (simp; omega) | omega) _) | (with_reducible refine Below.setCell ?_ (by first | exact Nat.le_refl _ | (simp; done) | (simp; omega) | omega) _)))⟩
end Go.Proofs.Ytnglmfdcnoglhaa
/- Combined of the code. -/
namespace Go.Proofs.Ytnglmfdcnoglhaa
open Go.RowKit Go.Shelf
def combAll (n m : Nat) (F G : Nat → Int) : Int := if sizedErrI n 200 F 1000000000 = 0 then (if sizedErrI m 200 G 1000000000 = 0 then combErrI n m F G else sizedErrI m 200 G 1000000000) else sizedErrI n 200 F 1000000000
theorem comb_first (n m : Nat) (F G : Nat → Int) : firstE [sizedErrI n 200 F 1000000000, sizedErrI m 200 G 1000000000, unI (decide (n = m)) 13] =
    if sizedErrI n 200 F 1000000000 = 0 then (if sizedErrI m 200 G 1000000000 = 0 then (if n = m then 0 else 13) else sizedErrI m 200 G 1000000000) else sizedErrI n 200 F 1000000000 := by
  rw [firstE_cons, firstE_cons, firstE_cons, firstE_nil]
  split
  · split
    · by_cases h : n = m
      · rw [decide_eq_true h, if_pos h]; rfl
      · rw [decide_eq_false h, if_neg h]; rfl
    · rfl
  · rfl
set_option maxHeartbeats 2000000 in
theorem Combined_any (A C : Option Addr) (n m c d : Nat) (F G : Nat → Int) (w : World) (hF : IntsAt w 0 A n F) (hG : IntsAt w 0 C m G) (hn : n ≤ 1000) (hm : m ≤ 1000) :
    Calls Try.prog 82 #[.slice A n c, .slice C m d] w (GaveOr (combAll n m F G) n (fun j => F j + G j) w) := by
  have HF := hide hF
  have HG := hide hG
  have HC := hide (comb_first n m F G)
  have teq : ((n : Int) == (m : Int)) = decide (n = m) := by
    by_cases h : n = m
    · subst h; simp
    · rw [decide_eq_false h]; simp; omega
  clear hF hG
  go_enter Try.func82, Try.ntmps82
  go_wp2_with fail
  refine (sumsErr_any A n c F _ (by omega) HF.out).mono ?_
  rintro e w1 ⟨rfl, hb1⟩
  go_wp2_with fail
  refine (sumsErr_any C m d G _ (by omega) (HG.out.below hb1)).mono ?_
  rintro e w2 ⟨rfl, hb2⟩
  have hs1 := hb1.size
  have hB2 := hb1.trans (hb2.mono hs1)
  clear hb1 hb2 hs1
  go_wp2_with (go_at_call 38; refine (unless_any _ _ _).mono ?_; rintro e w' ⟨rfl, rfl⟩)
  refine (firstError_laid [sizedErrI n 200 F 1000000000, sizedErrI m 200 G 1000000000, unI (decide (n = m)) 13] 3 _ _ rfl (by decide)).mono ?_
  rintro e w3 ⟨rfl, hw3⟩
  have hB3 : Below w.heap.size w w3 := by rw [← hw3]; exact hB2.alloc hB2.size _
  rw [HC.out]
  clear hw3 hB2 teq
  by_cases h1 : sizedErrI n 200 F 1000000000 = 0
  · rw [if_pos h1]
    by_cases h2 : sizedErrI m 200 G 1000000000 = 0
    · rw [if_pos h2]
      by_cases h3 : n = m
      · rw [if_pos h3]
        subst h3
        have EQ := hide (show combAll n n F G = if sizedB n (fun j => F j + G j) 1000000000 = true then 0 else 8 from by unfold combAll combErrI; rw [if_pos h1, if_pos h2, if_pos rfl])
        obtain ⟨n0, n1, bF⟩ := sizedErr_zero h1
        obtain ⟨-, -, bG⟩ := sizedErr_zero h2
        have BF := hide bF
        have BG := hide bG
        obtain ⟨i0, hi, hz0, hz1, hz2⟩ := info_parts intInfo
        have hmk := fun W => run_make_row (P := Try.prog) 24 3 i0 (.int .i64 0) Try.underlying24 hi hz0 hz1 rfl .i64 .i64 n (by rw [hz2]; omega) (by omega) W
        clear hi hz0 hz1 hz2 h1 h2 bF bG HC
        go_wp2_with fail
        clear hmk
        have hBs3 := hB3.size
        go_loopw [29] (fun i wr => ∃ k : Nat, k ≤ n ∧ i = .int .i64 k ∧ wr.rowIs w3.heap.size 3 n (fun j => .int .i64 (if j < k then F j + G j else 0)) ∧ Below w.heap.size w wr) (fun i _ => n - (intOf i).toNat)
        case atStart => exact ⟨0, Nat.zero_le _, rfl, (World.rowIs_made w3 (.int .i64 0) n 3).congr (fun _ _ => by simp), hB3.alloc hBs3 _⟩
        case round =>
          obtain ⟨k, hk, rfl, hR, hB⟩ := hrel
          by_cases hlt : k < n
          · have hltz : (k : Int) < (n : Int) := by omega
            have hI1 := HF.out.below hB
            have hI2 := HG.out.below hB
            obtain ⟨b1, o1, rfl, -, hb1, hcell1⟩ := hI1 k hlt
            obtain ⟨b2, o2, rfl, -, hb2, hcell2⟩ := hI2 k hlt
            have hf9 := BF.out k hlt
            have hg9 := BG.out k hlt
            have q1 : IntKind.i64.wrap (F k + G k) = F k + G k := IntWalk.i64_in _ (by omega)
            have hc := hR.cell hlt
            have hf := hR.frozen k
            clear hI1 hI2
            go_wp2_with fail
            go_region
            go_wp2_with fail
            refine ⟨⟨k + 1, by omega, by simp, (hR.set k _).congr (fun j _ => ?_), (hB.setCell (by exact hBs3) _).drew⟩, by simp [intOf]; omega⟩
            by_cases e : j = k
            · subst e
              rw [if_pos rfl, if_pos (Nat.lt_succ_self _)]
            · rw [if_neg e]
              by_cases e2 : j < k
              · rw [if_pos e2, if_pos (by omega)]
              · rw [if_neg e2, if_neg (by omega)]
          · obtain rfl : k = n := by omega
            have hR2 := hR.congr (g := fun j => .int .i64 (F j + G j)) (fun j hj => by rw [if_pos hj])
            go_wp2_with fail
            refine (areWithin_any (some ⟨w3.heap.size, 0, none⟩) k k (fun j => F j + G j) 1000000000 _ (by omega) (IntsAt.of_row hR2 (Nat.zero_le _)) (by omega) (by omega)).mono ?_
            rintro e w4 ⟨rfl, hb4⟩
            rw [show (!anyN k fun j => !withinB (F j + G j) (-1000000000) 1000000000) = sizedB k (fun j => F j + G j) 1000000000 from rfl]
            have hB4 := hB.trans (hb4.mono hB.size)
            have hR4 := rowIs_below hR2 hb4
            cases hsb : sizedB k (fun j => F j + G j) 1000000000
            · have EQ' := hide (show combAll k k F G = 8 from by rw [EQ.out, hsb]; rfl)
              go_wp2_with fail
              go_ret2
              exact .inl ⟨by rw [EQ'.out]; decide, by rw [EQ'.out]; rfl, hB4⟩
            · have EQ' := hide (show combAll k k F G = 0 from by rw [EQ.out, hsb]; rfl)
              go_wp2_with fail
              go_ret2
              exact .inr ⟨EQ'.out, _, rfl, GaveInts.of_row hR4 hBs3 hB4⟩
      · rw [if_neg h3]
        have EQ := hide (show combAll n m F G = 13 from by unfold combAll combErrI; rw [if_pos h1, if_pos h2, if_neg h3])
        clear h1 h2 h3 HC
        go_wp2_with fail
        go_ret2
        exact .inl ⟨by rw [EQ.out]; decide, by rw [EQ.out]; rfl, hB3⟩
    · rw [if_neg h2]
      have EQ := hide (show combAll n m F G = sizedErrI m 200 G 1000000000 from by unfold combAll; rw [if_pos h1, if_neg h2])
      have H2 := hide h2
      have ht : (sizedErrI m 200 G 1000000000 != 0) = true := by simpa using h2
      generalize sizedErrI m 200 G 1000000000 = E at *
      clear h1 h2 HC
      go_wp2_with fail
      go_ret2
      exact .inl ⟨by rw [EQ.out]; exact H2.out, by rw [EQ.out]; rfl, hB3⟩
  · rw [if_neg h1]
    have EQ := hide (show combAll n m F G = sizedErrI n 200 F 1000000000 from by unfold combAll; rw [if_neg h1])
    have H2 := hide h1
    have ht : (sizedErrI n 200 F 1000000000 != 0) = true := by simpa using h1
    generalize sizedErrI n 200 F 1000000000 = E at *
    clear h1 HC
    go_wp2_with fail
    go_ret2
    exact .inl ⟨by rw [EQ.out]; exact H2.out, by rw [EQ.out]; rfl, hB3⟩
end Go.Proofs.Ytnglmfdcnoglhaa
/- A buffer behind a reception, of the code. -/
namespace Go.Proofs.Ytnglmfdcnoglhaa
open Go.RowKit Go.Shelf
theorem comb_ok {n : Nat} {F G : Nat → Int} (n0 : 0 < n) (n9 : n ≤ 200) (hF : ∀ j, j < n → -1000000000 ≤ F j ∧ F j ≤ 1000000000) (hG : ∀ j, j < n → -1000000000 ≤ G j ∧ G j ≤ 1000000000) : combAll n n F G = if sizedB n (fun j => F j + G j) 1000000000 = true then 0 else 8 := by
  unfold combAll
  rw [if_pos (sizedErr_ok n0 n9 hF), if_pos (sizedErr_ok n0 n9 hG)]
  unfold combErrI
  rw [if_pos rfl]
/-- The error where a reception is added to what is there. -/
def addErrI (k : Int) (n : Nat) (F G : Nat → Int) : Int := if sizedB n (fun j => F j + G j) 1000000000 = true ∧ k < 1000000000 then 0 else 8
theorem addErr_first (k : Int) (n : Nat) (F G : Nat → Int) : firstE [if sizedB n (fun j => F j + G j) 1000000000 = true then 0 else 8, unI (decide (k < 1000000000)) 8] = addErrI k n F G := by
  unfold addErrI
  rw [firstE_cons, firstE_cons, firstE_nil]
  by_cases hs : sizedB n (fun j => F j + G j) 1000000000 = true
  · rw [if_pos hs, if_pos rfl]
    by_cases h : k < 1000000000
    · rw [decide_eq_true h, show unI true 8 = 0 from rfl, if_pos rfl, if_pos ⟨hs, h⟩]
    · rw [decide_eq_false h, show unI false 8 = 8 from rfl, if_neg (show ¬ (8 : Int) = 0 by decide), if_neg (fun x => h x.2)]
  · rw [if_neg hs, if_neg (show ¬ (8 : Int) = 0 by decide), if_neg (fun x => hs x.1)]
theorem res_own {E : Int} {n : Nat} {F : Nat → Int} {w : World} {e : Ending} {w' : World} (h : GaveOr E n F w e w') : ∃ v, e = .returned (.tuple #[v, .int .i64 E]) ∧ ((E ≠ 0 ∧ v = .slice none 0 0) ∨ (E = 0 ∧ ∃ A c, v = .slice A n c ∧ IntsAt w' w.heap.size A n F)) ∧ Below w.heap.size w w' := by
  rcases h with ⟨h0, e, hb⟩ | ⟨h0, v, e, A, c, ev, -, hI, hb⟩
  · exact ⟨_, e, .inl ⟨h0, rfl⟩, hb⟩
  · exact ⟨v, by rw [h0]; exact e, .inr ⟨h0, A, c, ev, hI⟩, hb⟩
set_option maxHeartbeats 4000000 in
set_option maxRecDepth 100000 in
theorem processBehind_new (len l v : Nat) (t k p tx : Int) (A D : Option Addr) (c e : Nat) (Sx : Nat → Int) (w : World) (hv : v ≤ 3) (h1 : 1 ≤ len) (h2 : len ≤ 200) (hl : l ≤ 400) (hS : ∀ j, j < l → -1000000 ≤ Sx j ∧ Sx j ≤ 1000000) (hne : tx ≠ t) (hJ : IntsAt w 0 D l Sx) :
    Calls Try.prog 51 #[.agg #[.int .i64 t, .int .i64 k, .slice A len c], .agg #[.int .i64 p, .int .i64 tx, .int .i64 (v : Int), .slice D l e], .int .i64 (len : Int)] w fun r w' => ∃ Av cv, r = .returned (.tuple #[.agg #[.int .i64 tx, .int .i64 1, .slice Av len cv], .int .i64 0]) ∧ IntsAt w' w.heap.size Av len (gatherF v len Sx l) ∧ Below w.heap.size w w' := by
  have HJ := hide hJ
  have HS := hide hS
  have tne : (tx != t) = true := by simpa using hne
  clear hJ hS hne
  go_enter Try.func51, Try.ntmps51
  go_wp2_with fail
  refine (gathered_any D l e v len Sx _ (((HJ.out.alloc _).alloc _).alloc _) HS.out hv h1 (by omega) (by omega)).mono ?_
  rintro r w1 ⟨x, rfl, A1, c1, rfl, hc1, hI1, hb1⟩
  have bp1 : Box w1 w.heap.size 55 #[.int .i64 t, .int .i64 k, .slice A len c] := (((Box.made rfl).alloc _).alloc _).below hb1
  have bx1 : Box w1 (w.heap.size + 1) 51 #[.int .i64 p, .int .i64 tx, .int .i64 (v : Int), .slice D l e] := ((Box.made (by simp)).alloc _).below hb1
  have br1 : Box w1 (w.heap.size + 1 + 1) 55 #[.int .i64 0, .int .i64 0, .slice none 0 0] := (Box.made (by simp)).below hb1
  have hB1 : Below w.heap.size w w1 := ((((Below.refl _ _).alloc (Nat.le_refl _) _).alloc (by simp) _).alloc (by simp; omega) _).trans (hb1.mono (by simp; omega))
  have HI1 := hide hI1
  clear hI1 hb1
  obtain ⟨p0, p1, p2, hlp⟩ := proc_cells bp1
  obtain ⟨x0, x1, x2, x3, hlx⟩ := recv_cells bx1
  obtain ⟨r0, r1, r2, hlr⟩ := proc_cells br1
  have f0 := br1.free 0
  have f1 := br1.free 1
  have f2 := br1.free 2
  go_wp2_with fail
  refine bodyPost_ret (v := .tuple #[.agg #[.int .i64 tx, .int .i64 1, .slice A1 len c1], .int .i64 0]) ?_ rfl ⟨A1, c1, rfl, ?_, ?_⟩
  · have hz := ((br1.set_ 0 (.int .i64 tx)).set_ 1 (.int .i64 1)).set_ 2 (.slice A1 len c1)
    have z0 := hz.at_ 0
    have z1 := hz.at_ 1
    have z2 := hz.at_ 2
    simp at z0 z1 z2
    simp [results, Try.results51, go_sem, z0, z1, z2]
  · have h := HI1.out
    simp only [World.size_alloc] at h
    exact (((h.other (p := ⟨w.heap.size + 1 + 1, 0, none⟩) (by simp) _).other (p := ⟨w.heap.size + 1 + 1, 1, none⟩) (by simp) _).other (p := ⟨w.heap.size + 1 + 1, 2, none⟩) (by simp) _).weak (by omega)
  · exact ((hB1.setCell (by simp; omega) _).setCell (by simp; omega) _).setCell (by simp; omega) _
set_option maxHeartbeats 4000000 in
set_option maxRecDepth 100000 in
theorem processBehind_same (len l v : Nat) (t k p : Int) (A D : Option Addr) (c e : Nat) (Sp Sx : Nat → Int) (w : World) (hv : v ≤ 3) (h1 : 1 ≤ len) (h2 : len ≤ 200) (hl : l ≤ 400) (hk : 0 ≤ k ∧ k ≤ 1000000000) (hS : ∀ j, j < l → -1000000 ≤ Sx j ∧ Sx j ≤ 1000000) (hP : ∀ j, j < len → -1000000000 ≤ Sp j ∧ Sp j ≤ 1000000000) (hI : IntsAt w 0 A len Sp) (hJ : IntsAt w 0 D l Sx) :
    Calls Try.prog 51 #[.agg #[.int .i64 t, .int .i64 k, .slice A len c], .agg #[.int .i64 p, .int .i64 t, .int .i64 (v : Int), .slice D l e], .int .i64 (len : Int)] w fun r w' =>
      ((addErrI k len Sp (gatherF v len Sx l) ≠ 0 ∧ r = .returned (.tuple #[.agg #[.int .i64 0, .int .i64 0, .slice none 0 0], .int .i64 (addErrI k len Sp (gatherF v len Sx l))])) ∨
       (addErrI k len Sp (gatherF v len Sx l) = 0 ∧ ∃ Av cv, r = .returned (.tuple #[.agg #[.int .i64 t, .int .i64 (k + 1), .slice Av len cv], .int .i64 0]) ∧ IntsAt w' w.heap.size Av len (fun j => Sp j + gatherF v len Sx l j))) ∧ Below w.heap.size w w' := by
  have HI := hide hI
  have HJ := hide hJ
  have HS := hide hS
  have hG9 : ∀ j, j < len → -1000000000 ≤ gatherF v len Sx l j ∧ gatherF v len Sx l j ≤ 1000000000 := fun j _ => by
    have := gatherF_le (v := v) (n := len) hS (Nat.le_refl l) j
    omega
  have HCB := hide (comb_ok (n := len) (by omega) h2 hP hG9)
  have HAE := hide (addErr_first k len Sp (gatherF v len Sx l))
  have tne : (t != t) = false := by simp
  obtain ⟨k0, k9⟩ := hk
  clear hI hJ hS hG9 hP
  go_enter Try.func51, Try.ntmps51
  go_wp2_with fail
  refine (gathered_any D l e v len Sx _ (((HJ.out.alloc _).alloc _).alloc _) HS.out hv h1 (by omega) (by omega)).mono ?_
  rintro r w1 ⟨x, rfl, A1, c1, rfl, hc1, hI1, hb1⟩
  have bp1 : Box w1 w.heap.size 55 #[.int .i64 t, .int .i64 k, .slice A len c] := (((Box.made rfl).alloc _).alloc _).below hb1
  have bx1 : Box w1 (w.heap.size + 1) 51 #[.int .i64 p, .int .i64 t, .int .i64 (v : Int), .slice D l e] := ((Box.made (by simp)).alloc _).below hb1
  have br1 : Box w1 (w.heap.size + 1 + 1) 55 #[.int .i64 0, .int .i64 0, .slice none 0 0] := (Box.made (by simp)).below hb1
  have hB1 : Below w.heap.size w w1 := ((((Below.refl _ _).alloc (Nat.le_refl _) _).alloc (by simp) _).alloc (by simp; omega) _).trans (hb1.mono (by simp; omega))
  have HI1 := hide (hI1.weak (Nat.zero_le _))
  have br1s := br1.lt
  clear hI1 hb1
  obtain ⟨G, hG⟩ : ∃ z, z = gatherF v len Sx l := ⟨_, rfl⟩
  rw [← hG] at HCB HAE HI1
  have HGQ := hide hG
  clear hG
  obtain ⟨p0, p1, p2, hlp⟩ := proc_cells bp1
  obtain ⟨x0, x1, x2, x3, hlx⟩ := recv_cells bx1
  go_wp2_with fail
  refine (Combined_any A A1 len len c c1 Sp G _ (HI.out.below hB1) HI1.out (by omega) (by omega)).mono ?_
  intro r w2 hres
  obtain ⟨v2, rfl, hv2, hb2⟩ := res_own hres
  rw [HCB.out] at hv2 ⊢
  have HV2 := hide hv2
  have bp2 := bp1.below hb2
  have bx2 := bx1.below hb2
  have br2 := br1.below hb2
  have hB2 := hB1.trans (hb2.mono hB1.size)
  clear hres hv2 p0 p1 p2 hlp x0 x1 x2 x3 hlx bp1 bx1 br1 HI1
  obtain ⟨p0, p1, p2, hlp⟩ := proc_cells bp2
  obtain ⟨E1, hE1⟩ : ∃ z, z = (if sizedB len (fun j => Sp j + G j) 1000000000 = true then (0 : Int) else 8) := ⟨_, rfl⟩
  rw [← hE1] at HAE HV2 ⊢
  have HE1 := hide hE1
  clear hE1
  go_wp2_with (go_at_call 38; refine (unless_any _ _ _).mono ?_; rintro e w' ⟨rfl, rfl⟩)
  refine (firstError_laid [E1, unI (decide (k < 1000000000)) 8] 2 _ _ rfl (by decide)).mono ?_
  rintro r w3 ⟨rfl, hw3⟩
  rw [HAE.out]
  have bp3 : Box w3 w.heap.size 55 #[.int .i64 t, .int .i64 k, .slice A len c] := by rw [← hw3]; exact bp2.alloc _
  have br3 : Box w3 (w.heap.size + 1 + 1) 55 #[.int .i64 0, .int .i64 0, .slice none 0 0] := by rw [← hw3]; exact br2.alloc _
  have hB3 : Below w.heap.size w w3 := by rw [← hw3]; exact hB2.alloc hB2.size _
  have hb23 : Below w2.heap.size w2 w3 := by rw [← hw3]; exact (Below.refl _ _).alloc (Nat.le_refl _) _
  have HV3 := hide (HV2.out.imp (fun h => h) (fun ⟨h0, A', c', ev, hI'⟩ => (⟨h0, A', c', ev, hI'.below hb23⟩ : E1 = 0 ∧ ∃ A c, v2 = Value.slice A len c ∧ IntsAt w3 w1.heap.size A len (fun j => Sp j + G j))))
  have hs3 : w1.heap.size ≤ w3.heap.size := by rw [← hw3]; have := hb2.size; simp; omega
  clear hw3 p0 p1 p2 hlp bp2 br2 hB2 HV2 bx2
  obtain ⟨p0, p1, p2, hlp⟩ := proc_cells bp3
  have f0 := br3.free 0
  have f1 := br3.free 1
  have f2 := br3.free 2
  obtain ⟨r0, r1, r2, hlr⟩ := proc_cells br3
  by_cases hz : addErrI k len Sp G = 0
  · have tz : (addErrI k len Sp G != 0) = false := by simpa using hz
    have HZ := hide hz
    have hE10 : E1 = 0 := by
      rw [HE1.out]
      unfold addErrI at hz
      by_cases hs : sizedB len (fun j => Sp j + G j) 1000000000 = true
      · rw [if_pos hs]
      · rw [if_neg (fun x => hs x.1)] at hz; exact absurd hz (by decide)
    rcases HV3.out with ⟨h0, -⟩ | ⟨-, A4, c4, rfl, hI4⟩
    · exact absurd hE10 h0
    · have HI4 := hide hI4
      have q1 : IntKind.i64.wrap (k + 1) = k + 1 := IntWalk.i64_in _ (by omega)
      clear hz hE10 hI4
      go_wp2_with fail
      refine bodyPost_ret (v := .tuple #[.agg #[.int .i64 t, .int .i64 (k + 1), .slice A4 len c4], .int .i64 0]) ?_ rfl ?_
      · have hz := ((br3.set_ 0 (.int .i64 t)).set_ 1 (.int .i64 (k + 1))).set_ 2 (.slice A4 len c4)
        have z0 := hz.at_ 0
        have z1 := hz.at_ 1
        have z2 := hz.at_ 2
        simp at z0 z1 z2
        simp [results, Try.results51, go_sem, z0, z1, z2]
      · rw [← HGQ.out]
        refine ⟨.inr ⟨HZ.out, A4, c4, rfl, ?_⟩, ?_⟩
        · have hb1s := br1s
          exact (((HI4.out.other (p := ⟨w.heap.size + 1 + 1, 0, none⟩) (by simp; omega) _).other (p := ⟨w.heap.size + 1 + 1, 1, none⟩) (by simp; omega) _).other (p := ⟨w.heap.size + 1 + 1, 2, none⟩) (by simp; omega) _).weak (by omega)
        · exact ((hB3.setCell (by simp; omega) _).setCell (by simp; omega) _).setCell (by simp; omega) _
  · have tz : (addErrI k len Sp G != 0) = true := by simpa using hz
    have HZ := hide hz
    clear hz
    go_wp2_with fail
    refine bodyPost_ret (v := .tuple #[.agg #[.int .i64 0, .int .i64 0, .slice none 0 0], .int .i64 (addErrI k len Sp G)]) ?_ rfl ?_
    · have hz := ((br3.set_ 0 (.int .i64 0)).set_ 1 (.int .i64 0)).set_ 2 (.slice none 0 0)
      have z0 := hz.at_ 0
      have z1 := hz.at_ 1
      have z2 := hz.at_ 2
      simp at z0 z1 z2
      simp [results, Try.results51, go_sem, z0, z1, z2]
    · rw [← HGQ.out]
      exact ⟨.inl ⟨HZ.out, rfl⟩, ((hB3.setCell (by simp; omega) _).setCell (by simp; omega) _).setCell (by simp; omega) _⟩
end Go.Proofs.Ytnglmfdcnoglhaa
/- Buffers: what no error tells, and what receptions leave: mathematics. -/
namespace Go.Proofs.Ytnglmfdcnoglhaa
open Go.RowKit Go.Shelf
theorem procErr_zero {len t k : Int} {l : Nat} {S : Nat → Int} (h : procErrI len t k l S = 0) : (-1 ≤ t ∧ t ≤ 1) ∧ (0 ≤ k ∧ k ≤ 1000000000) ∧ (t = -1 ↔ k = 0) ∧ (l : Int) = len ∧ (∀ j, j < l → -1000000000 ≤ S j ∧ S j ≤ 1000000000) ∧ (k = 0 → ∀ j, j < l → S j = 0) := by
  unfold procErrI at h
  by_cases h1 : withinB t (-1) 1 = false
  · rw [if_pos h1] at h; exact absurd h (by decide)
  rw [if_neg h1] at h
  by_cases h2 : withinB k 0 1000000000 = false
  · rw [if_pos h2] at h; exact absurd h (by decide)
  rw [if_neg h2] at h
  by_cases h3 : ((t == -1) == (k == 0)) = false
  · rw [if_pos h3] at h; exact absurd h (by decide)
  rw [if_neg h3] at h
  by_cases h4 : (l : Int) ≠ len
  · rw [if_pos h4] at h; exact absurd h (by decide)
  rw [if_neg h4] at h
  by_cases h5 : sizedB l S 1000000000 = false
  · rw [if_pos h5] at h; exact absurd h (by decide)
  rw [if_neg h5] at h
  by_cases h6 : k = 0 ∧ zeroB l S = false
  · rw [if_pos h6] at h; exact absurd h (by decide)
  have e3 : (t == -1) = (k == 0) := by simpa using h3
  refine ⟨withinB_of (by simpa using h1), withinB_of (by simpa using h2), ?_, by simpa using h4, sizedB_iff.1 (by simpa using h5), fun hk => ?_⟩
  · constructor
    · intro x
      rw [x] at e3
      simpa using e3.symm
    · intro x
      rw [x] at e3
      simpa using e3
  · refine zeroB_iff.1 ?_
    cases hz : zeroB l S
    · exact absurd ⟨hk, hz⟩ h6
    · rfl
theorem procErr_ok {len t k : Int} {l : Nat} {S : Nat → Int} (ht : -1 ≤ t ∧ t ≤ 1) (hk : 0 ≤ k ∧ k ≤ 1000000000) (htk : t = -1 ↔ k = 0) (hl : (l : Int) = len) (hS : ∀ j, j < l → -1000000000 ≤ S j ∧ S j ≤ 1000000000) (hz : k = 0 → ∀ j, j < l → S j = 0) : procErrI len t k l S = 0 := by
  unfold procErrI
  have e3 : ((t == -1) == (k == 0)) = true := by
    by_cases h : k = 0
    · rw [htk.2 h, h]; rfl
    · have h2 : ¬ t = -1 := fun x => h (htk.1 x)
      rw [show (t == -1) = false by simpa using h2, show (k == 0) = false by simpa using h]; rfl
  rw [if_neg (by rw [withinB_yes ht]; decide), if_neg (by rw [withinB_yes hk]; decide), if_neg (by rw [e3]; decide), if_neg (fun h => h hl), if_neg (by rw [sizedB_iff.2 hS]; decide), if_neg]
  rintro ⟨h, h2⟩
  rw [zeroB_iff.2 (hz h)] at h2
  exact absurd h2 (by decide)
theorem bufErr_zero {len : Int} {n : Nat} {T K : Nat → Int} {L : Nat → Nat} {S : Nat → Nat → Int} (h : bufErrI len n T K L S = 0) : (1 ≤ len ∧ len ≤ 200) ∧ 0 < n ∧ n ≤ 8 ∧ ∀ i, i < n → procErrI len (T i) (K i) (L i) (S i) = 0 := by
  unfold bufErrI at h
  by_cases h1 : withinB len 1 200 = false
  · rw [if_pos h1] at h; exact absurd h (by decide)
  rw [if_neg h1] at h
  by_cases h2 : n = 0
  · rw [if_pos h2] at h; exact absurd h (by decide)
  rw [if_neg h2] at h
  by_cases h3 : 8 < n
  · rw [if_pos h3] at h; exact absurd h (by decide)
  rw [if_neg h3] at h
  exact ⟨withinB_of (by simpa using h1), by omega, by omega, firstBad_all h⟩
theorem bufErr_ok {len : Int} {n : Nat} {T K : Nat → Int} {L : Nat → Nat} {S : Nat → Nat → Int} (h1 : 1 ≤ len ∧ len ≤ 200) (h2 : 0 < n) (h3 : n ≤ 8) (h : ∀ i, i < n → procErrI len (T i) (K i) (L i) (S i) = 0) : bufErrI len n T K L S = 0 := by
  unfold bufErrI
  rw [if_neg (by rw [withinB_yes h1]; decide), if_neg (by omega), if_neg (by omega)]
  exact firstBad_none h
theorem recepErr_zero {n : Nat} {p t v : Int} {l : Nat} {S : Nat → Int} (h : recepErrI n p t v l S = 0) : (0 ≤ p ∧ p ≤ (n : Int) - 1) ∧ (0 ≤ t ∧ t ≤ 1) ∧ (0 ≤ v ∧ v ≤ 3) ∧ 0 < l ∧ l ≤ 400 ∧ ∀ j, j < l → -1000000 ≤ S j ∧ S j ≤ 1000000 := by
  unfold recepErrI at h
  obtain ⟨h1, h⟩ := firstE_zero_cons h
  obtain ⟨h2, h⟩ := firstE_zero_cons h
  obtain ⟨h3, h⟩ := firstE_zero_cons h
  obtain ⟨h4, -⟩ := firstE_zero_cons h
  exact ⟨withinB_of (unI_zero (by decide) h1), withinB_of (unI_zero (by decide) h2), withinB_of (unI_zero (by decide) h3), sizedErr_zero h4⟩
theorem recepErr_ok {n : Nat} {p t v : Int} {l : Nat} {S : Nat → Int} (h1 : 0 ≤ p ∧ p ≤ (n : Int) - 1) (h2 : 0 ≤ t ∧ t ≤ 1) (h3 : 0 ≤ v ∧ v ≤ 3) (l0 : 0 < l) (l9 : l ≤ 400) (hS : ∀ j, j < l → -1000000 ≤ S j ∧ S j ≤ 1000000) : recepErrI n p t v l S = 0 := by
  unfold recepErrI
  rw [withinB_yes h1, withinB_yes h2, withinB_yes h3, sizedErr_ok l0 l9 hS]
  rfl
/-- The buffers behind a reception (buffer p, toggle t, sums x): toggles, counts and soft bits. -/
def behK (T K : Nat → Int) (p : Nat) (t : Int) : Nat → Int := setF K p (if t = T p then K p + 1 else 1)
def behS (T : Nat → Int) (S : Nat → Nat → Int) (p : Nat) (t : Int) (x : Nat → Int) (i : Nat) : Nat → Int := if i = p then (if t = T p then fun j => S p j + x j else x) else S i
def behErrI (len : Nat) (T K : Nat → Int) (S : Nat → Nat → Int) (p : Nat) (t : Int) (x : Nat → Int) : Int := if t = T p then addErrI (K p) len (S p) x else 0
def recvErrI (len : Int) (n : Nat) (T K : Nat → Int) (L : Nat → Nat) (S : Nat → Nat → Int) (p t v : Int) (l : Nat) (Sx : Nat → Int) : Int :=
  if firstE [bufErrI len n T K L S, recepErrI n p t v l Sx] = 0 then behErrI len.toNat T K S p.toNat t (gatherF v.toNat len.toNat Sx l) else firstE [bufErrI len n T K L S, recepErrI n p t v l Sx]
/-- A function handed back buffers, or an error. -/
def GaveBufs (E len : Int) (n : Nat) (T K : Nat → Int) (L : Nat → Nat) (S : Nat → Nat → Int) (w : World) (r : Ending) (w' : World) : Prop :=
  (∃ v, r = .returned (.tuple #[v, .int .i64 E]) ∧ ((E ≠ 0 ∧ v = .agg #[.int .i64 0, .slice none 0 0]) ∨ (E = 0 ∧ ∃ D c, v = .agg #[.int .i64 len, .slice D n c] ∧ ProcsAt w' w.heap.size D n T K L S))) ∧ Below w.heap.size w w'
/-- Where all is right: natural numbers, and what each buffer keeps. -/
theorem recv_right {len : Int} {n : Nat} {T K : Nat → Int} {L : Nat → Nat} {S : Nat → Nat → Int} {p t v : Int} {l : Nat} {Sx : Nat → Int} (h : firstE [bufErrI len n T K L S, recepErrI n p t v l Sx] = 0) :
    ∃ q a b : Nat, len = q ∧ p = a ∧ v = b ∧ 1 ≤ q ∧ q ≤ 200 ∧ 0 < n ∧ n ≤ 8 ∧ a < n ∧ b ≤ 3 ∧ 0 < l ∧ l ≤ 400 ∧ (0 ≤ t ∧ t ≤ 1) ∧ (∀ i, i < n → L i = q) ∧ (∀ j, j < l → -1000000 ≤ Sx j ∧ Sx j ≤ 1000000) ∧ (∀ i, i < n → procErrI (q : Int) (T i) (K i) (L i) (S i) = 0) := by
  obtain ⟨h1, h⟩ := firstE_zero_cons h
  obtain ⟨h2, -⟩ := firstE_zero_cons h
  obtain ⟨⟨a1, a2⟩, a3, a4, a5⟩ := bufErr_zero h1
  obtain ⟨⟨b1, b2⟩, b3, ⟨b4, b5⟩, b6, b7, b8⟩ := recepErr_zero h2
  obtain ⟨q, rfl⟩ := Int.eq_ofNat_of_zero_le (show 0 ≤ len by omega)
  obtain ⟨a, rfl⟩ := Int.eq_ofNat_of_zero_le b1
  obtain ⟨b, rfl⟩ := Int.eq_ofNat_of_zero_le b4
  exact ⟨q, a, b, rfl, rfl, rfl, by omega, by omega, a3, a4, by omega, by omega, b6, b7, b3, fun i hi => by have := (procErr_zero (a5 i hi)).2.2.2.1; omega, b8, a5⟩
end Go.Proofs.Ytnglmfdcnoglhaa
