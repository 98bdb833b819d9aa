/- Combined of the code. -/
import Derived.Test.YtdimjagmecnldaaJd
namespace Go.Proofs.Ytdimjagmecnldaa
open Go.RowKit Go.Shelf
def combAll (n m : Nat) (F G : Nat → Int) : Int := if sizedErrI n 200 F 1000000000 = 0 then (if sizedErrI m 200 G 1000000000 = 0 then combErrI n m F G else sizedErrI m 200 G 1000000000) else sizedErrI n 200 F 1000000000
theorem comb_first (n m : Nat) (F G : Nat → Int) : firstE [sizedErrI n 200 F 1000000000, sizedErrI m 200 G 1000000000, unI (decide (n = m)) 13] =
    if sizedErrI n 200 F 1000000000 = 0 then (if sizedErrI m 200 G 1000000000 = 0 then (if n = m then 0 else 13) else sizedErrI m 200 G 1000000000) else sizedErrI n 200 F 1000000000 := by
  rw [firstE_cons, firstE_cons, firstE_cons, firstE_nil]
  split
  · split
    · by_cases h : n = m
      · rw [decide_eq_true h, if_pos h]; rfl
      · rw [decide_eq_false h, if_neg h]; rfl
    · rfl
  · rfl
set_option maxHeartbeats 2000000 in
theorem Combined_any (A C : Option Addr) (n m c d : Nat) (F G : Nat → Int) (w : World) (hF : IntsAt w 0 A n F) (hG : IntsAt w 0 C m G) (hn : n ≤ 1000) (hm : m ≤ 1000) :
    Calls Try.prog 41 #[.slice A n c, .slice C m d] w (GaveOr (combAll n m F G) n (fun j => F j + G j) w) := by
  have HF := hide hF
  have HG := hide hG
  have HC := hide (comb_first n m F G)
  have teq : ((n : Int) == (m : Int)) = decide (n = m) := by
    by_cases h : n = m
    · subst h; simp
    · rw [decide_eq_false h]; simp; omega
  clear hF hG
  go_enter Try.func41, Try.ntmps41
  go_wp2_with fail
  refine (sumsErr_any A n c F _ (by omega) HF.out).mono ?_
  rintro e w1 ⟨rfl, hb1⟩
  go_wp2_with fail
  refine (sumsErr_any C m d G _ (by omega) (HG.out.below hb1)).mono ?_
  rintro e w2 ⟨rfl, hb2⟩
  have hs1 := hb1.size
  have hB2 := hb1.trans (hb2.mono hs1)
  clear hb1 hb2 hs1
  go_wp2_with (go_at_call 57; refine (unless_any _ _ _).mono ?_; rintro e w' ⟨rfl, rfl⟩)
  refine (firstError_laid [sizedErrI n 200 F 1000000000, sizedErrI m 200 G 1000000000, unI (decide (n = m)) 13] 3 _ _ rfl (by decide)).mono ?_
  rintro e w3 ⟨rfl, hw3⟩
  have hB3 : Below w.heap.size w w3 := by rw [← hw3]; exact hB2.alloc hB2.size _
  rw [HC.out]
  clear hw3 hB2 teq
  by_cases h1 : sizedErrI n 200 F 1000000000 = 0
  · rw [if_pos h1]
    by_cases h2 : sizedErrI m 200 G 1000000000 = 0
    · rw [if_pos h2]
      by_cases h3 : n = m
      · rw [if_pos h3]
        subst h3
        have EQ := hide (show combAll n n F G = if sizedB n (fun j => F j + G j) 1000000000 = true then 0 else 8 from by unfold combAll combErrI; rw [if_pos h1, if_pos h2, if_pos rfl])
        obtain ⟨n0, n1, bF⟩ := sizedErr_zero h1
        obtain ⟨-, -, bG⟩ := sizedErr_zero h2
        have BF := hide bF
        have BG := hide bG
        obtain ⟨i0, hi, hz0, hz1, hz2⟩ := info_parts intInfo
        have hmk := fun W => run_make_row (P := Try.prog) 22 3 i0 (.int .i64 0) Try.underlying22 hi hz0 hz1 rfl .i64 .i64 n (by rw [hz2]; omega) (by omega) W
        clear hi hz0 hz1 hz2 h1 h2 bF bG HC
        go_wp2_with fail
        clear hmk
        have hBs3 := hB3.size
        go_loopw [29] (fun i wr => ∃ k : Nat, k ≤ n ∧ i = .int .i64 k ∧ wr.rowIs w3.heap.size 3 n (fun j => .int .i64 (if j < k then F j + G j else 0)) ∧ Below w.heap.size w wr) (fun i _ => n - (intOf i).toNat)
        case atStart => exact ⟨0, Nat.zero_le _, rfl, (World.rowIs_made w3 (.int .i64 0) n 3).congr (fun _ _ => by simp), hB3.alloc hBs3 _⟩
        case round =>
          obtain ⟨k, hk, rfl, hR, hB⟩ := hrel
          by_cases hlt : k < n
          · have hltz : (k : Int) < (n : Int) := by omega
            have hI1 := HF.out.below hB
            have hI2 := HG.out.below hB
            obtain ⟨b1, o1, rfl, -, hb1, hcell1⟩ := hI1 k hlt
            obtain ⟨b2, o2, rfl, -, hb2, hcell2⟩ := hI2 k hlt
            have hf9 := BF.out k hlt
            have hg9 := BG.out k hlt
            have q1 : IntKind.i64.wrap (F k + G k) = F k + G k := IntWalk.i64_in _ (by omega)
            have hc := hR.cell hlt
            have hf := hR.frozen k
            clear hI1 hI2
            go_wp2_with fail
            go_region
            go_wp2_with fail
            refine ⟨⟨k + 1, by omega, by simp, (hR.set k _).congr (fun j _ => ?_), (hB.setCell (by exact hBs3) _).drew⟩, by simp [intOf]; omega⟩
            by_cases e : j = k
            · subst e
              rw [if_pos rfl, if_pos (Nat.lt_succ_self _)]
            · rw [if_neg e]
              by_cases e2 : j < k
              · rw [if_pos e2, if_pos (by omega)]
              · rw [if_neg e2, if_neg (by omega)]
          · obtain rfl : k = n := by omega
            have hR2 := hR.congr (g := fun j => .int .i64 (F j + G j)) (fun j hj => by rw [if_pos hj])
            go_wp2_with fail
            refine (areWithin_any (some ⟨w3.heap.size, 0, none⟩) k k (fun j => F j + G j) 1000000000 _ (by omega) (IntsAt.of_row hR2 (Nat.zero_le _)) (by omega) (by omega)).mono ?_
            rintro e w4 ⟨rfl, hb4⟩
            rw [show (!anyN k fun j => !withinB (F j + G j) (-1000000000) 1000000000) = sizedB k (fun j => F j + G j) 1000000000 from rfl]
            have hB4 := hB.trans (hb4.mono hB.size)
            have hR4 := rowIs_below hR2 hb4
            cases hsb : sizedB k (fun j => F j + G j) 1000000000
            · have EQ' := hide (show combAll k k F G = 8 from by rw [EQ.out, hsb]; rfl)
              go_wp2_with fail
              go_ret2
              exact .inl ⟨by rw [EQ'.out]; decide, by rw [EQ'.out]; rfl, hB4⟩
            · have EQ' := hide (show combAll k k F G = 0 from by rw [EQ.out, hsb]; rfl)
              go_wp2_with fail
              go_ret2
              exact .inr ⟨EQ'.out, _, rfl, GaveInts.of_row hR4 hBs3 hB4⟩
      · rw [if_neg h3]
        have EQ := hide (show combAll n m F G = 13 from by unfold combAll combErrI; rw [if_pos h1, if_pos h2, if_neg h3])
        clear h1 h2 h3 HC
        go_wp2_with fail
        go_ret2
        exact .inl ⟨by rw [EQ.out]; decide, by rw [EQ.out]; rfl, hB3⟩
    · rw [if_neg h2]
      have EQ := hide (show combAll n m F G = sizedErrI m 200 G 1000000000 from by unfold combAll; rw [if_pos h1, if_neg h2])
      have H2 := hide h2
      have ht : (sizedErrI m 200 G 1000000000 != 0) = true := by simpa using h2
      generalize sizedErrI m 200 G 1000000000 = E at *
      clear h1 h2 HC
      go_wp2_with fail
      go_ret2
      exact .inl ⟨by rw [EQ.out]; exact H2.out, by rw [EQ.out]; rfl, hB3⟩
  · rw [if_neg h1]
    have EQ := hide (show combAll n m F G = sizedErrI n 200 F 1000000000 from by unfold combAll; rw [if_neg h1])
    have H2 := hide h1
    have ht : (sizedErrI n 200 F 1000000000 != 0) = true := by simpa using h1
    generalize sizedErrI n 200 F 1000000000 = E at *
    clear h1 HC
    go_wp2_with fail
    go_ret2
    exact .inl ⟨by rw [EQ.out]; exact H2.out, by rw [EQ.out]; rfl, hB3⟩
end Go.Proofs.Ytdimjagmecnldaa
