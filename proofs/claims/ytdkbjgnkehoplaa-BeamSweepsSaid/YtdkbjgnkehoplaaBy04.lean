/- Lemmas: E2. -/
import Derived.Laws.MakeOwn
import Derived.Test.YtdkbjgnkehoplaaBy03
set_option linter.unusedVariables false
set_option linter.unusedSimpArgs false
/- steering and Steering of the code. -/
namespace Go.Proofs.Ytdkbjgnkehoplaa
open Go.RowKit Go.Great
/-- The phases of a steering beam for the step s, of the antennas whose numbers are multiples of a. -/
def stF (s a j : Nat) : Int := if j % a = 0 then (((8 - s) * j % 8 : Nat) : Int) else -1
set_option maxHeartbeats 4000000 in
set_option maxRecDepth 100000 in
theorem steering_any (n s a : Nat) (w : World) (hn : n ≤ 8) (hs : s ≤ 7) (ha : 1 ≤ a) (ha8 : a ≤ 8) :
    Calls Try.prog 101 #[.int .i64 (n : Int), .int .i64 (s : Int), .int .i64 (a : Int)] w fun e w' => ∃ A, e = .returned (.agg #[.slice A n n]) ∧ IntsAt w' w.heap.size A n (stF s a) ∧ Below w.heap.size w w' := by
  obtain ⟨i0, hi, hz0, hz1, hz2⟩ := info_parts intInfo
  have hmk := fun W => run_make_row (P := Try.prog) 27 3 i0 (.int .i64 0) Try.underlying27 hi hz0 hz1 rfl .i64 .i64 n (by rw [hz2]; omega) (by omega) W
  clear hi hz0 hz1 hz2
  have hna : ¬ (a : Int) = 0 := by omega
  obtain ⟨u, hu⟩ : ∃ u : Nat, 8 - s = u := ⟨_, rfl⟩
  have q1 : IntKind.i64.wrap (8 - (s : Int)) = (u : Int) := by rw [IntWalk.i64_in _ (by omega)]; omega
  have HF := hide (fun j => (show stF s a j = if j % a = 0 then ((u * j % 8 : Nat) : Int) else -1 from by unfold stF; rw [hu]))
  have hu8 : u ≤ 8 := by omega
  obtain ⟨S, hS⟩ : ∃ z, stF s a = z := ⟨_, rfl⟩
  simp only [hS] at HF
  try rw [hS]
  clear hS hu
  go_enter Try.func101, Try.ntmps101
  go_wp2_with fail
  clear hmk
  obtain ⟨W0, hW0⟩ : ∃ q : World, q = w.alloc (.cells #[.slice none 0 0] 43) := ⟨_, rfl⟩
  try rw [← hW0]
  have b0 : Box W0 w.heap.size 43 #[.slice none 0 0] := by rw [hW0]; exact Box.made rfl
  have hs0 : W0.heap.size = w.heap.size + 1 := by rw [hW0]; simp
  have hB0 : Below w.heap.size w W0 := by rw [hW0]; (repeat (first | (with_reducible exact Below.refl _ _) | (with_reducible refine Go.below_drewN ?_ _) | (with_reducible refine Below.drew ?_) | (with_reducible refine Below.alloc ?_ (by first | exact Nat.le_refl _ | (simp; done) | (simp; omega) | omega) _) | (with_reducible refine Below.setCell ?_ (by first | exact Nat.le_refl _ | (simp; done) | (simp; omega) | omega) _)))
  clear hW0
  go_loopw [13] (fun i wr => ∃ k : Nat, k ≤ n ∧ i = .int .i64 (k : Int) ∧ Box wr w.heap.size 43 #[.slice none 0 0] ∧ wr.rowIs (w.heap.size + 1) 3 n (fun j => .int .i64 (if j < k then S j else 0)) ∧ Below w.heap.size w wr) (fun i _ => n - (Go.RowKit.intOf i).toNat)
  case atStart =>
    refine ⟨0, Nat.zero_le _, rfl, b0.alloc _, ?_, hB0.alloc hB0.size _⟩
    have h := World.rowIs_made W0 (.int .i64 0) n 3
    rw [hs0] at h
    exact h.congr (fun _ _ => by simp)
  case round =>
    clear b0 hB0 hs0
    obtain ⟨k, hk, rfl, hb, hR, hB⟩ := hrel
    obtain ⟨wA, rfl⟩ : ∃ x : World, x = wr := ⟨_, rfl⟩
    by_cases hlt : k < n
    · have hltz : (k : Int) < (n : Int) := by omega
      have hc2 := hR.cell hlt
      have hf2 := hR.frozen k
      have HFK := hide (HF.out k)
      have hlr := hR.lt
      by_cases hm : k % a = 0
      · have HV := hide (HFK.out.trans (if_pos hm))
        have t0 : (k : Int).tmod (a : Int) = 0 := by rw [Int.tmod_eq_emod_of_nonneg (by omega), ← Int.natCast_emod, hm]; rfl
        obtain ⟨v, hv⟩ : ∃ v : Nat, u * k = v := ⟨_, rfl⟩
        have hv64 : v ≤ 64 := by rw [← hv]; exact Nat.mul_le_mul hu8 (show k ≤ 8 by omega)
        have hvz : (u : Int) * (k : Int) = (v : Int) := by rw [← hv]; exact (Int.natCast_mul u k).symm
        have q2 : IntKind.i64.wrap ((u : Int) * (k : Int)) = (v : Int) := by rw [hvz]; exact IntWalk.i64_in _ (by omega)
        obtain ⟨r, hr⟩ : ∃ r : Int, ((v % 8 : Nat) : Int) = r := ⟨_, rfl⟩
        have q3 : (v : Int).tmod 8 = r := by rw [Int.tmod_eq_emod_of_nonneg (by omega), ← hr]; omega
        rw [hv, hr] at HV
        clear hv hvz hr hm
        go_wp2_with fail
        go_roundw
        case rel =>
          exact ⟨k + 1, by omega, by go_num, (hb.other (by show w.heap.size ≠ w.heap.size + 1; omega) _).other (by show w.heap.size ≠ w.heap.size + 1; omega) _, ((hR.set k _).set k _).congr (fun x _ => by
            by_cases e : x = k
            · subst e
              rw [if_pos rfl, if_pos (Nat.lt_succ_self _), HV.out]
            · rw [if_neg e, if_neg e]
              by_cases e2 : x < k
              · rw [if_pos e2, if_pos (by omega)]
              · rw [if_neg e2, if_neg (by omega)]), (hB.setCell (by show w.heap.size ≤ w.heap.size + 1; omega) _).setCell (by show w.heap.size ≤ w.heap.size + 1; omega) _⟩
        case measure => simp [Go.RowKit.intOf]; omega
      · have HV := hide (HFK.out.trans (if_neg hm))
        obtain ⟨r, hr⟩ : ∃ r : Int, ((k % a : Nat) : Int) = r := ⟨_, rfl⟩
        have t0 : (k : Int).tmod (a : Int) = r := by rw [Int.tmod_eq_emod_of_nonneg (by omega), ← Int.natCast_emod, hr]
        have t1 : (r == 0) = false := by simp; omega
        clear hr hm
        go_wp2_with fail
        go_roundw
        case rel =>
          exact ⟨k + 1, by omega, by go_num, hb.other (by show w.heap.size ≠ w.heap.size + 1; omega) _, (hR.set k _).congr (fun x _ => by
            by_cases e : x = k
            · subst e
              rw [if_pos rfl, if_pos (Nat.lt_succ_self _), HV.out]
            · rw [if_neg e]
              by_cases e2 : x < k
              · rw [if_pos e2, if_pos (by omega)]
              · rw [if_neg e2, if_neg (by omega)]), hB.setCell (by show w.heap.size ≤ w.heap.size + 1; omega) _⟩
        case measure => simp [Go.RowKit.intOf]; omega
    · obtain rfl : k = n := by omega
      have x0 : wA.cell? ⟨w.heap.size, 0, none⟩ = some (.slice none 0 0) := hb.at_ 0
      have f0 := hb.free 0
      have hl := hb.lt
      have HBX := hide (show Box (wA.setCell ⟨w.heap.size, 0, none⟩ (.slice (some ⟨w.heap.size + 1, 0, none⟩) k k)) w.heap.size 43 #[.slice (some ⟨w.heap.size + 1, 0, none⟩) k k] by have := hb.set_ 0 (.slice (some ⟨w.heap.size + 1, 0, none⟩) k k); simpa using this)
      have HRX := hide (hR.setOther (a := ⟨w.heap.size, 0, none⟩) (by show w.heap.size + 1 ≠ w.heap.size; omega) (.slice (some ⟨w.heap.size + 1, 0, none⟩) k k))
      have HLX := hide (hB.setCell (p := ⟨w.heap.size, 0, none⟩) (Nat.le_refl _) (.slice (some ⟨w.heap.size + 1, 0, none⟩) k k))
      clear hb hR hB
      go_wp2_with fail
      clear x0
      have y0 := HBX.out.at_ 0
      simp only [List.getElem?_toArray] at y0
      refine bodyPost_ret (v := .agg #[.slice (some ⟨w.heap.size + 1, 0, none⟩) k k]) ?_ rfl ⟨_, rfl, IntsAt.of_row (HRX.out.congr fun j hj => by rw [if_pos hj]) (Nat.le_succ _), HLX.out⟩
      simp [results, Try.results101, go_sem, y0]
/-- So many, or none where there is an error. -/
def OrNone (V : Int) (k m : Nat) : Prop := (V = 0 → m = k) ∧ (V ≠ 0 → m = 0)
/-- The errors of Steering. -/
def steE (a s : Int) : Int := firstE [unI (withinB a 1 8) 2, stepE s]
theorem steE_zero {a s : Int} (h : steE a s = 0) : (1 ≤ a ∧ a ≤ 8) ∧ 0 ≤ s ∧ s ≤ 7 := by
  obtain ⟨h1, h2⟩ := firstE_none2 h
  obtain ⟨h3, -⟩ := firstE_none2 h2
  exact ⟨withinB_iff.1 (unI_none (by decide) h1), withinB_iff.1 (unI_none (by decide) h3)⟩
set_option maxHeartbeats 4000000 in
set_option maxRecDepth 100000 in
theorem Steering_any (a s : Int) (w : World) :
    Calls Try.prog 58 #[.int .i64 a, .int .i64 s] w fun e w' => ∃ A m c, e = .returned (.tuple #[.agg #[.slice A m c], .int .i64 (steE a s)]) ∧ OrNone (steE a s) a.toNat m ∧ m ≤ c ∧ c ≤ 8 ∧ IntsAt w' w.heap.size A m (stF s.toNat 1) ∧ Below w.heap.size w w' := by
  have HE := hide (show firstE [unI (withinB a 1 8) 2, stepE s] = steE a s from rfl)
  have HZ := hide (steE_zero (a := a) (s := s))
  generalize steE a s = V at *
  go_enter Try.func58, Try.ntmps58
  go_upto_region 1 with fail
  obtain ⟨W, hW⟩ : ∃ y : World, y = w.alloc (.cells #[.slice none 0 0] 43) := ⟨_, rfl⟩
  rw [← hW]
  have b4 : Box W w.heap.size 43 #[.slice none 0 0] := by rw [hW]; exact Box.made rfl
  have hB : Below w.heap.size w W := by rw [hW]; (repeat (first | (with_reducible exact Below.refl _ _) | (with_reducible refine Go.below_drewN ?_ _) | (with_reducible refine Below.drew ?_) | (with_reducible refine Below.alloc ?_ (by first | exact Nat.le_refl _ | (simp; done) | (simp; omega) | omega) _) | (with_reducible refine Below.setCell ?_ (by first | exact Nat.le_refl _ | (simp; done) | (simp; omega) | omega) _)))
  clear hW
  go_wp2_with (first | (go_at_call 99; refine (isWithin_any _ _ _ _).mono ?_; rintro e w' ⟨rfl, rfl⟩) | (go_at_call 70; refine (unless_any _ _ _).mono ?_; rintro e w' ⟨rfl, rfl⟩) | (go_at_call 100; refine (stepError_any _ _).mono ?_; rintro e w' ⟨rfl, rfl⟩))
  refine (firstError_laid [unI (withinB a 1 8) 2, stepE s] 2 _ _ rfl (by decide)).mono ?_
  rintro e w2 ⟨rfl, hw2⟩
  rw [HE.out]
  have b42 : Box w2 w.heap.size 43 #[.slice none 0 0] := by rw [← hw2]; exact b4.alloc _
  have hB2 : Below w.heap.size w w2 := by rw [← hw2]; exact hB.alloc hB.size _
  clear hw2 b4 hB HE
  by_cases hv : V = 0
  · obtain ⟨⟨a1, a2⟩, s1, s2⟩ := HZ.out hv
    have tv : (V != 0) = false := by simpa using hv
    obtain ⟨p, rfl⟩ : ∃ p : Nat, a = (p : Int) := ⟨a.toNat, by omega⟩
    obtain ⟨t, rfl⟩ : ∃ t : Nat, s = (t : Int) := ⟨s.toNat, by omega⟩
    have hp8 : p ≤ 8 := by omega
    have HST : Hid (∀ W, Calls Try.prog 101 #[.int .i64 (p : Int), .int .i64 (t : Int), .int .i64 1] W fun e w' => ∃ A, e = .returned (.agg #[.slice A p p]) ∧ IntsAt w' W.heap.size A p (stF t 1) ∧ Below W.heap.size W w') := hide (fun W => steering_any p t 1 W (by omega) (by omega) (by decide) (by decide))
    subst hv
    clear HZ a1 a2 s1 s2
    go_wp2_with fail
    refine (HST.out _).mono ?_
    rintro e w3 ⟨A, rfl, hI3, hb3⟩
    have b43 := b42.below hb3
    have hB3 := hB2.trans (hb3.mono hB2.size)
    have hI3 := hI3.weak (show w.heap.size + 1 ≤ w2.heap.size from b42.lt)
    clear hb3 b42 hB2
    have x0 : w3.cell? ⟨w.heap.size, 0, none⟩ = some (.slice none 0 0) := b43.at_ 0
    have f0 := b43.free 0
    have hl := b43.lt
    have HBX := hide (show Box (w3.setCell ⟨w.heap.size, 0, none⟩ (.slice A p p)) w.heap.size 43 #[.slice A p p] by have := b43.set_ 0 (.slice A p p); simpa using this)
    have HLX := hide (hB3.setCell (p := ⟨w.heap.size, 0, none⟩) (Nat.le_refl _) (.slice A p p))
    have HIX := hide ((hI3.other (p := ⟨w.heap.size, 0, none⟩) (Nat.lt_succ_self _) (.slice A p p)).weak (Nat.le_succ _))
    clear b43 hB3 hI3
    go_wp2_with fail
    clear x0
    have y0 := HBX.out.at_ 0
    simp only [List.getElem?_toArray] at y0
    refine bodyPost_ret (v := .tuple #[.agg #[.slice A p p], .int .i64 0]) ?_ rfl ⟨A, p, p, rfl, ⟨fun _ => by simp, fun h => absurd rfl h⟩, Nat.le_refl _, hp8, HIX.out, HLX.out⟩
    simp [results, Try.results58, go_sem, y0]
  · have tv : (V != 0) = true := by simpa using hv
    have HV := hide hv
    have x0 : w2.cell? ⟨w.heap.size, 0, none⟩ = some (.slice none 0 0) := b42.at_ 0
    have f0 := b42.free 0
    have hl := b42.lt
    have HBX := hide (show Box (w2.setCell ⟨w.heap.size, 0, none⟩ (.slice none 0 0)) w.heap.size 43 #[.slice none 0 0] by have := b42.set_ 0 (.slice none 0 0); simpa using this)
    have HLX := hide (hB2.setCell (p := ⟨w.heap.size, 0, none⟩) (Nat.le_refl _) (.slice none 0 0))
    clear hv b42 hB2 HZ
    go_wp2_with fail
    clear x0
    have y0 := HBX.out.at_ 0
    simp only [List.getElem?_toArray] at y0
    refine bodyPost_ret (v := .tuple #[.agg #[.slice none 0 0], .int .i64 V]) ?_ rfl ⟨none, 0, 0, rfl, ⟨fun h => absurd h HV.out, fun _ => rfl⟩, Nat.le_refl _, by decide, IntsAt.nil_, HLX.out⟩
    simp [results, Try.results58, go_sem, y0]
end Go.Proofs.Ytdkbjgnkehoplaa
