/- Lemmas: Wk, Wd, Wh, Wj, Wl, Wg, Wt. -/
import Derived.Shelf.Abstract
import Derived.Test.YtcndeegfkgfnkaaBy02
import Derived.Test.YtcndeegfkgfnkaaBy03
set_option linter.unusedVariables false
set_option linter.unusedSimpArgs false
/- compared of the code. -/
namespace Go.Proofs.Ytcndeegfkgfnkaa
open Go.RowKit Go.Lib
theorem or_cmp (X Y : Nat) : orI (cmpI ((X / 18446744073709551616 : Nat) : Int) ((Y / 18446744073709551616 : Nat) : Int)) (cmpI ((X % 18446744073709551616 : Nat) : Int) ((Y % 18446744073709551616 : Nat) : Int)) = cmpI X Y := by
  obtain ⟨a, ha⟩ : ∃ a, a = X / 18446744073709551616 := ⟨_, rfl⟩
  obtain ⟨b, hb⟩ : ∃ b, b = Y / 18446744073709551616 := ⟨_, rfl⟩
  obtain ⟨c, hc⟩ : ∃ c, c = X % 18446744073709551616 := ⟨_, rfl⟩
  obtain ⟨d, hd⟩ : ∃ d, d = Y % 18446744073709551616 := ⟨_, rfl⟩
  rw [← ha, ← hb, ← hc, ← hd]
  have hX : X = 18446744073709551616 * a + c := by omega
  have hY : Y = 18446744073709551616 * b + d := by omega
  have hc9 : c < 18446744073709551616 := by omega
  have hd9 : d < 18446744073709551616 := by omega
  rcases Nat.lt_trichotomy a b with e | e | e
  · rw [cmpI_lt (by omega), cmpI_lt (show (X : Int) < Y by omega)]; rfl
  · rw [cmpI_eq (by omega)]
    show cmpI c d = cmpI X Y
    rcases Nat.lt_trichotomy c d with f | f | f
    · rw [cmpI_lt (by omega), cmpI_lt (by omega)]
    · rw [cmpI_eq (by omega), cmpI_eq (by omega)]
    · rw [cmpI_gt (by omega), cmpI_gt (by omega)]
  · rw [cmpI_gt (by omega), cmpI_gt (show (Y : Int) < X by omega)]; rfl
/-- Which one of two squares is greater, of the differences p of P, and q of Q the other way round. -/
def compI (p q : Int) : Int := if cmpI p 0 = cmpI q 0 then cmpI p 0 * cmpI (p * p) (q * (q * 2)) else cmpI (cmpI p 0) (cmpI q 0)
theorem sign_cases (p : Int) : (p < 0 ∧ cmpI p 0 = -1) ∨ (p = 0 ∧ cmpI p 0 = 0) ∨ (0 < p ∧ cmpI p 0 = 1) := by
  rcases Int.lt_trichotomy p 0 with h | h | h
  · exact .inl ⟨h, cmpI_lt h⟩
  · exact .inr (.inl ⟨h, cmpI_eq h⟩)
  · exact .inr (.inr ⟨h, cmpI_gt h⟩)
/-- A number times its sign is a natural number with the same square. -/
theorem sign_mul (p : Int) : ∃ n : Nat, cmpI p 0 * p = (n : Int) ∧ (n : Int) * n = p * p ∧ (n = p ∨ (n : Int) = -p) := by
  rcases sign_cases p with ⟨h, e⟩ | ⟨h, e⟩ | ⟨h, e⟩
  · refine ⟨(-p).toNat, by rw [e]; omega, ?_, .inr (by omega)⟩
    rw [show (((-p).toNat : Nat) : Int) = -p by omega, Int.neg_mul_neg]
  · subst h; exact ⟨0, by simp, by simp, .inl rfl⟩
  · refine ⟨p.toNat, by rw [e]; omega, ?_, .inl (by omega)⟩
    rw [show ((p.toNat : Nat) : Int) = p by omega]
set_option maxHeartbeats 600000 in
set_option maxRecDepth 100000 in
theorem compared_any (a b c d : Int) (w : World) (ha : -100000000000000000 ≤ a ∧ a ≤ 100000000000000000) (hb : -100000000000000000 ≤ b ∧ b ≤ 100000000000000000) (hc : -100000000000000000 ≤ c ∧ c ≤ 100000000000000000) (hd : -100000000000000000 ≤ d ∧ d ≤ 100000000000000000) :
    Calls Try.prog 41 #[.agg #[.int .i64 a, .int .i64 b], .agg #[.int .i64 c, .int .i64 d]] w fun e w' => e = .returned (.int .i64 (compI (a - c) (d - b))) ∧ Below w.heap.size w w' := by
  obtain ⟨p, hp⟩ : ∃ p, p = a - c := ⟨_, rfl⟩
  obtain ⟨q, hq⟩ : ∃ q, q = d - b := ⟨_, rfl⟩
  have q1 : IntKind.i64.wrap (a - c) = p := by rw [hp]; exact IntWalk.i64_in _ (by omega)
  have q2 : IntKind.i64.wrap (d - b) = q := by rw [hq]; exact IntWalk.i64_in _ (by omega)
  have hpb : -200000000000000000 ≤ p ∧ p ≤ 200000000000000000 := by omega
  have hqb : -200000000000000000 ≤ q ∧ q ≤ 200000000000000000 := by omega
  rw [← hp, ← hq]
  have HD := hide (show compI p q = if cmpI p 0 = cmpI q 0 then cmpI p 0 * cmpI (p * p) (q * (q * 2)) else cmpI (cmpI p 0) (cmpI q 0) from rfl)
  have hsl := cmpI_le p 0
  have htl := cmpI_le q 0
  obtain ⟨mp, hnp, hnp2, hnp3⟩ := sign_mul p
  obtain ⟨mq, hnq, hnq2, hnq3⟩ := sign_mul q
  have CP := hide (fun W => compare_int p 0 W)
  have CQ := hide (fun W => compare_int q 0 W)
  obtain ⟨R, hR⟩ : ∃ R, R = compI p q := ⟨_, rfl⟩
  rw [← hR] at HD ⊢
  clear hR hp hq ha hb hc hd
  generalize hs : cmpI p 0 = s at *
  generalize ht : cmpI q 0 = t at *
  clear hs ht
  by_cases hst : s = t
  · subst hst
    have t1 : (s != s) = false := by simp
    have q3 : IntKind.i64.wrap (s * p) = (mp : Int) := by rw [hnp]; exact IntWalk.i64_in _ (by omega)
    have q4 : IntKind.i64.wrap (s * q) = (mq : Int) := by rw [hnq]; exact IntWalk.i64_in _ (by omega)
    have q5 : IntKind.i64.wrap ((mq : Int) * 2) = ((mq * 2 : Nat) : Int) := by rw [IntWalk.i64_in _ (by omega)]; omega
    have u1 : IntKind.u64.wrap (mp : Int) = (mp : Int) := wrapN mp (by omega)
    have u2 : IntKind.u64.wrap (mq : Int) = (mq : Int) := wrapN mq (by omega)
    obtain ⟨n2, hn2⟩ : ∃ n2, n2 = mq * 2 := ⟨_, rfl⟩
    have u3 : IntKind.u64.wrap (n2 : Int) = (n2 : Int) := wrapN n2 (by omega)
    have M1 := hide (fun W => mul64_any mp mp (by omega) (by omega) W)
    have M2 := hide (fun W => mul64_any mq n2 (by omega) (by omega) W)
    have HF := hide (show s * orI (cmpI ((mp * mp / 18446744073709551616 : Nat) : Int) ((mq * n2 / 18446744073709551616 : Nat) : Int)) (cmpI ((mp * mp % 18446744073709551616 : Nat) : Int) ((mq * n2 % 18446744073709551616 : Nat) : Int)) = R from by
      rw [or_cmp, HD.out, if_pos rfl, Int.natCast_mul, Int.natCast_mul, hnp2, hn2, Int.natCast_mul, ← Int.mul_assoc, ← Int.mul_assoc, hnq2]
      rfl)
    rw [← hn2] at q5
    generalize mp * mp / 18446744073709551616 = x1 at *
    generalize mp * mp % 18446744073709551616 = x2 at *
    generalize mq * n2 / 18446744073709551616 = y1 at *
    generalize mq * n2 % 18446744073709551616 = y2 at *
    have hl1 := cmpI_le (x1 : Int) (y1 : Int)
    have hl2 := cmpI_le (x2 : Int) (y2 : Int)
    have hol : -1 ≤ orI (cmpI (x1 : Int) (y1 : Int)) (cmpI (x2 : Int) (y2 : Int)) ∧ orI (cmpI (x1 : Int) (y1 : Int)) (cmpI (x2 : Int) (y2 : Int)) ≤ 1 := by unfold orI; split <;> omega
    have hRb : IntKind.i64.wrap (s * orI (cmpI (x1 : Int) (y1 : Int)) (cmpI (x2 : Int) (y2 : Int))) = R := by
      have := mul_within (M := 1) (N := 1) (show -1 ≤ s ∧ s ≤ 1 by omega) hol
      rw [IntWalk.i64_in _ (by omega), HF.out]
    clear hnp hnq hnp2 hnq2 hnp3 hnq3 hn2 HD hol
    go_enter Try.func41, Try.ntmps41
    go_upto_region 1 with fail
    obtain ⟨W, hW⟩ : ∃ y : World, y = (w.alloc (.cells #[.int .i64 a, .int .i64 b] 81)).alloc (.cells #[.int .i64 c, .int .i64 d] 81) := ⟨_, rfl⟩
    rw [← hW]
    have bx : Box W w.heap.size 81 #[.int .i64 a, .int .i64 b] := by rw [hW]; exact (Box.made rfl).alloc _
    have by' : Box W (w.heap.size + 1) 81 #[.int .i64 c, .int .i64 d] := by rw [hW]; exact Box.made (by simp)
    have hB : Below w.heap.size w W := by rw [hW]; (repeat (first | (with_reducible exact Below.refl _ _) | (with_reducible refine Go.below_drewN ?_ _) | (with_reducible refine Below.drew ?_) | (with_reducible refine Below.alloc ?_ (by first | exact Nat.le_refl _ | (simp; done) | (simp; omega) | omega) _) | (with_reducible refine Below.setCell ?_ (by first | exact Nat.le_refl _ | (simp; done) | (simp; omega) | omega) _)))
    have x0 : W.cell? ⟨w.heap.size, 0, none⟩ = some (.int .i64 a) := bx.at_ 0
    have x1 : W.cell? ⟨w.heap.size, 1, none⟩ = some (.int .i64 b) := bx.at_ 1
    have y0 : W.cell? ⟨w.heap.size + 1, 0, none⟩ = some (.int .i64 c) := by'.at_ 0
    have y1 : W.cell? ⟨w.heap.size + 1, 1, none⟩ = some (.int .i64 d) := by'.at_ 1
    have hlx := bx.lt
    have hly := by'.lt
    clear hW bx by'
    go_quiet (fail)
    clear x0 x1 y0 y1 hlx hly
    have hBV := Go.below_drewN hB nq
    generalize W.drewN nq = V at *
    clear hB
    go_wp2_with fail
    refine (CP.out _).mono ?_
    rintro e w' ⟨rfl, rfl⟩
    go_wp2_with fail
    refine (CQ.out _).mono ?_
    rintro e w' ⟨rfl, rfl⟩
    go_wp2_with fail
    refine (M1.out _).mono ?_
    rintro e w' ⟨rfl, rfl⟩
    go_wp2_with fail
    refine (M2.out _).mono ?_
    rintro e w' ⟨rfl, rfl⟩
    go_wp2_with fail
    refine (compare_u64 _ _ _).mono ?_
    rintro e w' ⟨rfl, rfl⟩
    go_wp2_with fail
    refine (compare_u64 _ _ _).mono ?_
    rintro e w' ⟨rfl, rfl⟩
    go_wp2_with fail
    have hb2 : Box (V.alloc (.cells #[.int .i64 (cmpI (x1 : Int) (y1 : Int)), .int .i64 (cmpI (x2 : Int) (y2 : Int))] 3)) V.heap.size 3 #[.int .i64 (cmpI (x1 : Int) (y1 : Int)), .int .i64 (cmpI (x2 : Int) (y2 : Int))] := Box.made rfl
    refine (or_two (cmpI (x1 : Int) (y1 : Int)) (cmpI (x2 : Int) (y2 : Int)) V.heap.size _ _ (hb2.at_ 0) (hb2.at_ 1)).mono ?_
    rintro e w' ⟨rfl, rfl⟩
    clear hb2
    go_wp2_with fail
    go_ret
    exact ⟨rfl, hBV.alloc hBV.size _⟩
  · have t1 : (s != t) = true := by simpa using hst
    have HE := hide (HD.out.trans (if_neg hst))
    clear hst HD hnp hnq hnp2 hnq2 hnp3 hnq3
    go_enter Try.func41, Try.ntmps41
    go_upto_region 1 with fail
    obtain ⟨W, hW⟩ : ∃ y : World, y = (w.alloc (.cells #[.int .i64 a, .int .i64 b] 81)).alloc (.cells #[.int .i64 c, .int .i64 d] 81) := ⟨_, rfl⟩
    rw [← hW]
    have bx : Box W w.heap.size 81 #[.int .i64 a, .int .i64 b] := by rw [hW]; exact (Box.made rfl).alloc _
    have by' : Box W (w.heap.size + 1) 81 #[.int .i64 c, .int .i64 d] := by rw [hW]; exact Box.made (by simp)
    have hB : Below w.heap.size w W := by rw [hW]; (repeat (first | (with_reducible exact Below.refl _ _) | (with_reducible refine Go.below_drewN ?_ _) | (with_reducible refine Below.drew ?_) | (with_reducible refine Below.alloc ?_ (by first | exact Nat.le_refl _ | (simp; done) | (simp; omega) | omega) _) | (with_reducible refine Below.setCell ?_ (by first | exact Nat.le_refl _ | (simp; done) | (simp; omega) | omega) _)))
    have x0 : W.cell? ⟨w.heap.size, 0, none⟩ = some (.int .i64 a) := bx.at_ 0
    have x1 : W.cell? ⟨w.heap.size, 1, none⟩ = some (.int .i64 b) := bx.at_ 1
    have y0 : W.cell? ⟨w.heap.size + 1, 0, none⟩ = some (.int .i64 c) := by'.at_ 0
    have y1 : W.cell? ⟨w.heap.size + 1, 1, none⟩ = some (.int .i64 d) := by'.at_ 1
    have hlx := bx.lt
    have hly := by'.lt
    clear hW bx by'
    go_quiet (fail)
    clear x0 x1 y0 y1 hlx hly
    have hBV := Go.below_drewN hB nq
    generalize W.drewN nq = V at *
    clear hB
    go_wp2_with fail
    refine (CP.out _).mono ?_
    rintro e w' ⟨rfl, rfl⟩
    go_wp2_with fail
    refine (CQ.out _).mono ?_
    rintro e w' ⟨rfl, rfl⟩
    go_wp2_with fail
    refine (CQ.out _).mono ?_
    rintro e w' ⟨rfl, rfl⟩
    go_wp2_with fail
    refine (compare_int s t _).mono ?_
    rintro e w' ⟨rfl, rfl⟩
    go_wp2_with fail
    go_ret
    exact ⟨ret_int HE.out.symm, hBV⟩
end Go.Proofs.Ytcndeegfkgfnkaa
/- partsError; numberWithin and its function; numberOf, conjugate, squareOf. -/
namespace Go.Proofs.Ytcndeegfkgfnkaa
open Go.RowKit
set_option maxHeartbeats 1000000 in
theorem partsError_any (M : Int) (A : Option Addr) (n c : Nat) (F : Nat → Int) (w : World) (hn : n ≤ 1000000) (hM : 0 ≤ M ∧ M ≤ 9000000000000000000) (hI : IntsAt w 0 A n F) :
    Calls Try.prog 56 #[.int .i64 M, .slice A n c] w fun e w' => e = .returned (.int .i64 (sizeE M F n)) ∧ w = w' := by
  have HI := hide hI
  have q1 : IntKind.i64.wrap (-M) = -M := IntWalk.i64_in _ (by omega)
  clear hI hM
  go_enter Try.func56, Try.ntmps56
  go_wp2_with fail
  go_loopw [9] (fun i wr => ∃ k : Nat, k ≤ n ∧ i = .int .i64 (k : Int) ∧ Hid (badE (fun j => unI (withinB (F j) (-M) M) 2) k = 0) ∧ w = wr) (fun i _ => n - (Go.RowKit.intOf i).toNat)
  case atStart => exact ⟨0, Nat.zero_le _, rfl, hide rfl, rfl⟩
  case round =>
    obtain ⟨k, hk, rfl, HZ, rfl⟩ := hrel
    by_cases hlt : k < n
    · have hltz : (k : Int) < (n : Int) := by omega
      obtain ⟨b, o, rfl, -, hb, hcell⟩ := HI.out k hlt
      have hg := hide (badE_succ HZ.out)
      have HA := hide (badE_at HZ.out (n := n) · hlt)
      cases hw : withinB (F k) (-M) M
      · have HQ := hide (show sizeE M F n = 2 from by
          have h1 : unI (withinB (F k) (-M) M) 2 = 2 := by rw [hw]; rfl
          have h2 := badE_at (g := fun j => unI (withinB (F j) (-M) M) 2) HZ.out (by show unI (withinB (F k) (-M) M) 2 ≠ 0; rw [h1]; decide) n hlt
          exact h2.trans h1)
        clear HA hg
        go_wp2_with fail
        refine (isWithin_any _ _ _ _).mono ?_
        rintro e w' ⟨rfl, rfl⟩
        rw [hw]
        go_wp2_with fail
        go_ret
        exact ⟨ret_int HQ.out.symm, rfl⟩
      · have HN := hide (show badE (fun j => unI (withinB (F j) (-M) M) 2) (k + 1) = 0 from by
          rw [badE_succ HZ.out]
          show unI (withinB (F k) (-M) M) 2 = 0
          rw [hw]; rfl)
        clear HA hg
        go_wp2_with fail
        refine (isWithin_any _ _ _ _).mono ?_
        rintro e w' ⟨rfl, rfl⟩
        rw [hw]
        go_wp2_with fail
        go_roundw
        case rel => exact ⟨k + 1, by omega, by go_num, HN, by first | rfl | trivial⟩
        case measure => simp [Go.RowKit.intOf]; omega
    · obtain rfl : k = n := by omega
      go_wp2_with fail
      go_ret
      exact ⟨ret_int HZ.out.symm, rfl⟩
set_option maxHeartbeats 1000000 in
set_option maxRecDepth 100000 in
theorem numberWithin1_any (x : Num) (M : Int) (b : Nat) (w : World) (hm : w.cell? ⟨b, 0, none⟩ = some (.int .i64 M)) (hM : 0 ≤ M ∧ M ≤ 9000000000000000000) :
    Calls Try.prog 55 #[.agg #[.int .i64 x.a, .int .i64 x.b, .int .i64 x.c, .int .i64 x.d], .pointer (some ⟨b, 0, none⟩)] w fun e w' => e = .returned (.int .i64 (x.err M)) ∧ Below w.heap.size w w' := by
  have hb := World.block_lt_of_cell? w _ hm
  simp only at hb
  have hm2 : (w.alloc (.cells #[.int .i64 x.a, .int .i64 x.b, .int .i64 x.c, .int .i64 x.d] 46)).cell? ⟨b, 0, none⟩ = some (.int .i64 M) := (((Below.refl w.heap.size w).alloc (Nat.le_refl _) _).cell (p := ⟨b, 0, none⟩) hb).trans hm
  have HPE := hide (fun (W : World) (g : Nat) (hg : g = W.heap.size) => partsError_any M (some ⟨g, 0, none⟩) 4 4 (fun j => [x.a, x.b, x.c, x.d].getD j 0) (W.alloc (.cells #[.int .i64 x.a, .int .i64 x.b, .int .i64 x.c, .int .i64 x.d] 3)) (by decide) hM (fun k hk => by
    have hb : Box (W.alloc (.cells #[.int .i64 x.a, .int .i64 x.b, .int .i64 x.c, .int .i64 x.d] 3)) g 3 #[.int .i64 x.a, .int .i64 x.b, .int .i64 x.c, .int .i64 x.d] := Box.made hg
    refine ⟨_, _, rfl, Nat.zero_le _, hb.lt, ?_⟩
    rw [hb.at_]
    match k, hk with
    | 0, _ => rfl
    | 1, _ => rfl
    | 2, _ => rfl
    | 3, _ => rfl))
  rw [size4 M x.a x.b x.c x.d (fun j => [x.a, x.b, x.c, x.d].getD j 0) rfl rfl rfl rfl] at HPE
  clear hm hM
  go_enter Try.func55, Try.ntmps55
  go_wp2_with fail
  refine (HPE.out _ _ (by simp)).mono ?_
  rintro e w1 ⟨rfl, rfl⟩
  go_wp2_with fail
  go_ret
  exact ⟨rfl, by (repeat (first | (with_reducible exact Below.refl _ _) | (with_reducible refine Go.below_drewN ?_ _) | (with_reducible refine Below.drew ?_) | (with_reducible refine Below.alloc ?_ (by first | exact Nat.le_refl _ | (simp; done) | (simp; omega) | omega) _) | (with_reducible refine Below.setCell ?_ (by first | exact Nat.le_refl _ | (simp; done) | (simp; omega) | omega) _)))⟩
end Go.Proofs.Ytcndeegfkgfnkaa
/- firstWrong, itemsError of numbers; smallError, resultError. -/
namespace Go.Proofs.Ytcndeegfkgfnkaa
open Go.RowKit
set_option maxHeartbeats 2000000 in
theorem firstWrong_nums (g : Nat) (lb : Array Value) (eg : ∀ args w, (callFunc g args).run Try.prog w = .ok (.enter g args) w) (p : Num → Int) (A : Option Addr) (n c : Nat) (F : Nat → Num) (w : World)
    (hn : n ≤ 100000) (hI : NumsAt w 0 A n F) (hp : ∀ (x : Num) W, Below w.heap.size w W → Calls Try.prog g (#[.agg #[.int .i64 x.a, .int .i64 x.b, .int .i64 x.c, .int .i64 x.d]] ++ lb) W fun e w' => e = .returned (.int .i64 (p x)) ∧ Below W.heap.size W w') :
    Calls Try.prog 54 #[.slice A n c, .func (.func g) #[] lb] w fun e w' => e = .returned (.tuple #[.int .i64 (badI (fun j => p (F j)) n : Nat), .int .i64 (badE (fun j => p (F j)) n)]) ∧ Below w.heap.size w w' := by
  have HP := hide hp
  have HI := hide hI
  clear hp hI
  go_enter Try.func54, Try.ntmps54
  go_wp2_with fail
  go_loopg [11] n (fun gg s wr => ∃ k : Nat, k ≤ n ∧ n - k ≤ gg ∧ s = .int .i64 (k : Int) ∧ Hid (badE (fun j => p (F j)) k = 0) ∧ Below w.heap.size w wr)
  case atStart => exact ⟨0, Nat.zero_le _, by omega, rfl, hide rfl, Below.refl _ _⟩
  case round =>
    obtain ⟨k, hk, hg, rfl, HZ, hB⟩ := hrel
    obtain ⟨wA, rfl⟩ : ∃ x : World, x = wr := ⟨_, rfl⟩
    have hBs := hB.size
    by_cases hlt : k < n
    · have hltz : (k : Int) < (n : Int) := by omega
      obtain ⟨b, o, rfl, -, hb, c0, c1, c2, c3⟩ := (HI.out.below hB) k hlt
      have HQ := hide (show p (F k) ≠ 0 → badE (fun j => p (F j)) n = p (F k) ∧ badI (fun j => p (F j)) n = k from fun h => ⟨badE_at (g := fun j => p (F j)) HZ.out h n hlt, badI_at (g := fun j => p (F j)) HZ.out h n hlt⟩)
      have HN := hide (show p (F k) = 0 → badE (fun j => p (F j)) (k + 1) = 0 from fun h => by rw [badE_succ HZ.out]; exact h)
      generalize F k = x at *
      have HC := hide (fun W hW => HP.out x W hW)
      generalize p x = r at *
      go_upto_region 4 with fail
      obtain ⟨W1, hW1⟩ : ∃ y : World, y = wA.alloc (.cells #[.int .i64 x.a, .int .i64 x.b, .int .i64 x.c, .int .i64 x.d] 46) := ⟨_, rfl⟩
      rw [← hW1]
      have bx1 : Box W1 wA.heap.size 46 #[.int .i64 x.a, .int .i64 x.b, .int .i64 x.c, .int .i64 x.d] := by rw [hW1]; exact Box.made rfl
      have hB1 : Below w.heap.size w W1 := by rw [hW1]; exact hB.alloc hBs _
      clear hW1 hB hb c0 c1 c2 c3
      obtain ⟨y0, y1, y2, y3, g0, g1, g2, g3, hl'⟩ := bx1.cells4
      have hcall := HC.out W1 hB1
      by_cases hr : r = 0
      · have HN2 := hide (HN.out hr)
        subst hr
        clear HQ HN
        go_wp2_with (go_at_fn g; refine hcall.mono ?_; rintro e w2 ⟨rfl, hb2⟩)
        go_roundg (n - (k + 1))
        case measure => omega
        case rel => exact ⟨k + 1, by omega, by omega, by go_num, HN2, hB1.trans (hb2.mono hB1.size)⟩
      · have t1 : (r != 0) = true := by simpa using hr
        have HQ2 := hide (HQ.out hr)
        clear HQ HN hr
        go_wp2_with (go_at_fn g; refine hcall.mono ?_; rintro e w2 ⟨rfl, hb2⟩)
        go_ret2
        exact ⟨by rw [HQ2.out.1, HQ2.out.2]; rfl, hB1.trans (hb2.mono hB1.size)⟩
    · obtain rfl : k = n := by omega
      go_wp2_with fail
      go_ret2
      exact ⟨by rw [HZ.out, badI_zero HZ.out]; rfl, hB⟩
end Go.Proofs.Ytcndeegfkgfnkaa
/- numberWithin, itemsError of numbers, smallError, resultError of the code. -/
namespace Go.Proofs.Ytcndeegfkgfnkaa
open Go.RowKit
set_option maxHeartbeats 1000000 in
theorem numberWithin_any (M : Int) (w : World) :
    Calls Try.prog 37 #[.int .i64 M] w fun e w' => e = .returned (.func (.func 55) #[] #[.pointer (some ⟨w.heap.size, 0, none⟩)]) ∧ w.alloc (.cells #[.int .i64 M] 3) = w' := by
  go_enter Try.func37, Try.ntmps37
  go_wp2_with fail
  go_ret
  exact ⟨rfl, rfl⟩
/-- The error of n numbers of size M at most. -/
def numsE (M : Int) (F : Nat → Num) (n : Nat) : Int := badE (fun j => (F j).err M) n
set_option maxHeartbeats 1000000 in
theorem itemsError_nums (M : Int) (A : Option Addr) (n c b : Nat) (F : Nat → Num) (w : World) (hn : n ≤ 100000) (hI : NumsAt w 0 A n F) (hm : w.cell? ⟨b, 0, none⟩ = some (.int .i64 M)) (hM : 0 ≤ M ∧ M ≤ 9000000000000000000) :
    Calls Try.prog 36 #[.slice A n c, .func (.func 55) #[] #[.pointer (some ⟨b, 0, none⟩)]] w fun e w' => e = .returned (.int .i64 (numsE M F n)) ∧ Below w.heap.size w w' := by
  have hb := World.block_lt_of_cell? w _ hm
  simp only at hb
  have HX := hide (firstWrong_nums 55 #[.pointer (some ⟨b, 0, none⟩)] (enters_of Try.func55 (by kernel_rfl) rfl) (fun x => x.err M) A n c F w hn hI (fun x W hW => numberWithin1_any x M b W ((hW.cell (p := ⟨b, 0, none⟩) hb).trans hm) hM))
  clear hI hm hb
  go_enter Try.func36, Try.ntmps36
  go_wp2_with (go_at_call 54; refine HX.out.mono ?_; rintro e w' ⟨rfl, hb1⟩)
  go_ret
  exact ⟨rfl, hb1⟩
set_option maxHeartbeats 1000000 in
theorem smallError_any (A : Option Addr) (n c : Nat) (F : Nat → Num) (w : World) (hn : n ≤ 100000) (hI : NumsAt w 0 A n F) :
    Calls Try.prog 33 #[.slice A n c] w fun e w' => e = .returned (.int .i64 (numsE 1000000000 F n)) ∧ Below w.heap.size w w' := by
  have HI := hide hI
  clear hI
  go_enter Try.func33, Try.ntmps33
  go_wp2_with fail
  refine (numberWithin_any _ _).mono ?_
  rintro e w1 ⟨rfl, hw1⟩
  have hc : w1.cell? ⟨w.heap.size, 0, none⟩ = some (.int .i64 1000000000) := by rw [← hw1]; exact (Box.made rfl : Box _ w.heap.size 3 #[.int .i64 1000000000]).at_ 0
  have hB1 : Below w.heap.size w w1 := by rw [← hw1]; exact (Below.refl _ _).alloc (Nat.le_refl _) _
  clear hw1
  go_wp2_with fail
  refine (itemsError_nums 1000000000 A n c w.heap.size F _ hn (HI.out.below hB1) hc (by decide)).mono ?_
  rintro e w2 ⟨rfl, hb2⟩
  go_wp2_with fail
  go_ret
  exact ⟨rfl, hB1.trans (hb2.mono hB1.size)⟩
set_option maxHeartbeats 1000000 in
theorem resultError_any (A : Option Addr) (n c : Nat) (F : Nat → Num) (w : World) (hn : n ≤ 100000) (hI : NumsAt w 0 A n F) :
    Calls Try.prog 32 #[.slice A n c] w fun e w' => e = .returned (.int .i64 (unI (numsE 1000000000 F n == 0) 8)) ∧ Below w.heap.size w w' := by
  have HX := hide (smallError_any A n c F w hn hI)
  clear hI
  generalize numsE 1000000000 F n = r at *
  go_enter Try.func32, Try.ntmps32
  go_wp2_with fail
  refine HX.out.mono ?_
  rintro e w1 ⟨rfl, hb1⟩
  go_wp2_with (go_at_call 22; refine (unless_any _ _ _).mono ?_; rintro e w' ⟨rfl, rfl⟩)
  go_ret
  exact ⟨rfl, hb1⟩
end Go.Proofs.Ytcndeegfkgfnkaa
/- Turned of the code. -/
namespace Go.Proofs.Ytcndeegfkgfnkaa
open Go.RowKit
/-- The first of two errors. -/
def twoE (a b : Int) : Int := if a = 0 then b else a
theorem firstE_two (a b : Int) : firstE [a, b] = twoE a b := by
  unfold twoE firstE
  by_cases h : a = 0
  · rw [if_pos h, if_pos h]
    unfold firstE
    by_cases h2 : b = 0
    · rw [if_pos h2, h2]; rfl
    · rw [if_neg h2]
  · rw [if_neg h, if_neg h]
def turnedE (x : Num) (n : Int) : Int := twoE (x.err 1000000000) (unI (withinB n 0 7) 2)
/-- What Turned hands back. -/
def turnedR (x : Num) (n : Int) : Num := if turnedE x n = 0 then x.turns (n % 8).toNat else Num.zero
theorem numsE_one (M : Int) (x : Num) : numsE M (fun _ => x) 1 = x.err M := by
  unfold numsE badE badE
  rw [if_pos rfl]
theorem err_within {M : Int} {x : Num} (h : x.err M = 0) : x.Within M := by
  unfold Num.err unI at h
  by_cases h1 : x.isIn M = true
  · exact Num.isIn_iff.1 h1
  · rw [if_neg h1] at h; exact absurd h (by decide)
theorem NumsAt.one {w : World} {b : Nat} {t : TypeId} {x : Num} (h : Box w b t #[.int .i64 x.a, .int .i64 x.b, .int .i64 x.c, .int .i64 x.d]) : NumsAt w 0 (some ⟨b, 0, none⟩) 1 (fun _ => x) := fun i hi => by
  obtain rfl : i = 0 := by omega
  obtain ⟨z0, z1, z2, z3, -⟩ := h.cells4
  exact ⟨b, 0, rfl, Nat.zero_le _, h.lt, by simpa using z0, by simpa using z1, by simpa using z2, by simpa using z3⟩
set_option maxHeartbeats 2000000 in
set_option maxRecDepth 100000 in
theorem Turned_any (x : Num) (n : Int) (w : World) :
    Calls Try.prog 15 #[.agg #[.int .i64 x.a, .int .i64 x.b, .int .i64 x.c, .int .i64 x.d], .int .i64 n] w fun e w' => e = .returned (.tuple #[.agg #[.int .i64 (turnedR x n).a, .int .i64 (turnedR x n).b, .int .i64 (turnedR x n).c, .int .i64 (turnedR x n).d], .int .i64 (turnedE x n)]) ∧ Below w.heap.size w w' := by
  have HE := hide (show firstE [x.err 1000000000, unI (withinB n 0 7) 2] = turnedE x n from firstE_two _ _)
  have HZ := hide (show turnedE x n = 0 → x.Within 1000000000 from fun h => by
    unfold turnedE twoE at h
    by_cases h1 : x.err 1000000000 = 0
    · exact err_within h1
    · rw [if_neg h1] at h; exact absurd h h1)
  have HR := hide (show turnedR x n = if turnedE x n = 0 then x.turns (n % 8).toNat else Num.zero from rfl)
  generalize turnedR x n = Y at *
  generalize turnedE x n = V at *
  go_enter Try.func15, Try.ntmps15
  go_upto_region 1 with fail
  obtain ⟨W, hW⟩ : ∃ y : World, y = (w.alloc (.cells #[.int .i64 x.a, .int .i64 x.b, .int .i64 x.c, .int .i64 x.d] 46)).alloc (.cells #[.int .i64 0, .int .i64 0, .int .i64 0, .int .i64 0] 46) := ⟨_, rfl⟩
  rw [← hW]
  have bx : Box W w.heap.size 46 #[.int .i64 x.a, .int .i64 x.b, .int .i64 x.c, .int .i64 x.d] := by rw [hW]; exact (Box.made rfl).alloc _
  have by' : Box W (w.heap.size + 1) 46 #[.int .i64 0, .int .i64 0, .int .i64 0, .int .i64 0] := by rw [hW]; exact Box.made (by simp)
  have hB : Below w.heap.size w W := by rw [hW]; (repeat (first | (with_reducible exact Below.refl _ _) | (with_reducible refine Go.below_drewN ?_ _) | (with_reducible refine Below.drew ?_) | (with_reducible refine Below.alloc ?_ (by first | exact Nat.le_refl _ | (simp; done) | (simp; omega) | omega) _) | (with_reducible refine Below.setCell ?_ (by first | exact Nat.le_refl _ | (simp; done) | (simp; omega) | omega) _)))
  clear hW
  obtain ⟨x0, x1, x2, x3, f0, f1, f2, f3, hlx⟩ := bx.cells4
  go_wp2_with fail
  have hB0 : Below W.heap.size W (W.alloc (.cells #[.int .i64 x.a, .int .i64 x.b, .int .i64 x.c, .int .i64 x.d] 46)) := (Below.refl _ _).alloc (Nat.le_refl _) _
  refine (smallError_any (some ⟨W.heap.size, 0, none⟩) 1 1 (fun _ => x) _ (by decide) (NumsAt.one (Box.made rfl))).mono ?_
  rintro e w1 ⟨rfl, hb1⟩
  rw [numsE_one]
  have hb1' := hB0.trans (hb1.mono (by simp))
  have bx1 := bx.below hb1'
  have by1 := by'.below hb1'
  have hB1 := hB.trans (hb1'.mono hB.size)
  clear x0 x1 x2 x3 f0 f1 f2 f3 hlx bx by' hB hB0 hb1 hb1'
  go_wp2_with (go_at_call 34; refine (eighthsError_any _ _).mono ?_; rintro e w' ⟨rfl, rfl⟩)
  refine (firstError_laid [x.err 1000000000, unI (withinB n 0 7) 2] 2 _ _ rfl (by decide)).mono ?_
  rintro e w2 ⟨rfl, hw2⟩
  rw [HE.out]
  have bx2 : Box w2 w.heap.size 46 #[.int .i64 x.a, .int .i64 x.b, .int .i64 x.c, .int .i64 x.d] := by rw [← hw2]; exact bx1.alloc _
  have by2 : Box w2 (w.heap.size + 1) 46 #[.int .i64 0, .int .i64 0, .int .i64 0, .int .i64 0] := by rw [← hw2]; exact by1.alloc _
  have hB2 : Below w.heap.size w w2 := by rw [← hw2]; exact hB1.alloc hB1.size _
  clear hw2 bx1 by1 hB1
  by_cases hv : V = 0
  · have HX := hide (HZ.out hv)
    have tv : (V != 0) = false := by simpa using hv
    have HV := hide hv
    obtain ⟨x0, x1, x2, x3, f0, f1, f2, f3, hlx⟩ := bx2.cells4
    subst hv
    go_wp2_with fail
    refine (turned_any x n _ (HX.out.more (by decide))).mono ?_
    rintro e w3 ⟨rfl, hb3⟩
    have by3 := by2.below hb3
    have hB3 := hB2.trans (hb3.mono hB2.size)
    clear x0 x1 x2 x3 f0 f1 f2 f3 hlx bx2 by2 hB2 hb3
    obtain ⟨y0, y1, y2, y3, g0, g1, g2, g3, hly⟩ := by3.cells4
    obtain ⟨z, hz⟩ : ∃ z, x.turns (n % 8).toNat = z := ⟨_, rfl⟩
    rw [hz]
    have HC := hide (by3.put4 (.int .i64 z.a) (.int .i64 z.b) (.int .i64 z.c) (.int .i64 z.d)).cells4
    have HBL := hide (Below.put4 hB3 (Nat.le_succ _) (.int .i64 z.a) (.int .i64 z.b) (.int .i64 z.c) (.int .i64 z.d))
    have HZZ := hide hz
    clear hz by3 hB3
    go_wp2_with fail
    clear y0 y1 y2 y3
    obtain ⟨y0, y1, y2, y3, -⟩ := HC.out
    refine bodyPost_ret (v := .tuple #[.agg #[.int .i64 z.a, .int .i64 z.b, .int .i64 z.c, .int .i64 z.d], .int .i64 0]) ?_ rfl ⟨by rw [show Y = z from by rw [HR.out]; simpa using HZZ.out], HBL.out⟩
    simp [results, Try.results15, go_sem, y0, y1, y2, y3]
  · have tv : (V != 0) = true := by simpa using hv
    have HV := hide hv
    obtain ⟨y0, y1, y2, y3, g0, g1, g2, g3, hly⟩ := by2.cells4
    have HC := hide (by2.put4 (.int .i64 0) (.int .i64 0) (.int .i64 0) (.int .i64 0)).cells4
    have HBL := hide (Below.put4 hB2 (Nat.le_succ _) (.int .i64 0) (.int .i64 0) (.int .i64 0) (.int .i64 0))
    clear hv bx2 by2 hB2
    go_wp2_with fail
    clear y0 y1 y2 y3
    obtain ⟨y0, y1, y2, y3, -⟩ := HC.out
    refine bodyPost_ret (v := .tuple #[.agg #[.int .i64 0, .int .i64 0, .int .i64 0, .int .i64 0], .int .i64 V]) ?_ rfl ⟨by rw [show Y = Num.zero from by rw [HR.out, if_neg HV.out]]; rfl, HBL.out⟩
    simp [results, Try.results15, go_sem, y0, y1, y2, y3]
end Go.Proofs.Ytcndeegfkgfnkaa
/- sum of the code. -/
namespace Go.Proofs.Ytcndeegfkgfnkaa
open Go.RowKit
/-- The sum of the first k numbers. -/
def sumF (F : Nat → Num) : Nat → Num
  | 0 => Num.zero
  | k + 1 => (sumF F k).add (F k)
theorem sumF_within {F : Nat → Num} {M : Int} : ∀ {k : Nat}, (∀ j, j < k → (F j).Within M) → (sumF F k).Within (k * M)
  | 0, _ => by
    have e : ((0 : Nat) : Int) * M = 0 := by simp
    rw [e]
    show Num.zero.Within 0
    exact ⟨⟨by decide, by decide⟩, ⟨by decide, by decide⟩, ⟨by decide, by decide⟩, ⟨by decide, by decide⟩⟩
  | k + 1, h => by
    have e : ((k + 1 : Nat) : Int) * M = (k : Int) * M + M := by rw [Int.natCast_add, Int.add_mul]; simp
    rw [e]
    exact (sumF_within fun j hj => h j (by omega)).add (h k (by omega))
set_option maxHeartbeats 4000000 in
theorem sum_any (A : Option Addr) (n c : Nat) (F : Nat → Num) (M : Int) (w : World) (hn : n ≤ 100000) (hI : NumsAt w 0 A n F) (hM : ∀ k, k ≤ n → (sumF F k).Within M) (hM9 : M ≤ 9223372036854775807) :
    Calls Try.prog 29 #[.slice A n c] w fun e w' => e = .returned (.agg #[.int .i64 (sumF F n).a, .int .i64 (sumF F n).b, .int .i64 (sumF F n).c, .int .i64 (sumF F n).d]) ∧ Below w.heap.size w w' := by
  have HI := hide hI
  have HM := hide hM
  clear hI hM
  go_enter Try.func29, Try.ntmps29
  go_wp2_with fail
  go_loopw [8] (fun i wr => ∃ k : Nat, k ≤ n ∧ i = .int .i64 (k : Int) ∧ Box wr w.heap.size 46 #[.int .i64 0, .int .i64 0, .int .i64 0, .int .i64 0] ∧ Box wr (w.heap.size + 1) 46 #[.int .i64 (sumF F k).a, .int .i64 (sumF F k).b, .int .i64 (sumF F k).c, .int .i64 (sumF F k).d] ∧ Below w.heap.size w wr) (fun i _ => n - (Go.RowKit.intOf i).toNat)
  case atStart => exact ⟨0, Nat.zero_le _, rfl, (Box.made rfl).alloc _, Box.made (by simp), by (repeat (first | (with_reducible exact Below.refl _ _) | (with_reducible refine Go.below_drewN ?_ _) | (with_reducible refine Below.drew ?_) | (with_reducible refine Below.alloc ?_ (by first | exact Nat.le_refl _ | (simp; done) | (simp; omega) | omega) _) | (with_reducible refine Below.setCell ?_ (by first | exact Nat.le_refl _ | (simp; done) | (simp; omega) | omega) _)))⟩
  case round =>
    obtain ⟨k, hk, rfl, bz, bs, hB⟩ := hrel
    obtain ⟨wA, rfl⟩ : ∃ x : World, x = wr := ⟨_, rfl⟩
    have hBs := hB.size
    by_cases hlt : k < n
    · have hltz : (k : Int) < (n : Int) := by omega
      obtain ⟨b, o, rfl, -, hb, c0, c1, c2, c3⟩ := (HI.out.below hB) k hlt
      have hw := HM.out (k + 1) hlt
      have HS := hide (show sumF F (k + 1) = (sumF F k).add (F k) from rfl)
      rw [HS.out] at hw
      generalize sumF F k = s at *
      generalize F k = x at *
      have q1 : IntKind.i64.wrap (s.a + x.a) = s.a + x.a := IntWalk.i64_in _ (by have : -M ≤ s.a + x.a ∧ s.a + x.a ≤ M := hw.a; omega)
      have q2 : IntKind.i64.wrap (s.b + x.b) = s.b + x.b := IntWalk.i64_in _ (by have : -M ≤ s.b + x.b ∧ s.b + x.b ≤ M := hw.b; omega)
      have q3 : IntKind.i64.wrap (s.c + x.c) = s.c + x.c := IntWalk.i64_in _ (by have : -M ≤ s.c + x.c ∧ s.c + x.c ≤ M := hw.c; omega)
      have q4 : IntKind.i64.wrap (s.d + x.d) = s.d + x.d := IntWalk.i64_in _ (by have : -M ≤ s.d + x.d ∧ s.d + x.d ≤ M := hw.d; omega)
      clear hw
      go_upto_region 5 with fail
      obtain ⟨W1, hW1⟩ : ∃ y : World, y = wA.alloc (.cells #[.int .i64 x.a, .int .i64 x.b, .int .i64 x.c, .int .i64 x.d] 46) := ⟨_, rfl⟩
      rw [← hW1]
      have bx1 : Box W1 wA.heap.size 46 #[.int .i64 x.a, .int .i64 x.b, .int .i64 x.c, .int .i64 x.d] := by rw [hW1]; exact Box.made rfl
      have bs1 := bs.alloc (.cells #[.int .i64 x.a, .int .i64 x.b, .int .i64 x.c, .int .i64 x.d] 46)
      have bz1 := bz.alloc (.cells #[.int .i64 x.a, .int .i64 x.b, .int .i64 x.c, .int .i64 x.d] 46)
      have hB1 := hB.alloc hBs (.cells #[.int .i64 x.a, .int .i64 x.b, .int .i64 x.c, .int .i64 x.d] 46)
      rw [← hW1] at bs1 bz1 hB1
      have hls := bs.lt
      clear hW1 bs bz hB hb c0 c1 c2 c3
      obtain ⟨z0, z1, z2, z3, f0, f1, f2, f3, hl⟩ := bs1.cells4
      obtain ⟨y0, y1, y2, y3, g0, g1, g2, g3, hl'⟩ := bx1.cells4
      have HBS := hide (bs1.put4 (.int .i64 (s.a + x.a)) (.int .i64 (s.b + x.b)) (.int .i64 (s.c + x.c)) (.int .i64 (s.d + x.d)))
      have HBZ := hide (bz1.other4 (c := w.heap.size + 1) (by omega) (.int .i64 (s.a + x.a)) (.int .i64 (s.b + x.b)) (.int .i64 (s.c + x.c)) (.int .i64 (s.d + x.d)))
      have HBL := hide (Below.put4 hB1 (Nat.le_succ _) (.int .i64 (s.a + x.a)) (.int .i64 (s.b + x.b)) (.int .i64 (s.c + x.c)) (.int .i64 (s.d + x.d)))
      clear bs1 bz1 bx1 hB1
      go_wp2_with fail
      go_roundw
      case rel => exact ⟨k + 1, by omega, by go_num, HBZ.out, by rw [HS.out]; exact HBS.out, HBL.out⟩
      case measure => simp [Go.RowKit.intOf]; omega
    · obtain rfl : k = n := by omega
      obtain ⟨s, hs⟩ : ∃ s, sumF F k = s := ⟨_, rfl⟩
      rw [hs] at bs
      have HYS := hide hs
      clear hs
      obtain ⟨z0, z1, z2, z3, f0, f1, f2, f3, hl⟩ := bs.cells4
      obtain ⟨y0, y1, y2, y3, g0, g1, g2, g3, hl'⟩ := bz.cells4
      have HCE := hide (bz.put4 (.int .i64 s.a) (.int .i64 s.b) (.int .i64 s.c) (.int .i64 s.d)).cells4
      have HBL := hide (Below.put4 hB (Nat.le_refl _) (.int .i64 s.a) (.int .i64 s.b) (.int .i64 s.c) (.int .i64 s.d))
      clear bz bs hB
      go_wp2_with fail
      clear y0 y1 y2 y3
      obtain ⟨y0, y1, y2, y3, -⟩ := HCE.out
      refine bodyPost_ret (v := .agg #[.int .i64 s.a, .int .i64 s.b, .int .i64 s.c, .int .i64 s.d]) ?_ rfl ⟨by rw [HYS.out], HBL.out⟩
      simp [results, Try.results29, go_sem, y0, y1, y2, y3]
end Go.Proofs.Ytcndeegfkgfnkaa
/- OffsetOf without a walk: its errors, products, sums, and the best of them. -/
namespace Go.Proofs.Ytcndeegfkgfnkaa
open Go.RowKit
def offE (n m : Nat) (F G : Nat → Num) : Int := firstE [unI (decide (0 < n) && ((m : Int) == (n : Int))) 10, unI (decide ((n : Int) ≤ 16)) 8, numsE 100 F n, numsE 100 G m]
def offP (F G : Nat → Num) (i : Nat) : Num := (F i).conj.prod (G i)
def offS (P : Nat → Num) (n f : Nat) : Num := sumF (fun i => (P i).turns ((-(f : Int) * (i : Int)) % 8).toNat) n
/-- The best offset of the first f ones, and its square. -/
def offB (P : Nat → Num) (n : Nat) : Nat → Int × Int × Int
  | 0 => (0, 0, 0)
  | f + 1 => if 0 < compI ((offS P n f).sqP - (offB P n f).2.1) ((offB P n f).2.2 - (offS P n f).sqQ) then ((f : Int), (offS P n f).sqP, (offS P n f).sqQ) else offB P n f
/-- What OffsetOf hands back. -/
def offR (n m : Nat) (F G : Nat → Num) : Int := if offE n m F G = 0 then (offB (offP F G) n 8).1 else 0
theorem badE_zero {g : Nat → Int} : ∀ {n : Nat}, badE g n = 0 → ∀ i, i < n → g i = 0
  | 0, _, i, hi => absurd hi (Nat.not_lt_zero i)
  | n + 1, h, i, hi => by
    unfold badE at h
    by_cases h0 : badE g n = 0
    · rw [if_pos h0] at h
      rcases Nat.lt_or_ge i n with h1 | h1
      · exact badE_zero h0 i h1
      · obtain rfl : i = n := by omega
        exact h
    · rw [if_neg h0] at h; exact absurd h h0
theorem numsE_zero {M : Int} {F : Nat → Num} {n : Nat} (h : numsE M F n = 0) : ∀ i, i < n → (F i).Within M := fun i hi => err_within (badE_zero h i hi)
theorem firstE_nil {a : Int} {r : List Int} (h : firstE (a :: r) = 0) : a = 0 ∧ firstE r = 0 := by
  rw [firstE] at h
  by_cases ha : a = 0
  · rw [if_pos ha] at h; exact ⟨ha, h⟩
  · rw [if_neg ha] at h; exact absurd h ha
theorem unI_zero {b : Bool} {e : Int} (he : e ≠ 0) (h : unI b e = 0) : b = true := by
  unfold unI at h
  cases b
  · exact absurd h (by simpa using he)
  · rfl
theorem offE_zero {n m : Nat} {F G : Nat → Num} (h : offE n m F G = 0) : 0 < n ∧ m = n ∧ n ≤ 16 ∧ (∀ i, i < n → (F i).Within 100) ∧ ∀ i, i < n → (G i).Within 100 := by
  unfold offE at h
  obtain ⟨h1, h⟩ := firstE_nil h
  obtain ⟨h2, h⟩ := firstE_nil h
  obtain ⟨h3, h⟩ := firstE_nil h
  obtain ⟨h4, -⟩ := firstE_nil h
  have k1 := unI_zero (by decide) h1
  have k2 := unI_zero (by decide) h2
  simp at k1 k2
  obtain ⟨k0, k1⟩ := k1
  have e : m = n := by omega
  subst e
  exact ⟨k0, rfl, by omega, numsE_zero h3, numsE_zero h4⟩
theorem Num.Within.conj {M : Int} {x : Num} (h : x.Within M) : x.conj.Within M :=
  ⟨h.a, by have := h.d; show -M ≤ -x.d ∧ -x.d ≤ M; omega, by have := h.c; show -M ≤ -x.c ∧ -x.c ≤ M; omega, by have := h.b; show -M ≤ -x.b ∧ -x.b ≤ M; omega⟩
theorem offP_within {F G : Nat → Num} {i : Nat} (h : (F i).Within 100) (k : (G i).Within 100) : (offP F G i).Within 40000 := by
  have := Num.Within.prodTo h.conj k 4
  exact this.more (by decide)
theorem sums_within {P : Nat → Num} {n : Nat} (hn : n ≤ 16) (h : ∀ i, i < n → (P i).Within 40000) (f : Int) : ∀ k, k ≤ n → (sumF (fun i => (P i).turns ((f * (i : Int)) % 8).toNat) k).Within 640000 := fun k hk =>
  (sumF_within (M := 40000) fun j hj => (h j (by omega)).turns _).more (by omega)
theorem offS_within {P : Nat → Num} {n : Nat} (hn : n ≤ 16) (h : ∀ i, i < n → (P i).Within 40000) (f : Nat) : (offS P n f).Within 640000 := sums_within hn h (-(f : Int)) n (Nat.le_refl n)
theorem Num.Within.squares {x : Num} (h : x.Within 640000) : (-2000000000000 ≤ x.sqP ∧ x.sqP ≤ 2000000000000) ∧ -2000000000000 ≤ x.sqQ ∧ x.sqQ ≤ 2000000000000 := by
  obtain ⟨ha, hb, hc, hd⟩ := h
  have m1 := mul_within ha ha
  have m2 := mul_within hb hb
  have m3 := mul_within hc hc
  have m4 := mul_within hd hd
  have m5 := mul_within ha hb
  have m6 := mul_within hb hc
  have m7 := mul_within hc hd
  have m8 := mul_within ha hd
  unfold Num.sqP Num.sqQ
  omega
theorem offB_within {P : Nat → Num} {n : Nat} (hn : n ≤ 16) (h : ∀ i, i < n → (P i).Within 40000) : ∀ f, (-2000000000000 ≤ (offB P n f).2.1 ∧ (offB P n f).2.1 ≤ 2000000000000) ∧ -2000000000000 ≤ (offB P n f).2.2 ∧ (offB P n f).2.2 ≤ 2000000000000
  | 0 => by
    show (-2000000000000 ≤ (0 : Int) ∧ (0 : Int) ≤ 2000000000000) ∧ -2000000000000 ≤ (0 : Int) ∧ (0 : Int) ≤ 2000000000000
    exact ⟨⟨by decide, by decide⟩, by decide, by decide⟩
  | f + 1 => by
    unfold offB
    split
    · exact (offS_within hn h f).squares
    · exact offB_within hn h f
theorem OwnNums.form {w : World} {base n : Nat} {v : Value} {F : Nat → Num} (h : OwnNums w base v n F) : ∃ A c, v = .slice A n c ∧ n ≤ c ∧ NumsAt w base A n F := by
  have h' := h
  rcases h.2 with ⟨rfl, hx⟩ | ⟨g, cap, cur, rfl, hb, hg, hnc, hm, hsz, htake⟩
  · subst hx
    exact ⟨_, _, rfl, Nat.le_refl _, NumsAt.nil_⟩
  · exact ⟨_, _, rfl, hnc, OwnNums.nums (c := cap) h'⟩
theorem cells8_below {W W' : World} {p0 p1 p2 p3 p4 p5 p6 p7 : Addr} {v0 v1 v2 v3 v4 v5 v6 v7 : Value} (hb : Below W.heap.size W W') (h : W.cell? p0 = some v0 ∧ W.cell? p1 = some v1 ∧ W.cell? p2 = some v2 ∧ W.cell? p3 = some v3 ∧ W.cell? p4 = some v4 ∧ W.cell? p5 = some v5 ∧ W.cell? p6 = some v6 ∧ W.cell? p7 = some v7) :
    W'.cell? p0 = some v0 ∧ W'.cell? p1 = some v1 ∧ W'.cell? p2 = some v2 ∧ W'.cell? p3 = some v3 ∧ W'.cell? p4 = some v4 ∧ W'.cell? p5 = some v5 ∧ W'.cell? p6 = some v6 ∧ W'.cell? p7 = some v7 := by
  obtain ⟨h0, h1, h2, h3, h4, h5, h6, h7⟩ := h
  have f := fun (p : Addr) (v : Value) (h : W.cell? p = some v) => (hb.cell (World.block_lt_of_cell? W p h)).trans h
  exact ⟨f _ _ h0, f _ _ h1, f _ _ h2, f _ _ h3, f _ _ h4, f _ _ h5, f _ _ h6, f _ _ h7⟩
end Go.Proofs.Ytcndeegfkgfnkaa
