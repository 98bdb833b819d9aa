/- Lemmas: E27. -/
import Derived.Test.YtejhakkfgfahaaaBz10
import Derived.Test.YtejhakkfgfahaaaBz11
set_option linter.unusedVariables false
set_option linter.unusedSimpArgs false
/- turn, plus and ResponseOf of the reference. -/
namespace Go.Proofs.Ytejhakkfgfahaaa
open Go.RowKit Go.Great
set_option maxHeartbeats 2000000 in
theorem turn_any (x : Num) (n : Int) (w : World) (hx : x.Within 4611686018427387904) :
    Calls Try.prog 58 #[.agg #[.int .i64 x.a, .int .i64 x.b, .int .i64 x.c, .int .i64 x.d], .int .i64 n] w fun e w' => e = .returned (.agg #[.int .i64 (x.turns (n % 8).toNat).a, .int .i64 (x.turns (n % 8).toNat).b, .int .i64 (x.turns (n % 8).toNat).c, .int .i64 (x.turns (n % 8).toNat).d]) ∧ Below w.heap.size w w' := by
  have HX := hide hx
  clear hx
  obtain ⟨k, hk⟩ : ∃ k, k = (n % 8).toNat := ⟨_, rfl⟩
  have hkz : n % 8 = (k : Int) := by have := Int.emod_nonneg n (show (8 : Int) ≠ 0 by decide); omega
  have hk8 : k < 8 := by have := Int.emod_lt_of_pos n (show (0 : Int) < 8 by decide); omega
  rw [← hk]
  have HM := hide (fun W => mod8 n W)
  rw [hkz] at HM
  clear hk hkz
  go_enter Try.func58, Try.ntmps58
  go_wp2_with fail
  go_loopw [5] (fun i wr => ∃ j : Nat, j ≤ k ∧ i = .int .i64 (j : Int) ∧ Box wr w.heap.size 41 #[.int .i64 (x.turns j).a, .int .i64 (x.turns j).b, .int .i64 (x.turns j).c, .int .i64 (x.turns j).d] ∧ Box wr (w.heap.size + 1) 41 #[.int .i64 0, .int .i64 0, .int .i64 0, .int .i64 0] ∧ Below w.heap.size w wr) (fun i _ => k - (Go.RowKit.intOf i).toNat)
  case atStart => exact ⟨0, Nat.zero_le _, rfl, (Box.made rfl).alloc _, Box.made (by simp), by (repeat (first | (with_reducible exact Below.refl _ _) | (with_reducible refine Go.below_drewN ?_ _) | (with_reducible refine Below.drew ?_) | (with_reducible refine Below.alloc ?_ (by first | exact Nat.le_refl _ | (simp; done) | (simp; omega) | omega) _) | (with_reducible refine Below.setCell ?_ (by first | exact Nat.le_refl _ | (simp; done) | (simp; omega) | omega) _)))⟩
  case round =>
    obtain ⟨j, hj, rfl, bx, by', hB⟩ := hrel
    have hy := HX.out.turns j
    have HT := hide (show x.turns (j + 1) = (x.turns j).turn from rfl)
    obtain ⟨y, hyx⟩ : ∃ y, x.turns j = y := ⟨_, rfl⟩
    rw [hyx] at bx hy HT
    have HYX := hide hyx
    clear hyx
    obtain ⟨h1, h2, h3, h4⟩ := hy
    obtain ⟨z0, z1, z2, z3, f0, f1, f2, f3, hl⟩ := bx.cells4
    by_cases hlt : j < k
    · have hltz : (j : Int) < (k : Int) := by omega
      have q1 : IntKind.i64.wrap (-y.d) = -y.d := IntWalk.i64_in _ (by omega)
      have HBX := hide (bx.put4 (.int .i64 (-y.d)) (.int .i64 y.a) (.int .i64 y.b) (.int .i64 y.c))
      have HBY := hide (by'.other4 (c := w.heap.size) (by omega) (.int .i64 (-y.d)) (.int .i64 y.a) (.int .i64 y.b) (.int .i64 y.c))
      have HBL := hide (Below.put4 hB (Nat.le_refl _) (.int .i64 (-y.d)) (.int .i64 y.a) (.int .i64 y.b) (.int .i64 y.c))
      clear bx by' hB h1 h2 h3 h4
      go_wp2_with (go_at_call 53; refine (HM.out _).mono ?_; rintro e w' ⟨rfl, rfl⟩)
      go_roundw
      case rel => exact ⟨j + 1, by omega, by go_num, by rw [HT.out]; exact HBX.out, HBY.out, HBL.out⟩
      case measure => simp [Go.RowKit.intOf]; omega
    · obtain rfl : j = k := by omega
      obtain ⟨y0, y1, y2, y3, g0, g1, g2, g3, hl'⟩ := by'.cells4
      have HBY := hide (by'.put4 (.int .i64 y.a) (.int .i64 y.b) (.int .i64 y.c) (.int .i64 y.d))
      have HBL := hide (Below.put4 hB (Nat.le_succ _) (.int .i64 y.a) (.int .i64 y.b) (.int .i64 y.c) (.int .i64 y.d))
      clear bx by' hB h1 h2 h3 h4
      go_wp2_with (go_at_call 53; refine (HM.out _).mono ?_; rintro e w' ⟨rfl, rfl⟩)
      refine bodyPost_ret (v := .agg #[.int .i64 y.a, .int .i64 y.b, .int .i64 y.c, .int .i64 y.d]) ?_ rfl ⟨by rw [HYX.out], HBL.out⟩
      obtain ⟨y0, y1, y2, y3, -⟩ := HBY.out.cells4
      simp [results, Try.results58, go_sem, y0, y1, y2, y3]

set_option maxHeartbeats 2000000 in
set_option maxRecDepth 100000 in
theorem plus_any (x y : Num) (M : Int) (w : World) (hx : (x.add y).Within M) (hM : M ≤ 9223372036854775807) :
    Calls Try.prog 57 #[.agg #[.int .i64 x.a, .int .i64 x.b, .int .i64 x.c, .int .i64 x.d], .agg #[.int .i64 y.a, .int .i64 y.b, .int .i64 y.c, .int .i64 y.d]] w fun e w' => e = .returned (.agg #[.int .i64 (x.add y).a, .int .i64 (x.add y).b, .int .i64 (x.add y).c, .int .i64 (x.add y).d]) ∧ Below w.heap.size w w' := by
  obtain ⟨h1, h2, h3, h4⟩ := hx
  have q1 : IntKind.i64.wrap (x.a + y.a) = x.a + y.a := IntWalk.i64_in _ (by have : -M ≤ x.a + y.a ∧ x.a + y.a ≤ M := h1; omega)
  have q2 : IntKind.i64.wrap (x.b + y.b) = x.b + y.b := IntWalk.i64_in _ (by have : -M ≤ x.b + y.b ∧ x.b + y.b ≤ M := h2; omega)
  have q3 : IntKind.i64.wrap (x.c + y.c) = x.c + y.c := IntWalk.i64_in _ (by have : -M ≤ x.c + y.c ∧ x.c + y.c ≤ M := h3; omega)
  have q4 : IntKind.i64.wrap (x.d + y.d) = x.d + y.d := IntWalk.i64_in _ (by have : -M ≤ x.d + y.d ∧ x.d + y.d ≤ M := h4; omega)
  clear h1 h2 h3 h4 hM
  go_enter Try.func57, Try.ntmps57
  go_wp2_with fail
  have hb : Box (((w.alloc (.cells #[.int .i64 x.a, .int .i64 x.b, .int .i64 x.c, .int .i64 x.d] 41)).alloc (.cells #[.int .i64 y.a, .int .i64 y.b, .int .i64 y.c, .int .i64 y.d] 41)).alloc (.cells #[.int .i64 (x.a + y.a), .int .i64 (x.b + y.b), .int .i64 (x.c + y.c), .int .i64 (x.d + y.d)] 41)) (w.heap.size + 1 + 1) 41 #[.int .i64 (x.a + y.a), .int .i64 (x.b + y.b), .int .i64 (x.c + y.c), .int .i64 (x.d + y.d)] := Box.made (by simp)
  obtain ⟨y0, y1, y2, y3, -⟩ := hb.cells4
  refine bodyPost_ret (v := .agg #[.int .i64 (x.a + y.a), .int .i64 (x.b + y.b), .int .i64 (x.c + y.c), .int .i64 (x.d + y.d)]) ?_ rfl ⟨rfl, by (repeat (first | (with_reducible exact Below.refl _ _) | (with_reducible refine Go.below_drewN ?_ _) | (with_reducible refine Below.drew ?_) | (with_reducible refine Below.alloc ?_ (by first | exact Nat.le_refl _ | (simp; done) | (simp; omega) | omega) _) | (with_reducible refine Below.setCell ?_ (by first | exact Nat.le_refl _ | (simp; done) | (simp; omega) | omega) _)))⟩
  simp [results, Try.results57, go_sem, y0, y1, y2, y3]

def oneN : Num := ⟨1, 0, 0, 0⟩
theorem oneN_within : oneN.Within 4611686018427387904 := ⟨by decide, by decide, by decide, by decide⟩
theorem rs_on {F : Nat → Int} {s k : Nat} (h : F k ≠ -1) (hF : -1 ≤ F k) : rsN F s (k + 1) = (rsN F s k).add (oneN.turns ((F k + ((k * s : Nat) : Int)) % 8).toNat) := by
  have e : ahF F s k = (F k + ((k * s : Nat) : Int)) % 8 := if_neg h
  show (if ahF F s k = -1 then rsN F s k else (rsN F s k).add ((gnum oneG).turns (ahF F s k).toNat)) = _
  rw [if_neg (by rw [e]; omega), e]
  rfl
theorem rs_off {F : Nat → Int} {s k : Nat} (h : F k = -1) : rsN F s (k + 1) = rsN F s k := by
  have e : ahF F s k = -1 := if_pos h
  show (if ahF F s k = -1 then rsN F s k else _) = _
  rw [if_pos e]
set_option maxHeartbeats 8000000 in
set_option maxRecDepth 100000 in
theorem ResponseOf_ref (A : Option Addr) (n c : Nat) (F : Nat → Int) (s : Nat) (w : World) (hn : n ≤ 100) (hs : s ≤ 7) (hI : IntsAt w 0 A n F) (hF : ∀ j, j < n → -1 ≤ F j ∧ F j ≤ 7) :
    Calls Try.prog 26 #[.agg #[.slice A n c], .int .i64 (s : Int)] w fun e w' => e = .returned (.agg #[.int .i64 (rsN F s n).a, .int .i64 (rsN F s n).b, .int .i64 (rsN F s n).c, .int .i64 (rsN F s n).d]) ∧ Below w.heap.size w w' := by
  have HI := hide hI
  have HFF := hide hF
  have HRW := hide (fun k => rsN_within F s k)
  have HON := hide (fun k => rs_on (F := F) (s := s) (k := k))
  have HOF := hide (fun k => rs_off (F := F) (s := s) (k := k))
  have H0 := hide (show rsN F s 0 = Num.zero from rfl)
  obtain ⟨T, hT⟩ : ∃ z, rsN F s = z := ⟨_, rfl⟩
  simp only [hT] at HRW HON HOF H0 ⊢
  clear hI hF hT
  go_enter Try.func26, Try.ntmps26
  go_wp2_with fail
  go_loopw [6] (fun i wr => ∃ k : Nat, k ≤ n ∧ i = .int .i64 (k : Int) ∧ Hid (Box wr w.heap.size 24 #[.slice A n c]) ∧ Hid (Box wr (w.heap.size + 1) 41 #[.int .i64 0, .int .i64 0, .int .i64 0, .int .i64 0]) ∧ Hid (Box wr (w.heap.size + 1 + 1) 41 #[.int .i64 (T k).a, .int .i64 (T k).b, .int .i64 (T k).c, .int .i64 (T k).d]) ∧ Hid (Below w.heap.size w wr)) (fun i _ => n - (Go.RowKit.intOf i).toNat)
  case atStart => exact ⟨0, Nat.zero_le _, rfl, hide (((Box.made rfl).alloc _).alloc _), hide ((Box.made (by simp)).alloc _), hide (by rw [H0.out]; exact Box.made (by simp)), hide (by (repeat (first | (with_reducible exact Below.refl _ _) | (with_reducible refine Go.below_drewN ?_ _) | (with_reducible refine Below.drew ?_) | (with_reducible refine Below.alloc ?_ (by first | exact Nat.le_refl _ | (simp; done) | (simp; omega) | omega) _) | (with_reducible refine Below.setCell ?_ (by first | exact Nat.le_refl _ | (simp; done) | (simp; omega) | omega) _))))⟩
  case round =>
    obtain ⟨k, hk, rfl, HX0, HX1, HX2, HB⟩ := hrel
    obtain ⟨wA, rfl⟩ : ∃ x : World, x = wr := ⟨_, rfl⟩
    by_cases hlt : k < n
    case pos =>
      have hltz : (k : Int) < (n : Int) := by omega
      obtain ⟨b, o, rfl, -, hbw, -⟩ := HI.out k hlt
      have HFK := hide (fun W (h : IntsAt W 0 (some ⟨b, o, none⟩) n F) => h.cell hlt)
      have hff := HFF.out k hlt
      have hon := HON.out k
      have hof := HOF.out k
      have hrw := HRW.out (k + 1)
      obtain ⟨f, hf⟩ : ∃ z, F k = z := ⟨_, rfl⟩
      simp only [hf] at HFK hff hon hof
      clear hf
      obtain ⟨x, hx⟩ : ∃ z, T k = z := ⟨_, rfl⟩
      simp only [hx] at HX2 hon hof
      clear hx
      obtain ⟨x0, -, hlx⟩ := HX0.out.c1
      have hc := HFK.out _ (HI.out.below HB.out)
      by_cases hoff : f = -1
      case pos =>
        have t1 : (f != -1) = false := by simpa using hoff
        have HV := hide (hof hoff)
        clear hof hon hrw hff hoff
        go_wp2_with fail
        go_roundw
        case rel => exact ⟨k + 1, by omega, by go_num, HX0, HX1, hide (by rw [HV.out]; exact HX2.out), HB⟩
        case measure => simp [Go.RowKit.intOf]; omega
      have t1 : (f != -1) = true := by simpa using hoff
      have hv := hon hoff hff.1
      clear hof hon
      obtain ⟨m, hm⟩ : ∃ m : Nat, k * s = m := ⟨_, rfl⟩
      have hmz : (k : Int) * (s : Int) = (m : Int) := by rw [← hm]; exact (Int.natCast_mul k s).symm
      have hm9 : m ≤ 700 := by rw [← hm]; exact Nat.le_trans (Nat.mul_le_mul (show k ≤ 100 by omega) hs) (by decide)
      have q1 : IntKind.i64.wrap ((k : Int) * (s : Int)) = (m : Int) := by rw [hmz]; exact IntWalk.i64_in _ (by omega)
      obtain ⟨v, hvv⟩ : ∃ v : Int, f + (m : Int) = v := ⟨_, rfl⟩
      have q2 : IntKind.i64.wrap (f + (m : Int)) = v := by rw [IntWalk.i64_in _ (by omega)]; exact hvv
      rw [hm, hvv] at hv
      have HTU := hide (fun W => (show Calls Try.prog 58 #[.agg #[.int .i64 1, .int .i64 0, .int .i64 0, .int .i64 0], .int .i64 v] W fun e w' => e = .returned (.agg #[.int .i64 (oneN.turns (v % 8).toNat).a, .int .i64 (oneN.turns (v % 8).toNat).b, .int .i64 (oneN.turns (v % 8).toNat).c, .int .i64 (oneN.turns (v % 8).toNat).d]) ∧ Below W.heap.size W w' from turn_any oneN v W oneN_within))
      obtain ⟨y, hy⟩ : ∃ z, oneN.turns (v % 8).toNat = z := ⟨_, rfl⟩
      simp only [hy] at HTU hv
      clear hy
      have hzw : (x.add y).Within ((k + 1 : Nat) : Int) := by rw [← hv]; exact hrw
      have HPL := hide (fun W => plus_any x y ((k + 1 : Nat) : Int) W hzw (by omega))
      obtain ⟨z, hz⟩ : ∃ q, x.add y = q := ⟨_, rfl⟩
      simp only [hz] at HPL hv
      have HV := hide hv
      clear hz hzw hv hrw hm hmz hvv hff hoff
      obtain ⟨xa, hxa⟩ : ∃ q, x.a = q := ⟨_, rfl⟩
      obtain ⟨xb, hxb⟩ : ∃ q, x.b = q := ⟨_, rfl⟩
      obtain ⟨xc, hxc⟩ : ∃ q, x.c = q := ⟨_, rfl⟩
      obtain ⟨xd, hxd⟩ : ∃ q, x.d = q := ⟨_, rfl⟩
      obtain ⟨ya, hya⟩ : ∃ q, y.a = q := ⟨_, rfl⟩
      obtain ⟨yb, hyb⟩ : ∃ q, y.b = q := ⟨_, rfl⟩
      obtain ⟨yc, hyc⟩ : ∃ q, y.c = q := ⟨_, rfl⟩
      obtain ⟨yd, hyd⟩ : ∃ q, y.d = q := ⟨_, rfl⟩
      obtain ⟨za, hza⟩ : ∃ q, z.a = q := ⟨_, rfl⟩
      obtain ⟨zb, hzb⟩ : ∃ q, z.b = q := ⟨_, rfl⟩
      obtain ⟨zc, hzc⟩ : ∃ q, z.c = q := ⟨_, rfl⟩
      obtain ⟨zd, hzd⟩ : ∃ q, z.d = q := ⟨_, rfl⟩
      simp only [hxa, hxb, hxc, hxd] at HX2
      simp only [hya, hyb, hyc, hyd] at HTU
      simp only [hxa, hxb, hxc, hxd, hya, hyb, hyc, hyd, hza, hzb, hzc, hzd] at HPL
      have HZE := hide (show z.a = za ∧ z.b = zb ∧ z.c = zc ∧ z.d = zd from ⟨hza, hzb, hzc, hzd⟩)
      clear hxa hxb hxc hxd hya hyb hyc hyd hza hzb hzc hzd
      go_upto_region 6 with fail
      clear x0 hlx hc t1
      refine wp_region_held_drew (S := fun w' => w'.cell? ⟨w.heap.size, 0, none⟩ = some (.slice (some ⟨b, o, none⟩) n c) ∧ w'.cell? ⟨b, o + k, none⟩ = some (.int .i64 f)) (by kernel_rfl) ⟨HX0.out.c1.1, HFK.out _ (HI.out.below HB.out.drew)⟩ (fun hHeld => ?_)
      obtain ⟨w_1, hw_1⟩ : ∃ q : World, q = wA.drew := ⟨_, rfl⟩
      rw [← hw_1] at hHeld ⊢
      have hc_1 : Below wA.heap.size wA w_1 := by rw [hw_1]; exact (Below.refl _ _).drew
      clear hw_1
      replace HX0 := hide (HX0.out.below hc_1)
      replace HX1 := hide (HX1.out.below hc_1)
      replace HX2 := hide (HX2.out.below hc_1)
      replace HB := hide (HB.out.trans (hc_1.mono HB.out.size))
      clear hc_1
      refine wpAnyH_take (i := 1) (oi := ⟨some 21, _, _, _, _, _⟩) (v := ?_) rfl (by kernel_rfl) (by kernel_rfl) (by kernel_rfl) (fun _ _ _ h => h) (Or.inl ⟨by rfl, ?_⟩) (by assumption) ?_
      rotate_left
      · (intro w' hSw; (try dsimp only at hSw); go_simp <;> (with_reducible rfl))
      try simp only [Act.put, List.setIfInBounds_toArray, List.set_cons_zero, List.set_cons_succ]
      refine wpAnyH_take (i := 2) (oi := ⟨some 22, _, _, _, _, _⟩) (v := ?_) rfl (by kernel_rfl) (by kernel_rfl) (by kernel_rfl) (fun _ _ _ h => h) (Or.inl ⟨by rfl, ?_⟩) (by assumption) ?_
      rotate_left
      · (intro w' hSw; (try dsimp only at hSw); go_simp <;> (with_reducible rfl))
      try simp only [Act.put, List.setIfInBounds_toArray, List.set_cons_zero, List.set_cons_succ]
      refine wpAnyH_take (i := 3) (oi := ⟨some 23, _, _, _, _, _⟩) (v := ?_) rfl (by kernel_rfl) (by kernel_rfl) (by kernel_rfl) (fun _ _ _ h => h) (Or.inl ⟨by rfl, ?_⟩) (by assumption) ?_
      rotate_left
      · (intro w' hSw; (try dsimp only at hSw); go_simp <;> (with_reducible rfl))
      try simp only [Act.put, List.setIfInBounds_toArray, List.set_cons_zero, List.set_cons_succ]
      refine wpAnyH_take (i := 4) (oi := ⟨some 24, _, _, _, _, _⟩) (v := ?_) rfl (by kernel_rfl) (by kernel_rfl) (by kernel_rfl) (fun _ _ _ h => h) (Or.inl ⟨by rfl, ?_⟩) (by assumption) ?_
      rotate_left
      · (intro w' hSw; (try dsimp only at hSw); go_simp <;> (with_reducible rfl))
      try simp only [Act.put, List.setIfInBounds_toArray, List.set_cons_zero, List.set_cons_succ]
      refine wpAnyH_take (i := 5) (oi := ⟨some 25, _, _, _, _, _⟩) (v := ?_) rfl (by kernel_rfl) (by kernel_rfl) (by kernel_rfl) (fun _ _ _ h => h) (Or.inl ⟨by rfl, ?_⟩) (by assumption) ?_
      rotate_left
      · (intro w' hSw; (try dsimp only at hSw); go_simp <;> (with_reducible rfl))
      try simp only [Act.put, List.setIfInBounds_toArray, List.set_cons_zero, List.set_cons_succ]
      refine wpAnyH_take (i := 6) (oi := ⟨some 26, _, _, _, _, _⟩) (v := ?_) rfl (by kernel_rfl) (by kernel_rfl) (by kernel_rfl) (fun _ _ _ h => h) (Or.inl ⟨by rfl, ?_⟩) (by assumption) ?_
      rotate_left
      · (intro w' hSw; (try dsimp only at hSw); go_simp <;> (with_reducible rfl))
      try simp only [Act.put, List.setIfInBounds_toArray, List.set_cons_zero, List.set_cons_succ]
      refine wpAnyH_take (i := 7) (oi := ⟨some 27, _, _, _, _, _⟩) (v := ?_) rfl (by kernel_rfl) (by kernel_rfl) (by kernel_rfl) (fun _ _ _ h => h) (Or.inl ⟨by rfl, ?_⟩) (by assumption) ?_
      rotate_left
      · (intro w' hSw; (try dsimp only at hSw); go_simp <;> (with_reducible rfl))
      try simp only [Act.put, List.setIfInBounds_toArray, List.set_cons_zero, List.set_cons_succ]
      refine wpAnyH_take (i := 8) (oi := ⟨some 28, _, _, _, _, _⟩) (v := ?_) rfl (by kernel_rfl) (by kernel_rfl) (by kernel_rfl) (fun _ _ _ h => h) (Or.inl ⟨by rfl, ?_⟩) (by assumption) ?_
      rotate_left
      · (intro w' hSw; (try dsimp only at hSw); go_simp <;> (with_reducible rfl))
      try simp only [Act.put, List.setIfInBounds_toArray, List.set_cons_zero, List.set_cons_succ]
      refine wpAnyH_take (i := 9) (oi := ⟨some 29, _, _, _, _, _⟩) (v := ?_) rfl (by kernel_rfl) (by kernel_rfl) (by kernel_rfl) (fun _ _ _ h => h) (Or.inl ⟨by rfl, ?_⟩) (by assumption) ?_
      rotate_left
      · (intro w' hSw; (try dsimp only at hSw); go_simp <;> (with_reducible rfl))
      try simp only [Act.put, List.setIfInBounds_toArray, List.set_cons_zero, List.set_cons_succ]
      refine wpAnyH_take (i := 10) (oi := ⟨some 30, _, _, _, _, _⟩) (v := ?_) rfl (by kernel_rfl) (by kernel_rfl) (by kernel_rfl) (fun _ _ _ h => h) (Or.inl ⟨by rfl, ?_⟩) (by assumption) ?_
      rotate_left
      · (intro w' hSw; (try dsimp only at hSw); go_simp <;> (with_reducible rfl))
      try simp only [Act.put, List.setIfInBounds_toArray, List.set_cons_zero, List.set_cons_succ]
      refine wpAnyH_ready (rs := [0, 11]) (by kernel_rfl) (by simp) ?_
      refine AllReadyH.cons (o := ⟨some 20, _, _, _, _, _⟩) rfl (fun K' hK => ?_) (AllReadyH.cons (o := ⟨some 31, _, _, _, _, _⟩) rfl (fun K' hK => ?_) AllReadyH.nil)
      · skip
        obtain ⟨y0, y1, y2, y3, f0, f1, f2, f3, hly⟩ := HX2.out.cells4
        go_simp
        clear y0 y1 y2 y3 f0 f1 f2 f3 hly
        refine hK.out _ _ ⟨HX0.out.c1.1, HFK.out _ (HI.out.below HB.out)⟩ (fun hHeld => ?_)
        clear hK K'
        try simp only [Act.put, List.setIfInBounds_toArray, List.set_cons_zero, List.set_cons_succ]
        refine wpAnyH_ready (rs := [11]) (by kernel_rfl) (by simp) ?_
        refine AllReadyH.cons (o := ⟨some 31, _, _, _, _, _⟩) rfl (fun K' hK => ?_) AllReadyH.nil
        go_simp
        go_at_call 58
        refine (HTU.out _).mono ?_
        rintro e_ w_2 ⟨rfl, hb_2⟩
        replace HX0 := hide (HX0.out.below hb_2)
        replace HX1 := hide (HX1.out.below hb_2)
        replace HX2 := hide (HX2.out.below hb_2)
        replace HB := hide (HB.out.trans (hb_2.mono HB.out.size))
        clear hb_2
        go_wp2_with fail
        refine hK.out _ _ ⟨HX0.out.c1.1, HFK.out _ (HI.out.below HB.out)⟩ (fun hHeld => ?_)
        clear hK K'
        try simp only [Act.put, List.setIfInBounds_toArray, List.set_cons_zero, List.set_cons_succ]
        refine wpAnyH_ready (rs := [12]) (by kernel_rfl) (by simp) ?_
        refine AllReadyH.cons (o := ⟨some 32, _, _, _, _, _⟩) rfl (fun K' hK => ?_) AllReadyH.nil
        go_simp
        go_at_call 57
        refine (HPL.out _).mono ?_
        rintro e_ w_3 ⟨rfl, hb_3⟩
        replace HX0 := hide (HX0.out.below hb_3)
        replace HX1 := hide (HX1.out.below hb_3)
        replace HX2 := hide (HX2.out.below hb_3)
        replace HB := hide (HB.out.trans (hb_3.mono HB.out.size))
        clear hb_3
        go_wp2_with fail
        refine hK.out _ _ ⟨HX0.out.c1.1, HFK.out _ (HI.out.below HB.out)⟩ (fun hHeld => ?_)
        clear hK K'
        try simp only [Act.put, List.setIfInBounds_toArray, List.set_cons_zero, List.set_cons_succ]
        refine wpAnyH_ready (rs := [13]) (by kernel_rfl) (by simp) ?_
        refine AllReadyH.cons (o := ⟨none, _, _, _, _, _⟩) rfl (fun K' hK => ?_) AllReadyH.nil
        obtain ⟨y0, y1, y2, y3, f0, f1, f2, f3, hly⟩ := HX2.out.cells4
        go_simp
        clear y0 y1 y2 y3 f0 f1 f2 f3 hly
        replace HX0 := hide (HX0.out.other4 (c := w.heap.size + 1 + 1) (by omega) (.int .i64 za) (.int .i64 zb) (.int .i64 zc) (.int .i64 zd))
        replace HX1 := hide (HX1.out.other4 (c := w.heap.size + 1 + 1) (by omega) (.int .i64 za) (.int .i64 zb) (.int .i64 zc) (.int .i64 zd))
        replace HX2 := hide (HX2.out.put4 (.int .i64 za) (.int .i64 zb) (.int .i64 zc) (.int .i64 zd))
        replace HB := hide (Below.put4 HB.out (c := w.heap.size + 1 + 1) (by omega) (.int .i64 za) (.int .i64 zb) (.int .i64 zc) (.int .i64 zd))
        obtain ⟨w_4, hw_4⟩ : ∃ q : World, ((((w_3.setCell ⟨w.heap.size + 1 + 1, 0, none⟩ (.int .i64 za)).setCell ⟨w.heap.size + 1 + 1, 1, none⟩ (.int .i64 zb)).setCell ⟨w.heap.size + 1 + 1, 2, none⟩ (.int .i64 zc)).setCell ⟨w.heap.size + 1 + 1, 3, none⟩ (.int .i64 zd)) = q := ⟨_, rfl⟩
        rw [hw_4] at HX0 HX1 HX2 HB ⊢
        clear hw_4
        refine hK.out _ _ ⟨HX0.out.c1.1, HFK.out _ (HI.out.below HB.out)⟩ (fun hHeld => ?_)
        clear hK K'
        try simp only [Act.put, List.setIfInBounds_toArray, List.set_cons_zero, List.set_cons_succ]
        refine wpAnyH_done (by kernel_rfl) ?_ _
        go_wp2_with fail
        go_roundw
        case rel => exact ⟨k + 1, by omega, by go_num, HX0, HX1, hide (by rw [HV.out]; obtain ⟨e0, e1, e2, e3⟩ := HZE.out; rw [e0, e1, e2, e3]; exact HX2.out), HB⟩
        case measure => simp [Go.RowKit.intOf]; omega
      · skip
        go_simp
        go_at_call 58
        refine (HTU.out _).mono ?_
        rintro e_ w_5 ⟨rfl, hb_5⟩
        replace HX0 := hide (HX0.out.below hb_5)
        replace HX1 := hide (HX1.out.below hb_5)
        replace HX2 := hide (HX2.out.below hb_5)
        replace HB := hide (HB.out.trans (hb_5.mono HB.out.size))
        clear hb_5
        go_wp2_with fail
        refine hK.out _ _ ⟨HX0.out.c1.1, HFK.out _ (HI.out.below HB.out)⟩ (fun hHeld => ?_)
        clear hK K'
        try simp only [Act.put, List.setIfInBounds_toArray, List.set_cons_zero, List.set_cons_succ]
        refine wpAnyH_ready (rs := [0]) (by kernel_rfl) (by simp) ?_
        refine AllReadyH.cons (o := ⟨some 20, _, _, _, _, _⟩) rfl (fun K' hK => ?_) AllReadyH.nil
        obtain ⟨y0, y1, y2, y3, f0, f1, f2, f3, hly⟩ := HX2.out.cells4
        go_simp
        clear y0 y1 y2 y3 f0 f1 f2 f3 hly
        refine hK.out _ _ ⟨HX0.out.c1.1, HFK.out _ (HI.out.below HB.out)⟩ (fun hHeld => ?_)
        clear hK K'
        try simp only [Act.put, List.setIfInBounds_toArray, List.set_cons_zero, List.set_cons_succ]
        refine wpAnyH_ready (rs := [12]) (by kernel_rfl) (by simp) ?_
        refine AllReadyH.cons (o := ⟨some 32, _, _, _, _, _⟩) rfl (fun K' hK => ?_) AllReadyH.nil
        go_simp
        go_at_call 57
        refine (HPL.out _).mono ?_
        rintro e_ w_6 ⟨rfl, hb_6⟩
        replace HX0 := hide (HX0.out.below hb_6)
        replace HX1 := hide (HX1.out.below hb_6)
        replace HX2 := hide (HX2.out.below hb_6)
        replace HB := hide (HB.out.trans (hb_6.mono HB.out.size))
        clear hb_6
        go_wp2_with fail
        refine hK.out _ _ ⟨HX0.out.c1.1, HFK.out _ (HI.out.below HB.out)⟩ (fun hHeld => ?_)
        clear hK K'
        try simp only [Act.put, List.setIfInBounds_toArray, List.set_cons_zero, List.set_cons_succ]
        refine wpAnyH_ready (rs := [13]) (by kernel_rfl) (by simp) ?_
        refine AllReadyH.cons (o := ⟨none, _, _, _, _, _⟩) rfl (fun K' hK => ?_) AllReadyH.nil
        obtain ⟨y0, y1, y2, y3, f0, f1, f2, f3, hly⟩ := HX2.out.cells4
        go_simp
        clear y0 y1 y2 y3 f0 f1 f2 f3 hly
        replace HX0 := hide (HX0.out.other4 (c := w.heap.size + 1 + 1) (by omega) (.int .i64 za) (.int .i64 zb) (.int .i64 zc) (.int .i64 zd))
        replace HX1 := hide (HX1.out.other4 (c := w.heap.size + 1 + 1) (by omega) (.int .i64 za) (.int .i64 zb) (.int .i64 zc) (.int .i64 zd))
        replace HX2 := hide (HX2.out.put4 (.int .i64 za) (.int .i64 zb) (.int .i64 zc) (.int .i64 zd))
        replace HB := hide (Below.put4 HB.out (c := w.heap.size + 1 + 1) (by omega) (.int .i64 za) (.int .i64 zb) (.int .i64 zc) (.int .i64 zd))
        obtain ⟨w_7, hw_7⟩ : ∃ q : World, ((((w_6.setCell ⟨w.heap.size + 1 + 1, 0, none⟩ (.int .i64 za)).setCell ⟨w.heap.size + 1 + 1, 1, none⟩ (.int .i64 zb)).setCell ⟨w.heap.size + 1 + 1, 2, none⟩ (.int .i64 zc)).setCell ⟨w.heap.size + 1 + 1, 3, none⟩ (.int .i64 zd)) = q := ⟨_, rfl⟩
        rw [hw_7] at HX0 HX1 HX2 HB ⊢
        clear hw_7
        refine hK.out _ _ ⟨HX0.out.c1.1, HFK.out _ (HI.out.below HB.out)⟩ (fun hHeld => ?_)
        clear hK K'
        try simp only [Act.put, List.setIfInBounds_toArray, List.set_cons_zero, List.set_cons_succ]
        refine wpAnyH_done (by kernel_rfl) ?_ _
        go_wp2_with fail
        go_roundw
        case rel => exact ⟨k + 1, by omega, by go_num, HX0, HX1, hide (by rw [HV.out]; obtain ⟨e0, e1, e2, e3⟩ := HZE.out; rw [e0, e1, e2, e3]; exact HX2.out), HB⟩
        case measure => simp [Go.RowKit.intOf]; omega
    obtain rfl : k = n := by omega
    obtain ⟨x, hx⟩ : ∃ z, T k = z := ⟨_, rfl⟩
    simp only [hx] at HX2 ⊢
    have HXE := hide hx
    clear hx
    obtain ⟨x0, -, hlx⟩ := HX0.out.c1
    obtain ⟨z0, z1, z2, z3, f0, f1, f2, f3, hlz⟩ := HX1.out.cells4
    obtain ⟨y0, y1, y2, y3, -⟩ := HX2.out.cells4
    have HY := hide (HX1.out.put4 (.int .i64 x.a) (.int .i64 x.b) (.int .i64 x.c) (.int .i64 x.d)).cells4
    have HBL := hide (Below.put4 HB.out (c := w.heap.size + 1) (Nat.le_succ _) (.int .i64 x.a) (.int .i64 x.b) (.int .i64 x.c) (.int .i64 x.d))
    go_wp2_with fail
    clear y0 y1 y2 y3
    obtain ⟨y0, y1, y2, y3, -⟩ := HY.out
    refine bodyPost_ret (v := .agg #[.int .i64 x.a, .int .i64 x.b, .int .i64 x.c, .int .i64 x.d]) ?_ rfl ⟨by rw [HXE.out], HBL.out⟩
    simp [results, Try.results26, go_sem, y0, y1, y2, y3]
end Go.Proofs.Ytejhakkfgfahaaa
