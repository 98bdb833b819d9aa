/- Lemmas: E27, Wo, Oa, Ob, Oc, Wp, Wg, Wt. -/
import Derived.Laws.MakeOwn
import Derived.Laws.OwnMore
import Derived.OwnWalk
import Derived.Deep.QuietTactic
import Derived.BigQuiet
import Derived.Test.YtejhakkfgfahaaaBq02
import Derived.Test.YtejhakkfgfahaaaBq07
import Derived.Test.YtejhakkfgfahaaaBq10
import Derived.Test.YtejhakkfgfahaaaBq11
set_option linter.unusedVariables false
set_option linter.unusedSimpArgs false
/- turn, plus and ResponseOf of the reference. -/
namespace Go.Proofs.Ytejhakkfgfahaaa
open Go.RowKit Go.Great
set_option maxHeartbeats 2000000 in
theorem turn_any (x : Num) (n : Int) (w : World) (hx : x.Within 4611686018427387904) :
    Calls Try.prog 58 #[.agg #[.int .i64 x.a, .int .i64 x.b, .int .i64 x.c, .int .i64 x.d], .int .i64 n] w fun e w' => e = .returned (.agg #[.int .i64 (x.turns (n % 8).toNat).a, .int .i64 (x.turns (n % 8).toNat).b, .int .i64 (x.turns (n % 8).toNat).c, .int .i64 (x.turns (n % 8).toNat).d]) ∧ Below w.heap.size w w' := by
  have HX := hide hx
  clear hx
  obtain ⟨k, hk⟩ : ∃ k, k = (n % 8).toNat := ⟨_, rfl⟩
  have hkz : n % 8 = (k : Int) := by have := Int.emod_nonneg n (show (8 : Int) ≠ 0 by decide); omega
  have hk8 : k < 8 := by have := Int.emod_lt_of_pos n (show (0 : Int) < 8 by decide); omega
  rw [← hk]
  have HM := hide (fun W => mod8 n W)
  rw [hkz] at HM
  clear hk hkz
  go_enter Try.func58, Try.ntmps58
  go_wp2_with fail
  go_loopw [5] (fun i wr => ∃ j : Nat, j ≤ k ∧ i = .int .i64 (j : Int) ∧ Box wr w.heap.size 41 #[.int .i64 (x.turns j).a, .int .i64 (x.turns j).b, .int .i64 (x.turns j).c, .int .i64 (x.turns j).d] ∧ Box wr (w.heap.size + 1) 41 #[.int .i64 0, .int .i64 0, .int .i64 0, .int .i64 0] ∧ Below w.heap.size w wr) (fun i _ => k - (Go.RowKit.intOf i).toNat)
  case atStart => exact ⟨0, Nat.zero_le _, rfl, (Box.made rfl).alloc _, Box.made (by simp), by (repeat (first | (with_reducible exact Below.refl _ _) | (with_reducible refine Go.below_drewN ?_ _) | (with_reducible refine Below.drew ?_) | (with_reducible refine Below.alloc ?_ (by first | exact Nat.le_refl _ | (simp; done) | (simp; omega) | omega) _) | (with_reducible refine Below.setCell ?_ (by first | exact Nat.le_refl _ | (simp; done) | (simp; omega) | omega) _)))⟩
  case round =>
    obtain ⟨j, hj, rfl, bx, by', hB⟩ := hrel
    have hy := HX.out.turns j
    have HT := hide (show x.turns (j + 1) = (x.turns j).turn from rfl)
    obtain ⟨y, hyx⟩ : ∃ y, x.turns j = y := ⟨_, rfl⟩
    rw [hyx] at bx hy HT
    have HYX := hide hyx
    clear hyx
    obtain ⟨h1, h2, h3, h4⟩ := hy
    obtain ⟨z0, z1, z2, z3, f0, f1, f2, f3, hl⟩ := bx.cells4
    by_cases hlt : j < k
    · have hltz : (j : Int) < (k : Int) := by omega
      have q1 : IntKind.i64.wrap (-y.d) = -y.d := IntWalk.i64_in _ (by omega)
      have HBX := hide (bx.put4 (.int .i64 (-y.d)) (.int .i64 y.a) (.int .i64 y.b) (.int .i64 y.c))
      have HBY := hide (by'.other4 (c := w.heap.size) (by omega) (.int .i64 (-y.d)) (.int .i64 y.a) (.int .i64 y.b) (.int .i64 y.c))
      have HBL := hide (Below.put4 hB (Nat.le_refl _) (.int .i64 (-y.d)) (.int .i64 y.a) (.int .i64 y.b) (.int .i64 y.c))
      clear bx by' hB h1 h2 h3 h4
      go_wp2_with (go_at_call 53; refine (HM.out _).mono ?_; rintro e w' ⟨rfl, rfl⟩)
      go_roundw
      case rel => exact ⟨j + 1, by omega, by go_num, by rw [HT.out]; exact HBX.out, HBY.out, HBL.out⟩
      case measure => simp [Go.RowKit.intOf]; omega
    · obtain rfl : j = k := by omega
      obtain ⟨y0, y1, y2, y3, g0, g1, g2, g3, hl'⟩ := by'.cells4
      have HBY := hide (by'.put4 (.int .i64 y.a) (.int .i64 y.b) (.int .i64 y.c) (.int .i64 y.d))
      have HBL := hide (Below.put4 hB (Nat.le_succ _) (.int .i64 y.a) (.int .i64 y.b) (.int .i64 y.c) (.int .i64 y.d))
      clear bx by' hB h1 h2 h3 h4
      go_wp2_with (go_at_call 53; refine (HM.out _).mono ?_; rintro e w' ⟨rfl, rfl⟩)
      refine bodyPost_ret (v := .agg #[.int .i64 y.a, .int .i64 y.b, .int .i64 y.c, .int .i64 y.d]) ?_ rfl ⟨by rw [HYX.out], HBL.out⟩
      obtain ⟨y0, y1, y2, y3, -⟩ := HBY.out.cells4
      simp [results, Try.results58, go_sem, y0, y1, y2, y3]

set_option maxHeartbeats 2000000 in
set_option maxRecDepth 100000 in
theorem plus_any (x y : Num) (M : Int) (w : World) (hx : (x.add y).Within M) (hM : M ≤ 9223372036854775807) :
    Calls Try.prog 57 #[.agg #[.int .i64 x.a, .int .i64 x.b, .int .i64 x.c, .int .i64 x.d], .agg #[.int .i64 y.a, .int .i64 y.b, .int .i64 y.c, .int .i64 y.d]] w fun e w' => e = .returned (.agg #[.int .i64 (x.add y).a, .int .i64 (x.add y).b, .int .i64 (x.add y).c, .int .i64 (x.add y).d]) ∧ Below w.heap.size w w' := by
  obtain ⟨h1, h2, h3, h4⟩ := hx
  have q1 : IntKind.i64.wrap (x.a + y.a) = x.a + y.a := IntWalk.i64_in _ (by have : -M ≤ x.a + y.a ∧ x.a + y.a ≤ M := h1; omega)
  have q2 : IntKind.i64.wrap (x.b + y.b) = x.b + y.b := IntWalk.i64_in _ (by have : -M ≤ x.b + y.b ∧ x.b + y.b ≤ M := h2; omega)
  have q3 : IntKind.i64.wrap (x.c + y.c) = x.c + y.c := IntWalk.i64_in _ (by have : -M ≤ x.c + y.c ∧ x.c + y.c ≤ M := h3; omega)
  have q4 : IntKind.i64.wrap (x.d + y.d) = x.d + y.d := IntWalk.i64_in _ (by have : -M ≤ x.d + y.d ∧ x.d + y.d ≤ M := h4; omega)
  clear h1 h2 h3 h4 hM
  go_enter Try.func57, Try.ntmps57
  go_wp2_with fail
  have hb : Box (((w.alloc (.cells #[.int .i64 x.a, .int .i64 x.b, .int .i64 x.c, .int .i64 x.d] 41)).alloc (.cells #[.int .i64 y.a, .int .i64 y.b, .int .i64 y.c, .int .i64 y.d] 41)).alloc (.cells #[.int .i64 (x.a + y.a), .int .i64 (x.b + y.b), .int .i64 (x.c + y.c), .int .i64 (x.d + y.d)] 41)) (w.heap.size + 1 + 1) 41 #[.int .i64 (x.a + y.a), .int .i64 (x.b + y.b), .int .i64 (x.c + y.c), .int .i64 (x.d + y.d)] := Box.made (by simp)
  obtain ⟨y0, y1, y2, y3, -⟩ := hb.cells4
  refine bodyPost_ret (v := .agg #[.int .i64 (x.a + y.a), .int .i64 (x.b + y.b), .int .i64 (x.c + y.c), .int .i64 (x.d + y.d)]) ?_ rfl ⟨rfl, by (repeat (first | (with_reducible exact Below.refl _ _) | (with_reducible refine Go.below_drewN ?_ _) | (with_reducible refine Below.drew ?_) | (with_reducible refine Below.alloc ?_ (by first | exact Nat.le_refl _ | (simp; done) | (simp; omega) | omega) _) | (with_reducible refine Below.setCell ?_ (by first | exact Nat.le_refl _ | (simp; done) | (simp; omega) | omega) _)))⟩
  simp [results, Try.results57, go_sem, y0, y1, y2, y3]

def oneN : Num := ⟨1, 0, 0, 0⟩
theorem oneN_within : oneN.Within 4611686018427387904 := ⟨by decide, by decide, by decide, by decide⟩
theorem rs_on {F : Nat → Int} {s k : Nat} (h : F k ≠ -1) (hF : -1 ≤ F k) : rsN F s (k + 1) = (rsN F s k).add (oneN.turns ((F k + ((k * s : Nat) : Int)) % 8).toNat) := by
  have e : ahF F s k = (F k + ((k * s : Nat) : Int)) % 8 := if_neg h
  show (if ahF F s k = -1 then rsN F s k else (rsN F s k).add ((gnum oneG).turns (ahF F s k).toNat)) = _
  rw [if_neg (by rw [e]; omega), e]
  rfl
theorem rs_off {F : Nat → Int} {s k : Nat} (h : F k = -1) : rsN F s (k + 1) = rsN F s k := by
  have e : ahF F s k = -1 := if_pos h
  show (if ahF F s k = -1 then rsN F s k else _) = _
  rw [if_pos e]
set_option maxHeartbeats 8000000 in
set_option maxRecDepth 100000 in
theorem ResponseOf_ref (A : Option Addr) (n c : Nat) (F : Nat → Int) (s : Nat) (w : World) (hn : n ≤ 100) (hs : s ≤ 7) (hI : IntsAt w 0 A n F) (hF : ∀ j, j < n → -1 ≤ F j ∧ F j ≤ 7) :
    Calls Try.prog 26 #[.agg #[.slice A n c], .int .i64 (s : Int)] w fun e w' => e = .returned (.agg #[.int .i64 (rsN F s n).a, .int .i64 (rsN F s n).b, .int .i64 (rsN F s n).c, .int .i64 (rsN F s n).d]) ∧ Below w.heap.size w w' := by
  have HI := hide hI
  have HFF := hide hF
  have HRW := hide (fun k => rsN_within F s k)
  have HON := hide (fun k => rs_on (F := F) (s := s) (k := k))
  have HOF := hide (fun k => rs_off (F := F) (s := s) (k := k))
  have H0 := hide (show rsN F s 0 = Num.zero from rfl)
  obtain ⟨T, hT⟩ : ∃ z, rsN F s = z := ⟨_, rfl⟩
  simp only [hT] at HRW HON HOF H0 ⊢
  clear hI hF hT
  go_enter Try.func26, Try.ntmps26
  go_wp2_with fail
  go_loopw [6] (fun i wr => ∃ k : Nat, k ≤ n ∧ i = .int .i64 (k : Int) ∧ Hid (Box wr w.heap.size 24 #[.slice A n c]) ∧ Hid (Box wr (w.heap.size + 1) 41 #[.int .i64 0, .int .i64 0, .int .i64 0, .int .i64 0]) ∧ Hid (Box wr (w.heap.size + 1 + 1) 41 #[.int .i64 (T k).a, .int .i64 (T k).b, .int .i64 (T k).c, .int .i64 (T k).d]) ∧ Hid (Below w.heap.size w wr)) (fun i _ => n - (Go.RowKit.intOf i).toNat)
  case atStart => exact ⟨0, Nat.zero_le _, rfl, hide (((Box.made rfl).alloc _).alloc _), hide ((Box.made (by simp)).alloc _), hide (by rw [H0.out]; exact Box.made (by simp)), hide (by (repeat (first | (with_reducible exact Below.refl _ _) | (with_reducible refine Go.below_drewN ?_ _) | (with_reducible refine Below.drew ?_) | (with_reducible refine Below.alloc ?_ (by first | exact Nat.le_refl _ | (simp; done) | (simp; omega) | omega) _) | (with_reducible refine Below.setCell ?_ (by first | exact Nat.le_refl _ | (simp; done) | (simp; omega) | omega) _))))⟩
  case round =>
    obtain ⟨k, hk, rfl, HX0, HX1, HX2, HB⟩ := hrel
    obtain ⟨wA, rfl⟩ : ∃ x : World, x = wr := ⟨_, rfl⟩
    by_cases hlt : k < n
    case pos =>
      have hltz : (k : Int) < (n : Int) := by omega
      obtain ⟨b, o, rfl, -, hbw, -⟩ := HI.out k hlt
      have HFK := hide (fun W (h : IntsAt W 0 (some ⟨b, o, none⟩) n F) => h.cell hlt)
      have hff := HFF.out k hlt
      have hon := HON.out k
      have hof := HOF.out k
      have hrw := HRW.out (k + 1)
      obtain ⟨f, hf⟩ : ∃ z, F k = z := ⟨_, rfl⟩
      simp only [hf] at HFK hff hon hof
      clear hf
      obtain ⟨x, hx⟩ : ∃ z, T k = z := ⟨_, rfl⟩
      simp only [hx] at HX2 hon hof
      clear hx
      obtain ⟨x0, -, hlx⟩ := HX0.out.c1
      have hc := HFK.out _ (HI.out.below HB.out)
      by_cases hoff : f = -1
      case pos =>
        have t1 : (f != -1) = false := by simpa using hoff
        have HV := hide (hof hoff)
        clear hof hon hrw hff hoff
        go_wp2_with fail
        go_roundw
        case rel => exact ⟨k + 1, by omega, by go_num, HX0, HX1, hide (by rw [HV.out]; exact HX2.out), HB⟩
        case measure => simp [Go.RowKit.intOf]; omega
      have t1 : (f != -1) = true := by simpa using hoff
      have hv := hon hoff hff.1
      clear hof hon
      obtain ⟨m, hm⟩ : ∃ m : Nat, k * s = m := ⟨_, rfl⟩
      have hmz : (k : Int) * (s : Int) = (m : Int) := by rw [← hm]; exact (Int.natCast_mul k s).symm
      have hm9 : m ≤ 700 := by rw [← hm]; exact Nat.le_trans (Nat.mul_le_mul (show k ≤ 100 by omega) hs) (by decide)
      have q1 : IntKind.i64.wrap ((k : Int) * (s : Int)) = (m : Int) := by rw [hmz]; exact IntWalk.i64_in _ (by omega)
      obtain ⟨v, hvv⟩ : ∃ v : Int, f + (m : Int) = v := ⟨_, rfl⟩
      have q2 : IntKind.i64.wrap (f + (m : Int)) = v := by rw [IntWalk.i64_in _ (by omega)]; exact hvv
      rw [hm, hvv] at hv
      have HTU := hide (fun W => (show Calls Try.prog 58 #[.agg #[.int .i64 1, .int .i64 0, .int .i64 0, .int .i64 0], .int .i64 v] W fun e w' => e = .returned (.agg #[.int .i64 (oneN.turns (v % 8).toNat).a, .int .i64 (oneN.turns (v % 8).toNat).b, .int .i64 (oneN.turns (v % 8).toNat).c, .int .i64 (oneN.turns (v % 8).toNat).d]) ∧ Below W.heap.size W w' from turn_any oneN v W oneN_within))
      obtain ⟨y, hy⟩ : ∃ z, oneN.turns (v % 8).toNat = z := ⟨_, rfl⟩
      simp only [hy] at HTU hv
      clear hy
      have hzw : (x.add y).Within ((k + 1 : Nat) : Int) := by rw [← hv]; exact hrw
      have HPL := hide (fun W => plus_any x y ((k + 1 : Nat) : Int) W hzw (by omega))
      obtain ⟨z, hz⟩ : ∃ q, x.add y = q := ⟨_, rfl⟩
      simp only [hz] at HPL hv
      have HV := hide hv
      clear hz hzw hv hrw hm hmz hvv hff hoff
      obtain ⟨xa, hxa⟩ : ∃ q, x.a = q := ⟨_, rfl⟩
      obtain ⟨xb, hxb⟩ : ∃ q, x.b = q := ⟨_, rfl⟩
      obtain ⟨xc, hxc⟩ : ∃ q, x.c = q := ⟨_, rfl⟩
      obtain ⟨xd, hxd⟩ : ∃ q, x.d = q := ⟨_, rfl⟩
      obtain ⟨ya, hya⟩ : ∃ q, y.a = q := ⟨_, rfl⟩
      obtain ⟨yb, hyb⟩ : ∃ q, y.b = q := ⟨_, rfl⟩
      obtain ⟨yc, hyc⟩ : ∃ q, y.c = q := ⟨_, rfl⟩
      obtain ⟨yd, hyd⟩ : ∃ q, y.d = q := ⟨_, rfl⟩
      obtain ⟨za, hza⟩ : ∃ q, z.a = q := ⟨_, rfl⟩
      obtain ⟨zb, hzb⟩ : ∃ q, z.b = q := ⟨_, rfl⟩
      obtain ⟨zc, hzc⟩ : ∃ q, z.c = q := ⟨_, rfl⟩
      obtain ⟨zd, hzd⟩ : ∃ q, z.d = q := ⟨_, rfl⟩
      simp only [hxa, hxb, hxc, hxd] at HX2
      simp only [hya, hyb, hyc, hyd] at HTU
      simp only [hxa, hxb, hxc, hxd, hya, hyb, hyc, hyd, hza, hzb, hzc, hzd] at HPL
      have HZE := hide (show z.a = za ∧ z.b = zb ∧ z.c = zc ∧ z.d = zd from ⟨hza, hzb, hzc, hzd⟩)
      clear hxa hxb hxc hxd hya hyb hyc hyd hza hzb hzc hzd
      go_upto_region 6 with fail
      clear x0 hlx hc t1
      refine wp_region_held_drew (S := fun w' => w'.cell? ⟨w.heap.size, 0, none⟩ = some (.slice (some ⟨b, o, none⟩) n c) ∧ w'.cell? ⟨b, o + k, none⟩ = some (.int .i64 f)) (by kernel_rfl) ⟨HX0.out.c1.1, HFK.out _ (HI.out.below HB.out.drew)⟩ (fun hHeld => ?_)
      obtain ⟨w_1, hw_1⟩ : ∃ q : World, q = wA.drew := ⟨_, rfl⟩
      rw [← hw_1] at hHeld ⊢
      have hc_1 : Below wA.heap.size wA w_1 := by rw [hw_1]; exact (Below.refl _ _).drew
      clear hw_1
      replace HX0 := hide (HX0.out.below hc_1)
      replace HX1 := hide (HX1.out.below hc_1)
      replace HX2 := hide (HX2.out.below hc_1)
      replace HB := hide (HB.out.trans (hc_1.mono HB.out.size))
      clear hc_1
      refine wpAnyH_take (i := 1) (oi := ⟨some 21, _, _, _, _, _⟩) (v := ?_) rfl (by kernel_rfl) (by kernel_rfl) (by kernel_rfl) (fun _ _ _ h => h) (Or.inl ⟨by rfl, ?_⟩) (by assumption) ?_
      rotate_left
      · (intro w' hSw; (try dsimp only at hSw); go_simp <;> (with_reducible rfl))
      try simp only [Act.put, List.setIfInBounds_toArray, List.set_cons_zero, List.set_cons_succ]
      refine wpAnyH_take (i := 2) (oi := ⟨some 22, _, _, _, _, _⟩) (v := ?_) rfl (by kernel_rfl) (by kernel_rfl) (by kernel_rfl) (fun _ _ _ h => h) (Or.inl ⟨by rfl, ?_⟩) (by assumption) ?_
      rotate_left
      · (intro w' hSw; (try dsimp only at hSw); go_simp <;> (with_reducible rfl))
      try simp only [Act.put, List.setIfInBounds_toArray, List.set_cons_zero, List.set_cons_succ]
      refine wpAnyH_take (i := 3) (oi := ⟨some 23, _, _, _, _, _⟩) (v := ?_) rfl (by kernel_rfl) (by kernel_rfl) (by kernel_rfl) (fun _ _ _ h => h) (Or.inl ⟨by rfl, ?_⟩) (by assumption) ?_
      rotate_left
      · (intro w' hSw; (try dsimp only at hSw); go_simp <;> (with_reducible rfl))
      try simp only [Act.put, List.setIfInBounds_toArray, List.set_cons_zero, List.set_cons_succ]
      refine wpAnyH_take (i := 4) (oi := ⟨some 24, _, _, _, _, _⟩) (v := ?_) rfl (by kernel_rfl) (by kernel_rfl) (by kernel_rfl) (fun _ _ _ h => h) (Or.inl ⟨by rfl, ?_⟩) (by assumption) ?_
      rotate_left
      · (intro w' hSw; (try dsimp only at hSw); go_simp <;> (with_reducible rfl))
      try simp only [Act.put, List.setIfInBounds_toArray, List.set_cons_zero, List.set_cons_succ]
      refine wpAnyH_take (i := 5) (oi := ⟨some 25, _, _, _, _, _⟩) (v := ?_) rfl (by kernel_rfl) (by kernel_rfl) (by kernel_rfl) (fun _ _ _ h => h) (Or.inl ⟨by rfl, ?_⟩) (by assumption) ?_
      rotate_left
      · (intro w' hSw; (try dsimp only at hSw); go_simp <;> (with_reducible rfl))
      try simp only [Act.put, List.setIfInBounds_toArray, List.set_cons_zero, List.set_cons_succ]
      refine wpAnyH_take (i := 6) (oi := ⟨some 26, _, _, _, _, _⟩) (v := ?_) rfl (by kernel_rfl) (by kernel_rfl) (by kernel_rfl) (fun _ _ _ h => h) (Or.inl ⟨by rfl, ?_⟩) (by assumption) ?_
      rotate_left
      · (intro w' hSw; (try dsimp only at hSw); go_simp <;> (with_reducible rfl))
      try simp only [Act.put, List.setIfInBounds_toArray, List.set_cons_zero, List.set_cons_succ]
      refine wpAnyH_take (i := 7) (oi := ⟨some 27, _, _, _, _, _⟩) (v := ?_) rfl (by kernel_rfl) (by kernel_rfl) (by kernel_rfl) (fun _ _ _ h => h) (Or.inl ⟨by rfl, ?_⟩) (by assumption) ?_
      rotate_left
      · (intro w' hSw; (try dsimp only at hSw); go_simp <;> (with_reducible rfl))
      try simp only [Act.put, List.setIfInBounds_toArray, List.set_cons_zero, List.set_cons_succ]
      refine wpAnyH_take (i := 8) (oi := ⟨some 28, _, _, _, _, _⟩) (v := ?_) rfl (by kernel_rfl) (by kernel_rfl) (by kernel_rfl) (fun _ _ _ h => h) (Or.inl ⟨by rfl, ?_⟩) (by assumption) ?_
      rotate_left
      · (intro w' hSw; (try dsimp only at hSw); go_simp <;> (with_reducible rfl))
      try simp only [Act.put, List.setIfInBounds_toArray, List.set_cons_zero, List.set_cons_succ]
      refine wpAnyH_take (i := 9) (oi := ⟨some 29, _, _, _, _, _⟩) (v := ?_) rfl (by kernel_rfl) (by kernel_rfl) (by kernel_rfl) (fun _ _ _ h => h) (Or.inl ⟨by rfl, ?_⟩) (by assumption) ?_
      rotate_left
      · (intro w' hSw; (try dsimp only at hSw); go_simp <;> (with_reducible rfl))
      try simp only [Act.put, List.setIfInBounds_toArray, List.set_cons_zero, List.set_cons_succ]
      refine wpAnyH_take (i := 10) (oi := ⟨some 30, _, _, _, _, _⟩) (v := ?_) rfl (by kernel_rfl) (by kernel_rfl) (by kernel_rfl) (fun _ _ _ h => h) (Or.inl ⟨by rfl, ?_⟩) (by assumption) ?_
      rotate_left
      · (intro w' hSw; (try dsimp only at hSw); go_simp <;> (with_reducible rfl))
      try simp only [Act.put, List.setIfInBounds_toArray, List.set_cons_zero, List.set_cons_succ]
      refine wpAnyH_ready (rs := [0, 11]) (by kernel_rfl) (by simp) ?_
      refine AllReadyH.cons (o := ⟨some 20, _, _, _, _, _⟩) rfl (fun K' hK => ?_) (AllReadyH.cons (o := ⟨some 31, _, _, _, _, _⟩) rfl (fun K' hK => ?_) AllReadyH.nil)
      · skip
        obtain ⟨y0, y1, y2, y3, f0, f1, f2, f3, hly⟩ := HX2.out.cells4
        go_simp
        clear y0 y1 y2 y3 f0 f1 f2 f3 hly
        refine hK.out _ _ ⟨HX0.out.c1.1, HFK.out _ (HI.out.below HB.out)⟩ (fun hHeld => ?_)
        clear hK K'
        try simp only [Act.put, List.setIfInBounds_toArray, List.set_cons_zero, List.set_cons_succ]
        refine wpAnyH_ready (rs := [11]) (by kernel_rfl) (by simp) ?_
        refine AllReadyH.cons (o := ⟨some 31, _, _, _, _, _⟩) rfl (fun K' hK => ?_) AllReadyH.nil
        go_simp
        go_at_call 58
        refine (HTU.out _).mono ?_
        rintro e_ w_2 ⟨rfl, hb_2⟩
        replace HX0 := hide (HX0.out.below hb_2)
        replace HX1 := hide (HX1.out.below hb_2)
        replace HX2 := hide (HX2.out.below hb_2)
        replace HB := hide (HB.out.trans (hb_2.mono HB.out.size))
        clear hb_2
        go_wp2_with fail
        refine hK.out _ _ ⟨HX0.out.c1.1, HFK.out _ (HI.out.below HB.out)⟩ (fun hHeld => ?_)
        clear hK K'
        try simp only [Act.put, List.setIfInBounds_toArray, List.set_cons_zero, List.set_cons_succ]
        refine wpAnyH_ready (rs := [12]) (by kernel_rfl) (by simp) ?_
        refine AllReadyH.cons (o := ⟨some 32, _, _, _, _, _⟩) rfl (fun K' hK => ?_) AllReadyH.nil
        go_simp
        go_at_call 57
        refine (HPL.out _).mono ?_
        rintro e_ w_3 ⟨rfl, hb_3⟩
        replace HX0 := hide (HX0.out.below hb_3)
        replace HX1 := hide (HX1.out.below hb_3)
        replace HX2 := hide (HX2.out.below hb_3)
        replace HB := hide (HB.out.trans (hb_3.mono HB.out.size))
        clear hb_3
        go_wp2_with fail
        refine hK.out _ _ ⟨HX0.out.c1.1, HFK.out _ (HI.out.below HB.out)⟩ (fun hHeld => ?_)
        clear hK K'
        try simp only [Act.put, List.setIfInBounds_toArray, List.set_cons_zero, List.set_cons_succ]
        refine wpAnyH_ready (rs := [13]) (by kernel_rfl) (by simp) ?_
        refine AllReadyH.cons (o := ⟨none, _, _, _, _, _⟩) rfl (fun K' hK => ?_) AllReadyH.nil
        obtain ⟨y0, y1, y2, y3, f0, f1, f2, f3, hly⟩ := HX2.out.cells4
        go_simp
        clear y0 y1 y2 y3 f0 f1 f2 f3 hly
        replace HX0 := hide (HX0.out.other4 (c := w.heap.size + 1 + 1) (by omega) (.int .i64 za) (.int .i64 zb) (.int .i64 zc) (.int .i64 zd))
        replace HX1 := hide (HX1.out.other4 (c := w.heap.size + 1 + 1) (by omega) (.int .i64 za) (.int .i64 zb) (.int .i64 zc) (.int .i64 zd))
        replace HX2 := hide (HX2.out.put4 (.int .i64 za) (.int .i64 zb) (.int .i64 zc) (.int .i64 zd))
        replace HB := hide (Below.put4 HB.out (c := w.heap.size + 1 + 1) (by omega) (.int .i64 za) (.int .i64 zb) (.int .i64 zc) (.int .i64 zd))
        obtain ⟨w_4, hw_4⟩ : ∃ q : World, ((((w_3.setCell ⟨w.heap.size + 1 + 1, 0, none⟩ (.int .i64 za)).setCell ⟨w.heap.size + 1 + 1, 1, none⟩ (.int .i64 zb)).setCell ⟨w.heap.size + 1 + 1, 2, none⟩ (.int .i64 zc)).setCell ⟨w.heap.size + 1 + 1, 3, none⟩ (.int .i64 zd)) = q := ⟨_, rfl⟩
        rw [hw_4] at HX0 HX1 HX2 HB ⊢
        clear hw_4
        refine hK.out _ _ ⟨HX0.out.c1.1, HFK.out _ (HI.out.below HB.out)⟩ (fun hHeld => ?_)
        clear hK K'
        try simp only [Act.put, List.setIfInBounds_toArray, List.set_cons_zero, List.set_cons_succ]
        refine wpAnyH_done (by kernel_rfl) ?_ _
        go_wp2_with fail
        go_roundw
        case rel => exact ⟨k + 1, by omega, by go_num, HX0, HX1, hide (by rw [HV.out]; obtain ⟨e0, e1, e2, e3⟩ := HZE.out; rw [e0, e1, e2, e3]; exact HX2.out), HB⟩
        case measure => simp [Go.RowKit.intOf]; omega
      · skip
        go_simp
        go_at_call 58
        refine (HTU.out _).mono ?_
        rintro e_ w_5 ⟨rfl, hb_5⟩
        replace HX0 := hide (HX0.out.below hb_5)
        replace HX1 := hide (HX1.out.below hb_5)
        replace HX2 := hide (HX2.out.below hb_5)
        replace HB := hide (HB.out.trans (hb_5.mono HB.out.size))
        clear hb_5
        go_wp2_with fail
        refine hK.out _ _ ⟨HX0.out.c1.1, HFK.out _ (HI.out.below HB.out)⟩ (fun hHeld => ?_)
        clear hK K'
        try simp only [Act.put, List.setIfInBounds_toArray, List.set_cons_zero, List.set_cons_succ]
        refine wpAnyH_ready (rs := [0]) (by kernel_rfl) (by simp) ?_
        refine AllReadyH.cons (o := ⟨some 20, _, _, _, _, _⟩) rfl (fun K' hK => ?_) AllReadyH.nil
        obtain ⟨y0, y1, y2, y3, f0, f1, f2, f3, hly⟩ := HX2.out.cells4
        go_simp
        clear y0 y1 y2 y3 f0 f1 f2 f3 hly
        refine hK.out _ _ ⟨HX0.out.c1.1, HFK.out _ (HI.out.below HB.out)⟩ (fun hHeld => ?_)
        clear hK K'
        try simp only [Act.put, List.setIfInBounds_toArray, List.set_cons_zero, List.set_cons_succ]
        refine wpAnyH_ready (rs := [12]) (by kernel_rfl) (by simp) ?_
        refine AllReadyH.cons (o := ⟨some 32, _, _, _, _, _⟩) rfl (fun K' hK => ?_) AllReadyH.nil
        go_simp
        go_at_call 57
        refine (HPL.out _).mono ?_
        rintro e_ w_6 ⟨rfl, hb_6⟩
        replace HX0 := hide (HX0.out.below hb_6)
        replace HX1 := hide (HX1.out.below hb_6)
        replace HX2 := hide (HX2.out.below hb_6)
        replace HB := hide (HB.out.trans (hb_6.mono HB.out.size))
        clear hb_6
        go_wp2_with fail
        refine hK.out _ _ ⟨HX0.out.c1.1, HFK.out _ (HI.out.below HB.out)⟩ (fun hHeld => ?_)
        clear hK K'
        try simp only [Act.put, List.setIfInBounds_toArray, List.set_cons_zero, List.set_cons_succ]
        refine wpAnyH_ready (rs := [13]) (by kernel_rfl) (by simp) ?_
        refine AllReadyH.cons (o := ⟨none, _, _, _, _, _⟩) rfl (fun K' hK => ?_) AllReadyH.nil
        obtain ⟨y0, y1, y2, y3, f0, f1, f2, f3, hly⟩ := HX2.out.cells4
        go_simp
        clear y0 y1 y2 y3 f0 f1 f2 f3 hly
        replace HX0 := hide (HX0.out.other4 (c := w.heap.size + 1 + 1) (by omega) (.int .i64 za) (.int .i64 zb) (.int .i64 zc) (.int .i64 zd))
        replace HX1 := hide (HX1.out.other4 (c := w.heap.size + 1 + 1) (by omega) (.int .i64 za) (.int .i64 zb) (.int .i64 zc) (.int .i64 zd))
        replace HX2 := hide (HX2.out.put4 (.int .i64 za) (.int .i64 zb) (.int .i64 zc) (.int .i64 zd))
        replace HB := hide (Below.put4 HB.out (c := w.heap.size + 1 + 1) (by omega) (.int .i64 za) (.int .i64 zb) (.int .i64 zc) (.int .i64 zd))
        obtain ⟨w_7, hw_7⟩ : ∃ q : World, ((((w_6.setCell ⟨w.heap.size + 1 + 1, 0, none⟩ (.int .i64 za)).setCell ⟨w.heap.size + 1 + 1, 1, none⟩ (.int .i64 zb)).setCell ⟨w.heap.size + 1 + 1, 2, none⟩ (.int .i64 zc)).setCell ⟨w.heap.size + 1 + 1, 3, none⟩ (.int .i64 zd)) = q := ⟨_, rfl⟩
        rw [hw_7] at HX0 HX1 HX2 HB ⊢
        clear hw_7
        refine hK.out _ _ ⟨HX0.out.c1.1, HFK.out _ (HI.out.below HB.out)⟩ (fun hHeld => ?_)
        clear hK K'
        try simp only [Act.put, List.setIfInBounds_toArray, List.set_cons_zero, List.set_cons_succ]
        refine wpAnyH_done (by kernel_rfl) ?_ _
        go_wp2_with fail
        go_roundw
        case rel => exact ⟨k + 1, by omega, by go_num, HX0, HX1, hide (by rw [HV.out]; obtain ⟨e0, e1, e2, e3⟩ := HZE.out; rw [e0, e1, e2, e3]; exact HX2.out), HB⟩
        case measure => simp [Go.RowKit.intOf]; omega
    obtain rfl : k = n := by omega
    obtain ⟨x, hx⟩ : ∃ z, T k = z := ⟨_, rfl⟩
    simp only [hx] at HX2 ⊢
    have HXE := hide hx
    clear hx
    obtain ⟨x0, -, hlx⟩ := HX0.out.c1
    obtain ⟨z0, z1, z2, z3, f0, f1, f2, f3, hlz⟩ := HX1.out.cells4
    obtain ⟨y0, y1, y2, y3, -⟩ := HX2.out.cells4
    have HY := hide (HX1.out.put4 (.int .i64 x.a) (.int .i64 x.b) (.int .i64 x.c) (.int .i64 x.d)).cells4
    have HBL := hide (Below.put4 HB.out (c := w.heap.size + 1) (Nat.le_succ _) (.int .i64 x.a) (.int .i64 x.b) (.int .i64 x.c) (.int .i64 x.d))
    go_wp2_with fail
    clear y0 y1 y2 y3
    obtain ⟨y0, y1, y2, y3, -⟩ := HY.out
    refine bodyPost_ret (v := .agg #[.int .i64 x.a, .int .i64 x.b, .int .i64 x.c, .int .i64 x.d]) ?_ rfl ⟨by rw [HXE.out], HBL.out⟩
    simp [results, Try.results26, go_sem, y0, y1, y2, y3]
end Go.Proofs.Ytejhakkfgfahaaa
/- Numbers of the call's own: a slice of structs of four cells in a new block. -/
namespace Go.Proofs.Ytejhakkfgfahaaa
open Go.RowKit
def numVals (n : Nat) (F : Nat → Num) : List Value := (List.range (n * 4)).map fun j => Value.int .i64 ((F (j / 4)).part (j % 4))
theorem numVals_len (n : Nat) (F : Nat → Num) : (numVals n F).length = n * 4 := by simp [numVals]
theorem numVals_get (n : Nat) (F : Nat → Num) (j : Nat) : (numVals n F)[j]? = if j < n * 4 then some (.int .i64 ((F (j / 4)).part (j % 4))) else none := by
  unfold numVals
  by_cases h : j < n * 4
  · rw [if_pos h]; simp [h]
  · rw [if_neg h, List.getElem?_eq_none (by simp; omega)]
theorem numVals_congr {n : Nat} {F G : Nat → Num} (h : ∀ j, j < n → F j = G j) : numVals n F = numVals n G := by
  unfold numVals
  exact List.map_congr_left fun j hj => by
    have := List.mem_range.1 hj
    rw [h (j / 4) (by omega)]
def setNum (F : Nat → Num) (k : Nat) (x : Num) (j : Nat) : Num := if j = k then x else F j
/-- A slice of the call's own, of n numbers F, in a block that is not ahead of base. -/
def OwnNums (w : World) (base : Nat) (v : Value) (n : Nat) (F : Nat → Num) : Prop := w.ownsRow base 41 4 v n (numVals n F)
theorem OwnNums.congr {w : World} {base n : Nat} {v : Value} {F G : Nat → Num} (h : OwnNums w base v n F) (e : ∀ j, j < n → F j = G j) : OwnNums w base v n G := by
  unfold OwnNums at h ⊢
  rwa [← numVals_congr e]
theorem OwnNums.drew {w : World} {base n : Nat} {v : Value} {F : Nat → Num} (h : OwnNums w base v n F) : OwnNums w.drew base v n F := h
theorem OwnNums.drewN {w : World} {base n : Nat} {v : Value} {F : Nat → Num} (h : OwnNums w base v n F) (q : Nat) : OwnNums (w.drewN q) base v n F := h
theorem OwnNums.alloc {w : World} {base n : Nat} {v : Value} {F : Nat → Num} (h : OwnNums w base v n F) (o : Obj) : OwnNums (w.alloc o) base v n F := World.ownsRow.alloc h o
theorem OwnNums.below {w w' : World} {base n : Nat} {v : Value} {F : Nat → Num} (h : OwnNums w base v n F) (hb : Below w.heap.size w w') : OwnNums w' base v n F :=
  World.ownsRow.kept h (row := none) ⟨hb.os, hb.tape, hb.output, hb.size, fun k hk _ => hb.block k hk⟩ (by cases v.ownBlock <;> simp)
theorem OwnNums.lt {w : World} {base n g c : Nat} {F : Nat → Num} (h : OwnNums w base (.slice (some ⟨g, 0, none⟩) n c) n F) : base ≤ g ∧ g < w.heap.size := World.ownsRow.lt h g rfl
theorem OwnNums.part {w : World} {base n g c : Nat} {F : Nat → Num} (h : OwnNums w base (.slice (some ⟨g, 0, none⟩) n c) n F) {k i : Nat} (hk : k < n) (hi : i < 4) : w.cell? ⟨g, k * 4 + i, none⟩ = some (.int .i64 ((F k).part i)) := by
  rw [World.ownsRow.cellAt h (k * 4 + i) (by omega), numVals_get, if_pos (by omega), show (k * 4 + i) / 4 = k by omega, show (k * 4 + i) % 4 = i by omega]
theorem OwnNums.cells {w : World} {base n g c : Nat} {F : Nat → Num} (h : OwnNums w base (.slice (some ⟨g, 0, none⟩) n c) n F) {k : Nat} (hk : k < n) :
    w.cell? ⟨g, k * 4, none⟩ = some (.int .i64 (F k).a) ∧ w.cell? ⟨g, k * 4 + 1, none⟩ = some (.int .i64 (F k).b) ∧ w.cell? ⟨g, k * 4 + 2, none⟩ = some (.int .i64 (F k).c) ∧ w.cell? ⟨g, k * 4 + 3, none⟩ = some (.int .i64 (F k).d) :=
  ⟨h.part hk (show 0 < 4 by decide), h.part hk (show 1 < 4 by decide), h.part hk (show 2 < 4 by decide), h.part hk (show 3 < 4 by decide)⟩
theorem OwnNums.frozen {w : World} {base n g c : Nat} {F : Nat → Num} (h : OwnNums w base (.slice (some ⟨g, 0, none⟩) n c) n F) (k : Nat) : w.frozen? ⟨g, k, none⟩ = false := World.ownsRow.frozenAt h k
theorem OwnNums.frozen4 {w : World} {base n g c : Nat} {F : Nat → Num} (h : OwnNums w base (.slice (some ⟨g, 0, none⟩) n c) n F) (k : Nat) : w.frozen? ⟨g, k * 4, none⟩ = false ∧ w.frozen? ⟨g, k * 4 + 1, none⟩ = false ∧ w.frozen? ⟨g, k * 4 + 2, none⟩ = false ∧ w.frozen? ⟨g, k * 4 + 3, none⟩ = false := ⟨h.frozen _, h.frozen _, h.frozen _, h.frozen _⟩
theorem OwnNums.nums {w : World} {base n c : Nat} {A : Option Addr} {F : Nat → Num} (h : OwnNums w base (.slice A n c) n F) : NumsAt w base A n F := fun i hi => by
  rcases h.2 with ⟨e, hx⟩ | ⟨g, cap, cur, e, hb, hg, hnc, hm, hsz, htake⟩
  · omega
  · injection e with e1 e2 e3
    subst e1
    have h' : OwnNums w base (.slice (some ⟨g, 0, none⟩) n c) n F := h
    obtain ⟨k0, k1, k2, k3⟩ := h'.cells hi
    exact ⟨g, 0, rfl, hb, (Array.getElem?_eq_some_iff.1 hg).1, by rwa [Nat.zero_add], by rwa [Nat.zero_add], by rwa [Nat.zero_add], by rwa [Nat.zero_add]⟩
theorem OwnNums.other {w : World} {base n : Nat} {v : Value} {F : Nat → Num} (h : OwnNums w base v n F) {k : Nat} (o : Nat) (u : Value) (hk : v.ownBlock ≠ some k) : OwnNums (w.setCell ⟨k, o, none⟩ u) base v n F := by
  refine World.ownsRow.kept h (row := some k) ⟨rfl, rfl, rfl, by simp, fun j _ hj => heap_setCell_other w ⟨k, o, none⟩ j u (fun e => hj (by simp [e]))⟩ (.inr hk)
theorem OwnNums.put {w : World} {base n g c : Nat} {F : Nat → Num} (h : OwnNums w base (.slice (some ⟨g, 0, none⟩) n c) n F) (k : Nat) (x : Num) :
    OwnNums ((((w.setCell ⟨g, k * 4, none⟩ (.int .i64 x.a)).setCell ⟨g, k * 4 + 1, none⟩ (.int .i64 x.b)).setCell ⟨g, k * 4 + 2, none⟩ (.int .i64 x.c)).setCell ⟨g, k * 4 + 3, none⟩ (.int .i64 x.d)) base (.slice (some ⟨g, 0, none⟩) n c) n (setNum F k x) := by
  have h1 := (World.ownsRow.stored (World.ownsRow.stored (World.ownsRow.stored (World.ownsRow.stored h (k * 4) (.int .i64 x.a)).1 (k * 4 + 1) (.int .i64 x.b)).1 (k * 4 + 2) (.int .i64 x.c)).1 (k * 4 + 3) (.int .i64 x.d)).1
  have e : ((((numVals n F).set (k * 4) (.int .i64 x.a)).set (k * 4 + 1) (.int .i64 x.b)).set (k * 4 + 2) (.int .i64 x.c)).set (k * 4 + 3) (.int .i64 x.d) = numVals n (setNum F k x) := by
    apply List.ext_getElem?
    intro j
    simp only [List.getElem?_set, List.length_set, numVals_len, numVals_get]
    by_cases hj : j < n * 4
    · have hd := Nat.div_add_mod j 4
      rw [if_pos hj]
      by_cases hk : j / 4 = k
      · have hs : setNum F k x (j / 4) = x := by unfold setNum; rw [if_pos hk]
        have hlt := Nat.mod_lt j (show 0 < 4 by decide)
        rw [hs, if_pos hj]
        obtain e | e | e | e : j % 4 = 0 ∨ j % 4 = 1 ∨ j % 4 = 2 ∨ j % 4 = 3 := by omega
        · rw [if_neg (by omega), if_neg (by omega), if_neg (by omega), if_pos (by omega), if_pos (by omega), e]; rfl
        · rw [if_neg (by omega), if_neg (by omega), if_pos (by omega), if_pos (by omega), e]; rfl
        · rw [if_neg (by omega), if_pos (by omega), if_pos (by omega), e]; rfl
        · rw [if_pos (by omega), if_pos (by omega), e]; rfl
      · have hs : setNum F k x (j / 4) = F (j / 4) := by unfold setNum; rw [if_neg hk]
        rw [hs, if_neg (by omega), if_neg (by omega), if_neg (by omega), if_neg (by omega), if_pos hj]
    · rw [if_neg hj]
      simp only [if_neg hj]
      repeat' split
      all_goals first | rfl | omega
  rw [e] at h1
  exact h1
theorem Below.put4at {B c o : Nat} {w W : World} (h : Below B w W) (hc : B ≤ c) (u0 u1 u2 u3 : Value) : Below B w ((((W.setCell ⟨c, o, none⟩ u0).setCell ⟨c, o + 1, none⟩ u1).setCell ⟨c, o + 2, none⟩ u2).setCell ⟨c, o + 3, none⟩ u3) :=
  (((h.setCell hc u0).setCell hc u1).setCell hc u2).setCell hc u3
theorem Box.other4at {w : World} {b c o : Nat} {t : TypeId} {cs : Array Value} (h : Box w b t cs) (hn : b ≠ c) (u0 u1 u2 u3 : Value) : Box ((((w.setCell ⟨c, o, none⟩ u0).setCell ⟨c, o + 1, none⟩ u1).setCell ⟨c, o + 2, none⟩ u2).setCell ⟨c, o + 3, none⟩ u3) b t cs :=
  (((h.other (p := ⟨c, o, none⟩) hn u0).other (p := ⟨c, o + 1, none⟩) hn u1).other (p := ⟨c, o + 2, none⟩) hn u2).other (p := ⟨c, o + 3, none⟩) hn u3
theorem OwnNums.made (w : World) (base g f : Nat) (hb : base ≤ w.heap.size) (hg : g = w.heap.size) (hf : f ≤ maxLen) : OwnNums (w.alloc (.cells (madeCells #[.int .i64 0, .int .i64 0, .int .i64 0, .int .i64 0] (f * 4)) 41)) base (.slice (some ⟨g, 0, none⟩) f f) f (fun _ => Num.zero) :=
  hg ▸ ⟨by rw [numVals_len], .inr ⟨w.heap.size, f, _, rfl, hb, heap_alloc_new w _, Nat.le_refl _, hf, by simp [madeCells], by
    apply List.ext_getElem?
    intro j
    rw [numVals_get]
    have hlt := Nat.mod_lt j (show 0 < 4 by decide)
    by_cases hj : j < f * 4
    · rw [if_pos hj]
      obtain e | e | e | e : j % 4 = 0 ∨ j % 4 = 1 ∨ j % 4 = 2 ∨ j % 4 = 3 := by omega
      all_goals (simp [madeCells, hj, e, Num.part, Num.zero])
    · rw [if_neg hj]; simp [madeCells]; omega⟩⟩
theorem numInfo : (Try.prog.info? 41).map (fun i => (i.zero, i.size, i.bytes)) = some (some (.agg #[.int .i64 0, .int .i64 0, .int .i64 0, .int .i64 0]), 4, 32) := by kernel_rfl
end Go.Proofs.Ytejhakkfgfahaaa
/- An append to a slice of numbers that the call made. -/
namespace Go.Proofs.Ytejhakkfgfahaaa
open Go.RowKit
/-- F, and then G. -/
def catN (n : Nat) (F G : Nat → Num) : Nat → Num := fun j => if j < n then F j else G (j - n)
theorem numVals_cat (n m : Nat) (F G : Nat → Num) : numVals n F ++ numVals m G = numVals (n + m) (catN n F G) := by
  apply List.ext_getElem?
  intro j
  rw [List.getElem?_append, numVals_len, numVals_get, numVals_get, numVals_get]
  unfold catN
  by_cases h1 : j < n * 4
  · rw [if_pos h1, if_pos h1, if_pos (by omega), if_pos (by omega)]
  · rw [if_neg h1]
    by_cases h2 : j - n * 4 < m * 4
    · rw [if_pos h2, if_pos (by omega), if_neg (by omega), show (j - n * 4) / 4 = j / 4 - n by omega, show (j - n * 4) % 4 = j % 4 by omega]
    · rw [if_neg h2, if_neg (by omega)]
theorem ownNums_nil (w : World) (base : Nat) (F : Nat → Num) : OwnNums w base (.slice none 0 0) 0 F := World.ownsRow_nil _ _ _ _
theorem ownNums_form {w : World} {base n : Nat} {v : Value} {F : Nat → Num} (h : OwnNums w base v n F) : ∃ A c, v = .slice A n c ∧ n ≤ c ∧ NumsAt w base A n F := by
  rcases h.2 with ⟨rfl, hx⟩ | ⟨g, cap, cur, rfl, hb, hg, hnc, hm, hsz, htake⟩
  · subst hx
    exact ⟨_, _, rfl, Nat.le_refl _, NumsAt.nil_⟩
  · exact ⟨_, _, rfl, hnc, OwnNums.nums h⟩
theorem NumsAt.part {w : World} {lo n : Nat} {A : Option Addr} {F : Nat → Num} (h : NumsAt w lo A n F) {j : Nat} (hj : j < n * 4) : ∃ b o, A = some ⟨b, o, none⟩ ∧ w.cell? ⟨b, o + j, none⟩ = some (.int .i64 ((F (j / 4)).part (j % 4))) := by
  obtain ⟨b, o, rfl, -, -, h0, h1, h2, h3⟩ := h (j / 4) (by omega)
  refine ⟨b, o, rfl, ?_⟩
  have hlt := Nat.mod_lt j (show 0 < 4 by decide)
  have hd := Nat.div_add_mod j 4
  obtain e | e | e | e : j % 4 = 0 ∨ j % 4 = 1 ∨ j % 4 = 2 ∨ j % 4 = 3 := by omega
  · rw [e, show o + j = o + j / 4 * 4 by omega]; exact h0
  · rw [e, show o + j = o + j / 4 * 4 + 1 by omega]; exact h1
  · rw [e, show o + j = o + j / 4 * 4 + 2 by omega]; exact h2
  · rw [e, show o + j = o + j / 4 * 4 + 3 by omega]; exact h3
end Go.Proofs.Ytejhakkfgfahaaa
/- The reference: CopyNumbers, NumbersErr, SamplesErr, Conj. -/
namespace Go.Proofs.Ytejhakkfgfahaaa
open Go.RowKit
theorem OwnNums.empty (w : World) (g : Nat) (hg : g = w.heap.size) (F : Nat → Num) : OwnNums (w.alloc (.cells #[] 41)) w.heap.size (.slice (some ⟨g, 0, none⟩) 0 0) 0 F := by
  subst hg
  exact World.ownsRow_made w #[] 0 (Nat.le_refl _) (by decide) rfl
/-- The error of samples. -/
def sampE (n : Nat) (F : Nat → Num) : Int := if 120 < n then 8 else numsE 1000000000 F n
end Go.Proofs.Ytejhakkfgfahaaa
/- The reference: Same, Conj, Shifted. -/
namespace Go.Proofs.Ytejhakkfgfahaaa
open Go.RowKit
/-- Numbers that are turned on. -/
def shiftN (F : Nat → Num) (q : Int) (j : Nat) : Num := (F j).turns ((q * (j : Int)) % 8).toNat
end Go.Proofs.Ytejhakkfgfahaaa
/- turnedOn of the code. -/
namespace Go.Proofs.Ytejhakkfgfahaaa
open Go.RowKit
end Go.Proofs.Ytejhakkfgfahaaa
/- sum of the code. -/
namespace Go.Proofs.Ytejhakkfgfahaaa
open Go.RowKit
/-- The sum of the first k numbers. -/
def sumF (F : Nat → Num) : Nat → Num
  | 0 => Num.zero
  | k + 1 => (sumF F k).add (F k)
theorem sumF_within {F : Nat → Num} {M : Int} : ∀ {k : Nat}, (∀ j, j < k → (F j).Within M) → (sumF F k).Within (k * M)
  | 0, _ => by
    have e : ((0 : Nat) : Int) * M = 0 := by simp
    rw [e]
    show Num.zero.Within 0
    exact ⟨⟨by decide, by decide⟩, ⟨by decide, by decide⟩, ⟨by decide, by decide⟩, ⟨by decide, by decide⟩⟩
  | k + 1, h => by
    have e : ((k + 1 : Nat) : Int) * M = (k : Int) * M + M := by rw [Int.natCast_add, Int.add_mul]; simp
    rw [e]
    exact (sumF_within fun j hj => h j (by omega)).add (h k (by omega))
end Go.Proofs.Ytejhakkfgfahaaa
/- OffsetOf without a walk: its errors, products, sums, and the best of them. -/
namespace Go.Proofs.Ytejhakkfgfahaaa
open Go.RowKit
def offE (n m : Nat) (F G : Nat → Num) : Int := firstE [unI (decide (0 < n) && ((m : Int) == (n : Int))) 10, unI (decide ((n : Int) ≤ 16)) 8, numsE 100 F n, numsE 100 G m]
def offP (F G : Nat → Num) (i : Nat) : Num := (F i).conj.prod (G i)
def offS (P : Nat → Num) (n f : Nat) : Num := sumF (fun i => (P i).turns ((-(f : Int) * (i : Int)) % 8).toNat) n
/-- The best offset of the first f ones, and its square. -/
def offB (P : Nat → Num) (n : Nat) : Nat → Int × Int × Int
  | 0 => (0, 0, 0)
  | f + 1 => if 0 < compI ((offS P n f).sqP - (offB P n f).2.1) ((offB P n f).2.2 - (offS P n f).sqQ) then ((f : Int), (offS P n f).sqP, (offS P n f).sqQ) else offB P n f
/-- What OffsetOf hands back. -/
def offR (n m : Nat) (F G : Nat → Num) : Int := if offE n m F G = 0 then (offB (offP F G) n 8).1 else 0
theorem badE_zero {g : Nat → Int} : ∀ {n : Nat}, badE g n = 0 → ∀ i, i < n → g i = 0
  | 0, _, i, hi => absurd hi (Nat.not_lt_zero i)
  | n + 1, h, i, hi => by
    unfold badE at h
    by_cases h0 : badE g n = 0
    · rw [if_pos h0] at h
      rcases Nat.lt_or_ge i n with h1 | h1
      · exact badE_zero h0 i h1
      · obtain rfl : i = n := by omega
        exact h
    · rw [if_neg h0] at h; exact absurd h h0
theorem numsE_zero {M : Int} {F : Nat → Num} {n : Nat} (h : numsE M F n = 0) : ∀ i, i < n → (F i).Within M := fun i hi => err_within (badE_zero h i hi)
theorem firstE_nil {a : Int} {r : List Int} (h : firstE (a :: r) = 0) : a = 0 ∧ firstE r = 0 := by
  rw [firstE] at h
  by_cases ha : a = 0
  · rw [if_pos ha] at h; exact ⟨ha, h⟩
  · rw [if_neg ha] at h; exact absurd h ha
theorem unI_zero {b : Bool} {e : Int} (he : e ≠ 0) (h : unI b e = 0) : b = true := by
  unfold unI at h
  cases b
  · exact absurd h (by simpa using he)
  · rfl
theorem offE_zero {n m : Nat} {F G : Nat → Num} (h : offE n m F G = 0) : 0 < n ∧ m = n ∧ n ≤ 16 ∧ (∀ i, i < n → (F i).Within 100) ∧ ∀ i, i < n → (G i).Within 100 := by
  unfold offE at h
  obtain ⟨h1, h⟩ := firstE_nil h
  obtain ⟨h2, h⟩ := firstE_nil h
  obtain ⟨h3, h⟩ := firstE_nil h
  obtain ⟨h4, -⟩ := firstE_nil h
  have k1 := unI_zero (by decide) h1
  have k2 := unI_zero (by decide) h2
  simp at k1 k2
  obtain ⟨k0, k1⟩ := k1
  have e : m = n := by omega
  subst e
  exact ⟨k0, rfl, by omega, numsE_zero h3, numsE_zero h4⟩
theorem Num.Within.conj {M : Int} {x : Num} (h : x.Within M) : x.conj.Within M :=
  ⟨h.a, by have := h.d; show -M ≤ -x.d ∧ -x.d ≤ M; omega, by have := h.c; show -M ≤ -x.c ∧ -x.c ≤ M; omega, by have := h.b; show -M ≤ -x.b ∧ -x.b ≤ M; omega⟩
theorem offP_within {F G : Nat → Num} {i : Nat} (h : (F i).Within 100) (k : (G i).Within 100) : (offP F G i).Within 40000 := by
  have := Num.Within.prodTo h.conj k 4
  exact this.more (by decide)
theorem sums_within {P : Nat → Num} {n : Nat} (hn : n ≤ 16) (h : ∀ i, i < n → (P i).Within 40000) (f : Int) : ∀ k, k ≤ n → (sumF (fun i => (P i).turns ((f * (i : Int)) % 8).toNat) k).Within 640000 := fun k hk =>
  (sumF_within (M := 40000) fun j hj => (h j (by omega)).turns _).more (by omega)
theorem offS_within {P : Nat → Num} {n : Nat} (hn : n ≤ 16) (h : ∀ i, i < n → (P i).Within 40000) (f : Nat) : (offS P n f).Within 640000 := sums_within hn h (-(f : Int)) n (Nat.le_refl n)
theorem Num.Within.squares {x : Num} (h : x.Within 640000) : (-2000000000000 ≤ x.sqP ∧ x.sqP ≤ 2000000000000) ∧ -2000000000000 ≤ x.sqQ ∧ x.sqQ ≤ 2000000000000 := by
  obtain ⟨ha, hb, hc, hd⟩ := h
  have m1 := mul_within ha ha
  have m2 := mul_within hb hb
  have m3 := mul_within hc hc
  have m4 := mul_within hd hd
  have m5 := mul_within ha hb
  have m6 := mul_within hb hc
  have m7 := mul_within hc hd
  have m8 := mul_within ha hd
  unfold Num.sqP Num.sqQ
  omega
theorem offB_within {P : Nat → Num} {n : Nat} (hn : n ≤ 16) (h : ∀ i, i < n → (P i).Within 40000) : ∀ f, (-2000000000000 ≤ (offB P n f).2.1 ∧ (offB P n f).2.1 ≤ 2000000000000) ∧ -2000000000000 ≤ (offB P n f).2.2 ∧ (offB P n f).2.2 ≤ 2000000000000
  | 0 => by
    show (-2000000000000 ≤ (0 : Int) ∧ (0 : Int) ≤ 2000000000000) ∧ -2000000000000 ≤ (0 : Int) ∧ (0 : Int) ≤ 2000000000000
    exact ⟨⟨by decide, by decide⟩, by decide, by decide⟩
  | f + 1 => by
    unfold offB
    split
    · exact (offS_within hn h f).squares
    · exact offB_within hn h f
theorem OwnNums.form {w : World} {base n : Nat} {v : Value} {F : Nat → Num} (h : OwnNums w base v n F) : ∃ A c, v = .slice A n c ∧ n ≤ c ∧ NumsAt w base A n F := by
  have h' := h
  rcases h.2 with ⟨rfl, hx⟩ | ⟨g, cap, cur, rfl, hb, hg, hnc, hm, hsz, htake⟩
  · subst hx
    exact ⟨_, _, rfl, Nat.le_refl _, NumsAt.nil_⟩
  · exact ⟨_, _, rfl, hnc, OwnNums.nums (c := cap) h'⟩
theorem cells8_below {W W' : World} {p0 p1 p2 p3 p4 p5 p6 p7 : Addr} {v0 v1 v2 v3 v4 v5 v6 v7 : Value} (hb : Below W.heap.size W W') (h : W.cell? p0 = some v0 ∧ W.cell? p1 = some v1 ∧ W.cell? p2 = some v2 ∧ W.cell? p3 = some v3 ∧ W.cell? p4 = some v4 ∧ W.cell? p5 = some v5 ∧ W.cell? p6 = some v6 ∧ W.cell? p7 = some v7) :
    W'.cell? p0 = some v0 ∧ W'.cell? p1 = some v1 ∧ W'.cell? p2 = some v2 ∧ W'.cell? p3 = some v3 ∧ W'.cell? p4 = some v4 ∧ W'.cell? p5 = some v5 ∧ W'.cell? p6 = some v6 ∧ W'.cell? p7 = some v7 := by
  obtain ⟨h0, h1, h2, h3, h4, h5, h6, h7⟩ := h
  have f := fun (p : Addr) (v : Value) (h : W.cell? p = some v) => (hb.cell (World.block_lt_of_cell? W p h)).trans h
  exact ⟨f _ _ h0, f _ _ h1, f _ _ h2, f _ _ h3, f _ _ h4, f _ _ h5, f _ _ h6, f _ _ h7⟩
end Go.Proofs.Ytejhakkfgfahaaa
