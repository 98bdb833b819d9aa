/- Lemmas: F3, Ac. -/
import Derived.Test.YtfemghbjngemlaaBk07
import Derived.Test.YtfemghbjngemlaaBk24
set_option linter.unusedVariables false
set_option linter.unusedSimpArgs false
/- Four points by complex floats: foursOf of the code. -/
namespace Go.Proofs.Ytfemghbjngemlaa
open Go.RowKit Go.Great
theorem wpList_store_box {ops : Array Oper} {rest : List Oper} {op : Oper} {a : Act} {w : World} {Q : Exit → Act → World → Prop} (hgd : op.guard = none) (ty : TypeId) (x y : Operand) (ho : op.op = .store ty x y)
    (b : Nat) (cs cells : Array Value) (hx : a.eval x = .pointer (some ⟨b, 0, none⟩)) (hy : a.eval y = .agg cells) (hb : Box w b ty cs) (hs : cs.size = cells.size) (hi : (Try.prog.info? ty).map (·.size) = some cells.size) (h1 : cells.all (·.oneCell') = true)
    (h : ∀ W, Box W b ty cells → Only b w W → wpList Try.prog ops Q rest (a.put op.dst undef) W) : wpList Try.prog ops Q (op :: rest) a w := by
  obtain ⟨cs', g1, g2, g3, g4⟩ := setCells_row b ty cells.toList 0 w cs hb (by simp [hs])
  have e : cs' = cells := Array.ext_getElem? fun i => by
    rw [g3 i]
    by_cases hi : i < cells.size
    · rw [if_pos (by simp; omega)]
      simp
    · rw [if_neg (by simp; omega), Array.getElem?_eq_none (by omega), Array.getElem?_eq_none (by omega)]
  subst e
  refine wpList_store_mid hgd ty x y ho b 0 cs' hx hy (fun j hj => ⟨?_, hb.free _⟩) hi h1 (h _ g1 g4)
  rw [hb.at_, Array.getElem?_eq_getElem (by omega)]
  rfl
theorem four_cells (a b c d : Value) (h : a.oneCell' = true) (h1 : b.oneCell' = true) (h2 : c.oneCell' = true) (h3 : d.oneCell' = true) : (#[a, b, c, d] : Array Value).all (·.oneCell') = true := by
  rw [Array.all_eq_true_iff_forall_mem]
  intro v hv
  simp at hv
  rcases hv with rfl | rfl | rfl | rfl <;> assumption
def cosI (q : Nat) : Int := if q = 0 then 1 else if q = 2 then -1 else 0
def sinI (q : Nat) : Int := if q = 1 then 1 else if q = 3 then -1 else 0
def cosB (q : Nat) : Nat := if q = 0 then 4607182418800017408 else if q = 2 then 13830554455654793216 else 0
def sinB (q : Nat) : Nat := if q = 1 then 4607182418800017408 else if q = 3 then 13830554455654793216 else 0
theorem cos_whole (q : Nat) : Whole (cosB q) (cosI q) := by
  unfold cosB cosI
  by_cases h0 : q = 0
  · rw [if_pos h0, if_pos h0]; exact whole_one
  · rw [if_neg h0, if_neg h0]
    by_cases h2 : q = 2
    · rw [if_pos h2, if_pos h2]; exact whole_minus
    · rw [if_neg h2, if_neg h2]; exact whole_zero
theorem sin_whole (q : Nat) : Whole (sinB q) (sinI q) := by
  unfold sinB sinI
  by_cases h0 : q = 1
  · rw [if_pos h0, if_pos h0]; exact whole_one
  · rw [if_neg h0, if_neg h0]
    by_cases h2 : q = 3
    · rw [if_pos h2, if_pos h2]; exact whole_minus
    · rw [if_neg h2, if_neg h2]; exact whole_zero
/-- A number times a power of i. -/
def itm (x : Gau) (q : Nat) : Gau := ⟨x.re * cosI q - x.im * sinI q, x.re * sinI q + x.im * cosI q⟩
theorem unit4 {q : Nat} (h : q < 4) : (cosI q = 1 ∧ sinI q = 0) ∨ (cosI q = 0 ∧ sinI q = 1) ∨ (cosI q = -1 ∧ sinI q = 0) ∨ (cosI q = 0 ∧ sinI q = -1) := by
  obtain rfl | rfl | rfl | rfl : q = 0 ∨ q = 1 ∨ q = 2 ∨ q = 3 := by omega
  all_goals decide
theorem itm_within {x : Gau} {M : Int} {q : Nat} (hq : q < 4) (h : x.Within M) : (itm x q).Within M := by
  obtain ⟨h1, h2⟩ := h
  unfold itm
  rcases unit4 hq with ⟨e1, e2⟩ | ⟨e1, e2⟩ | ⟨e1, e2⟩ | ⟨e1, e2⟩ <;> rw [e1, e2] <;> constructor <;> (simp only; omega)
/-- The sum of the first numbers, each one turned by so many quarters. -/
def fTo (X : Nat → Gau) (s : Int) (k : Nat) : Nat → Gau
  | 0 => Gau.zero
  | n + 1 => ⟨(fTo X s k n).re + (itm (X n) ((s * (k : Int) * (n : Int)) % 4).toNat).re, (fTo X s k n).im + (itm (X n) ((s * (k : Int) * (n : Int)) % 4).toNat).im⟩
def fF (X : Nat → Gau) (s : Int) (k : Nat) : Gau := fTo X s k 4
theorem fTo_within {X : Nat → Gau} {s : Int} {k : Nat} {M : Int} : ∀ {n : Nat}, (∀ i, i < n → (X i).Within M) → (fTo X s k n).Within (n * M)
  | 0, _ => by
    show Gau.zero.Within ((0 : Nat) * M)
    simp only [Int.natCast_zero, Int.zero_mul]
    exact ⟨by decide, by decide⟩
  | n + 1, h => by
    have h1 := fTo_within (s := s) (k := k) (n := n) fun i hi => h i (by omega)
    have h2 := itm_within (q := ((s * (k : Int) * (n : Int)) % 4).toNat) (by omega) (h n (Nat.lt_succ_self n))
    have e : (((n + 1 : Nat)) : Int) * M = n * M + M := by rw [Int.natCast_succ, Int.add_mul, Int.one_mul]
    rw [e]
    obtain ⟨a1, a2⟩ := h1
    obtain ⟨b1, b2⟩ := h2
    constructor
    · show -(n * M + M) ≤ (fTo X s k n).re + _ ∧ (fTo X s k n).re + _ ≤ n * M + M
      omega
    · show -(n * M + M) ≤ (fTo X s k n).im + _ ∧ (fTo X s k n).im + _ ≤ n * M + M
      omega
theorem abs_lt {a M : Int} (h : -M ≤ a ∧ a ≤ M) (hM : M < 9007199254740992) : a.natAbs < 2 ^ 53 := by
  have e : (2 : Nat) ^ 53 = 9007199254740992 := by decide
  rw [e]
  omega
/-- A product by a power of i, in floats. -/
theorem itm_floats {x : Gau} {q : Nat} (hq : q < 4) (hx : x.Within 1000000000) : ∃ u v, cMulBits (floatOfInt .f64 x.re) (floatOfInt .f64 x.im) (cosB q) (sinB q) = some (u, v) ∧ Whole u (itm x q).re ∧ Whole v (itm x q).im := by
  obtain ⟨h1, h2⟩ := hx
  have w1 := whole_ofInt (n := x.re) (abs_lt h1 (by decide))
  have w2 := whole_ofInt (n := x.im) (abs_lt h2 (by decide))
  refine whole_cmul w1 w2 (cos_whole q) (sin_whole q) ?_ ?_ ?_ ?_ ?_ ?_
  all_goals (rcases unit4 hq with ⟨e1, e2⟩ | ⟨e1, e2⟩ | ⟨e1, e2⟩ | ⟨e1, e2⟩ <;> (simp only [e1, e2]; refine abs_lt (M := 2000000000) ?_ (by decide); omega))
theorem power_cell (q : Nat) (hq : q < 4) : (#[.complex .f64 4607182418800017408 0, .complex .f64 0 4607182418800017408, .complex .f64 13830554455654793216 0, .complex .f64 0 13830554455654793216] : Array Value)[q]? = some (.complex .f64 (cosB q) (sinB q)) := by
  obtain rfl | rfl | rfl | rfl : q = 0 ∨ q = 1 ∨ q = 2 ∨ q = 3 := by omega
  all_goals rfl
set_option maxHeartbeats 8000000 in
set_option maxRecDepth 100000 in
theorem foursOf_any (X : Nat → Gau) (s : Int) (hst : -1 ≤ s ∧ s ≤ 1) (hX : ∀ n, n < 4 → (X n).Within 1000000000) (w : World) :
    Calls Try.prog 59 #[.agg (arrG4 X), .int .i64 s] w fun e w' => e = .returned (.agg (arrG4 (fF X s))) ∧ Below w.heap.size w w' := by
  have HX := hide hX
  have HMO := hide (fun (e : Int) W => modulo_any e 4 W (by decide) (by decide))
  have HFT := hide (fun k n (hn : n ≤ 4) => (fTo_within (X := X) (s := s) (k := k) (n := n) fun i hi => hX i (by omega)).more (N := 4000000000) (by omega))
  clear hX
  obtain ⟨Y, hY⟩ : ∃ z, fF X s = z := ⟨_, rfl⟩
  rw [hY]
  have HY := hide (fun k => (show fTo X s k 4 = Y k by rw [← hY]; rfl))
  clear hY
  go_enter Try.func59, Try.ntmps59
  go_upto_region 1 with (first
    | (refine wpList_boxTo rfl 45 (.tmp 0) rfl _ rfl w.heap.size rfl (arrG4 X) rfl ?_; obtain ⟨W0, hW0⟩ : ∃ q : World, w.alloc (.cells (arrG4 X) 45) = q := ⟨_, rfl⟩; rw [hW0])
    | (refine wpList_allocTo rfl (some 4) rfl (.pointer (some ⟨W0.heap.size, 0, none⟩)) (.cells (arrG4 fun _ => Gau.zero) 45) (by kernel_rfl) ?_))
  have x0 : ArrG4 W0 w.heap.size X := by rw [← hW0]; exact ArrG4.at_alloc w _ _ rfl
  have hB0 : Below w.heap.size w W0 := by rw [← hW0]; (repeat (first | (with_reducible exact Below.refl _ _) | (with_reducible refine Go.below_drewN ?_ _) | (with_reducible refine Below.drew ?_) | (with_reducible refine Below.alloc ?_ (by first | exact Nat.le_refl _ | (simp; done) | (simp; omega) | omega) _) | (with_reducible refine Below.setCell ?_ (by first | exact Nat.le_refl _ | (simp; done) | (simp; omega) | omega) _)))
  have hs0 : w.heap.size < W0.heap.size := by rw [← hW0]; simp
  clear hW0
  obtain ⟨b0, hb0⟩ : ∃ g, w.heap.size = g := ⟨_, rfl⟩
  obtain ⟨b1, hb1⟩ : ∃ g, W0.heap.size = g := ⟨_, rfl⟩
  obtain ⟨W1, hW1⟩ : ∃ q : World, q = W0.alloc (.cells (arrG4 fun _ => Gau.zero) 45) := ⟨_, rfl⟩
  rw [← hW1]
  have r1 : ArrG4 W1 b1 (fun _ => Gau.zero) := by rw [hW1]; exact ArrG4.at_alloc W0 _ _ hb1.symm
  have x1 : ArrG4 W1 b0 X := by rw [hW1, ← hb0]; exact x0.alloc _
  have hB1 : Below b0 w W1 := by rw [hW1, ← hb0]; exact hB0.alloc hB0.size _
  have hs1 : b1 < W1.heap.size := by rw [hW1, ← hb1]; simp
  have h01 : b0 ≠ b1 := by omega
  have h01' : b0 ≤ b1 := by omega
  have HW0 := hide hb0
  simp only [hb0, hb1]
  clear hW1 x0 hB0 hs0
  obtain ⟨b5, hb5⟩ : ∃ g, W1.heap.size = g := ⟨_, rfl⟩
  go_upto_region 2 with (first
    | (refine wpList_store_box rfl 130 (.tmp 5) (.tmp 11) rfl b5 #[.complex .f64 0 0, .complex .f64 0 0, .complex .f64 0 0, .complex .f64 0 0] #[.complex .f64 4607182418800017408 0, .complex .f64 0 4607182418800017408, .complex .f64 13830554455654793216 0, .complex .f64 0 13830554455654793216] rfl rfl (Box.made hb5.symm) rfl (by kernel_rfl) (four_cells _ _ _ _ rfl rfl rfl rfl) ?_; intro W2 p2 o2)
    | (refine wpList_allocTo rfl (some 5) rfl (.pointer (some ⟨b5, 0, none⟩)) (.cells #[.complex .f64 0 0, .complex .f64 0 0, .complex .f64 0 0, .complex .f64 0 0] 130) (by rw [← hb5]; kernel_rfl) ?_))
  have hc2 : Below W1.heap.size W1 W2 := ((Below.refl _ _).alloc (Nat.le_refl _) _).trans (o2.to_below (by omega) (by simp))
  have r2 := r1.below hc2
  have x2 := x1.below hc2
  have hB2 : Below b0 w W2 := hB1.trans (hc2.mono (by omega))
  clear hc2 o2 r1 x1 hB1
  go_upto_region 3 with (refine wpList_allocTo rfl (some 6) rfl (.pointer (some ⟨W2.heap.size, 0, none⟩)) (.cells (arrG4 fun _ => Gau.zero) 45) (by kernel_rfl) ?_)
  obtain ⟨b6, hb6⟩ : ∃ g, W2.heap.size = g := ⟨_, rfl⟩
  obtain ⟨W3, hW3⟩ : ∃ q : World, q = W2.alloc (.cells (arrG4 fun _ => Gau.zero) 45) := ⟨_, rfl⟩
  rw [← hW3]
  have a3 : ArrG4 W3 b6 (fun _ => Gau.zero) := by rw [hW3]; exact ArrG4.at_alloc W2 _ _ hb6.symm
  have p3 : Box W3 b5 130 #[.complex .f64 4607182418800017408 0, .complex .f64 0 4607182418800017408, .complex .f64 13830554455654793216 0, .complex .f64 0 13830554455654793216] := by rw [hW3]; exact p2.alloc _
  have r3 : ArrG4 W3 b1 (fun _ => Gau.zero) := by rw [hW3]; exact r2.alloc _
  have x3 : ArrG4 W3 b0 X := by rw [hW3]; exact x2.alloc _
  have hB3 : Below b0 w W3 := by rw [hW3]; exact hB2.alloc (by have := x2.lt; omega) _
  have h06 : b0 ≤ b6 := by have := x2.lt; omega
  have h16 : b1 ≠ b6 := by have := r2.lt; omega
  have hn06 : b0 ≠ b6 := by have := x2.lt; omega
  have h56 : b5 ≠ b6 := by have := p2.lt; omega
  simp only [hb6]
  clear hW3 p2 r2 x2 hB2 hs1 hb5 hb6
  go_wp2_with fail
  go_loopw [8, 12] (fun z i wr => ∃ k : Nat, k ≤ 4 ∧ i = .int .i64 (k : Int) ∧ ArrG4 wr b1 (fun _ => Gau.zero) ∧ ArrG4 wr b0 X ∧ Box wr b5 130 #[.complex .f64 4607182418800017408 0, .complex .f64 0 4607182418800017408, .complex .f64 13830554455654793216 0, .complex .f64 0 13830554455654793216] ∧ ArrG4 wr b6 (fun q => if q < k then Y q else Gau.zero) ∧ Below b0 w wr) (fun _ i _ => 4 - (Go.RowKit.intOf i).toNat)
  case atStart => exact ⟨0, by decide, rfl, r3, x3, p3, a3.congr fun q _ => by rw [if_neg (Nat.not_lt_zero q)], hB3⟩
  case round =>
    clear r3 x3 p3 a3 hB3
    obtain ⟨k, hk, rfl, hZ, hXA, hP, hA, hB⟩ := hrel
    obtain ⟨wA, rfl⟩ : ∃ q : World, q = wr := ⟨_, rfl⟩
    by_cases hk4 : k < 4
    · have hk4z : (k : Int) < 4 := by omega
      obtain ⟨E, hE⟩ : ∃ E : Nat → Gau, E = fun q => if q < k then Y q else Gau.zero := ⟨_, rfl⟩
      have HPU := hide (show ∀ q, q < 4 → setG4 E k (Y k) q = if q < k + 1 then Y q else Gau.zero from fun q _ => by
        show (if q = k then _ else E q) = _
        by_cases e : q = k
        · subst e; rw [if_pos rfl, if_pos (by omega)]
        · rw [if_neg e, hE]
          show (if q < k then _ else Gau.zero) = _
          by_cases e2 : q < k
          · rw [if_pos e2, if_pos (by omega)]
          · rw [if_neg e2, if_neg (by omega)])
      rw [← hE] at hA
      clear hE
      have HXA := hide hXA
      go_wp2_with (refine wpList_loadG4 rfl (.tmp 2) rfl b0 X rfl HXA.out ?_)
      clear HXA
      go_loopw [8, 16] (fun z x wr => ∃ (n : Nat) (u v : Nat), n ≤ 4 ∧ x = .int .i64 (n : Int) ∧ z = .complex .f64 u v ∧ Whole u (fTo X s k n).re ∧ Whole v (fTo X s k n).im ∧ ArrG4 wr b1 (fun _ => Gau.zero) ∧ ArrG4 wr b0 X ∧ Box wr b5 130 #[.complex .f64 4607182418800017408 0, .complex .f64 0 4607182418800017408, .complex .f64 13830554455654793216 0, .complex .f64 0 13830554455654793216] ∧ ArrG4 wr b6 E ∧ Below b0 w wr) (fun _ x _ => 4 - (Go.RowKit.intOf x).toNat)
      case atStart => exact ⟨0, 0, 0, Nat.zero_le _, rfl, rfl, whole_zero, whole_zero, hZ, hXA, hP, hA, hB⟩
      case round =>
        clear hZ hXA hP hA hB
        obtain ⟨n, u, v, hn, rfl, rfl, hu, hv, hZ, hXA, hP, hA, hB⟩ := hrel
        obtain ⟨wB, rfl⟩ : ∃ q : World, q = wr := ⟨_, rfl⟩
        have HU := hide hu
        have HV := hide hv
        clear hu hv
        by_cases hn4 : n < 4
        · have hn4z : (n : Int) < 4 := by omega
          have hr1 := mul_within (M := 1) (N := 3) (a := s) (b := (k : Int)) hst (by omega)
          have q1 : IntKind.i64.wrap (s * (k : Int)) = s * (k : Int) := IntWalk.i64_in _ (by omega)
          have hr := mul_within (M := 3) (N := 3) (a := s * (k : Int)) (b := (n : Int)) (by omega) (by omega)
          have HTO := hide (show fTo X s k (n + 1) = ⟨(fTo X s k n).re + (itm (X n) ((s * (k : Int) * (n : Int)) % 4).toNat).re, (fTo X s k n).im + (itm (X n) ((s * (k : Int) * (n : Int)) % 4).toNat).im⟩ from rfl)
          obtain ⟨e, he⟩ : ∃ e, s * (k : Int) * (n : Int) = e := ⟨_, rfl⟩
          rw [he] at hr HTO
          have q2 : IntKind.i64.wrap (s * (k : Int) * (n : Int)) = e := by rw [he]; exact IntWalk.i64_in _ (by omega)
          have HME := hide (fun W => HMO.out e W)
          obtain ⟨q, hq⟩ : ∃ q : Nat, (q : Int) = e % 4 := ⟨(e % 4).toNat, by omega⟩
          have hq4 : q < 4 := by omega
          have hq4z : (q : Int) < 4 := by omega
          rw [show ((4 : Nat) : Int) = 4 from rfl] at HME
          rw [← hq] at HTO HME
          rw [show ((q : Int)).toNat = q from rfl] at HTO
          have hxw := HX.out n hn4
          obtain ⟨x, hx⟩ : ∃ z, X n = z := ⟨_, rfl⟩
          rw [hx] at hxw HTO
          obtain ⟨mu, mv, hm, hmu, hmv⟩ := itm_floats hq4 hxw
          have hb1 := HFT.out k n (by omega)
          have hb2 := itm_within hq4 hxw
          obtain ⟨su, sv, hs2, hsu, hsv⟩ := whole_csum HU.out HV.out hmu hmv (abs_lt (M := 5000000000) (by have := hb1.re; have := hb2.re; omega) (by decide)) (abs_lt (M := 5000000000) (by have := hb1.im; have := hb2.im; omega) (by decide))
          have HSU := hide (show Whole su (fTo X s k (n + 1)).re by rw [HTO.out]; exact hsu)
          have HSV := hide (show Whole sv (fTo X s k (n + 1)).im by rw [HTO.out]; exact hsv)
          have HMUL := hide (fun W => run_complex_mul (P := Try.prog) W 129 _ _ _ _ _ _ hm)
          have HADD := hide (fun W => run_complex_sum (P := Try.prog) W .add (.inl rfl) 129 .f64 _ _ _ _ _ _ hs2)
          clear hr hr1 he hb1 hb2 hmu hmv hsu hsv hm hs2 HTO hxw hq HU HV
          go_upto_region 10 with (refine wpList_indexG4 rfl (.tmp 15) (.tmp 16) rfl X n rfl rfl hn4 ?_)
          try simp only [hx]
          obtain ⟨xr, hxr⟩ : ∃ z, x.re = z := ⟨_, rfl⟩
          obtain ⟨xi, hxi⟩ : ∃ z, x.im = z := ⟨_, rfl⟩
          simp only [hxr, hxi] at HMUL
          try simp only [hxr, hxi]
          clear hxr hxi hx
          obtain ⟨W5, hW5⟩ : ∃ q : World, q = wB.alloc (.cells #[.int .i64 xr, .int .i64 xi] 23) := ⟨_, rfl⟩
          rw [← hW5]
          obtain ⟨g10, hg10⟩ : ∃ g, wB.heap.size = g := ⟨_, rfl⟩
          have bx : Box W5 g10 23 #[.int .i64 xr, .int .i64 xi] := by rw [hW5]; exact Box.made hg10.symm
          have HZ5 := hide (show ArrG4 W5 b1 (fun _ => Gau.zero) by rw [hW5]; exact hZ.alloc _)
          have HX5 := hide (show ArrG4 W5 b0 X by rw [hW5]; exact hXA.alloc _)
          have HP5 := hide (show Box W5 b5 130 #[.complex .f64 4607182418800017408 0, .complex .f64 0 4607182418800017408, .complex .f64 13830554455654793216 0, .complex .f64 0 13830554455654793216] by rw [hW5]; exact hP.alloc _)
          have HA5 := hide (show ArrG4 W5 b6 E by rw [hW5]; exact hA.alloc _)
          have hB5 : Below b0 w W5 := by rw [hW5]; exact hB.alloc (by have := hXA.lt; omega) _
          try simp only [hg10]
          clear hW5 hZ hXA hP hA hB hg10
          have e0 := bx.at_ 0
          have e1 := bx.at_ 1
          simp only [List.getElem?_toArray] at e0 e1
          have pq : W5.cell? ⟨b5, q, none⟩ = some (.complex .f64 (cosB q) (sinB q)) := (HP5.out.at_ q).trans (power_cell q hq4)
          obtain ⟨cb, hcb⟩ : ∃ z, cosB q = z := ⟨_, rfl⟩
          obtain ⟨sb, hsb⟩ : ∃ z, sinB q = z := ⟨_, rfl⟩
          simp only [hcb, hsb] at HMUL pq
          clear hcb hsb
          obtain ⟨fr, hfr⟩ : ∃ z, floatOfInt .f64 xr = z := ⟨_, rfl⟩
          obtain ⟨fi, hfi⟩ : ∃ z, floatOfInt .f64 xi = z := ⟨_, rfl⟩
          simp only [hfr, hfi] at HMUL
          refine wp_region_held_drew (S := fun w' => w'.cell? ⟨g10, 0, none⟩ = some (.int .i64 xr) ∧ w'.cell? ⟨g10, 1, none⟩ = some (.int .i64 xi) ∧ w'.cell? ⟨b5, q, none⟩ = some (.complex .f64 cb sb)) (by kernel_rfl) ⟨e0, e1, pq⟩ (fun hHeld => ?_)
          refine wpAnyH_take (i := 0) (oi := ⟨some 20, _, _, _, _, _⟩) (v := ?_) rfl (by kernel_rfl) (by kernel_rfl) (by kernel_rfl) (fun _ _ _ h => h) (Or.inl ⟨by rfl, ?_⟩) (by assumption) ?_
          rotate_left
          · (intro w' hSw; (try dsimp only at hSw); go_simp <;> (with_reducible rfl))
          try simp only [Act.put, List.setIfInBounds_toArray, List.set_cons_zero, List.set_cons_succ]
          refine wpAnyH_take (i := 1) (oi := ⟨some 21, _, _, _, _, _⟩) (v := ?_) rfl (by kernel_rfl) (by kernel_rfl) (by kernel_rfl) (fun _ _ _ h => h) (Or.inl ⟨by rfl, ?_⟩) (by assumption) ?_
          rotate_left
          · (intro w' hSw; (try dsimp only at hSw); go_simp <;> (with_reducible rfl))
          try simp only [Act.put, List.setIfInBounds_toArray, List.set_cons_zero, List.set_cons_succ]
          refine wpAnyH_take (i := 2) (oi := ⟨some 22, _, _, _, _, _⟩) (v := ?_) rfl (by kernel_rfl) (by kernel_rfl) (by kernel_rfl) (fun _ _ _ h => h) (Or.inl ⟨by rfl, ?_⟩) (by assumption) ?_
          rotate_left
          · (intro w' hSw; (try dsimp only at hSw); go_simp <;> (with_reducible rfl))
          try simp only [Act.put, List.setIfInBounds_toArray, List.set_cons_zero, List.set_cons_succ]
          refine wpAnyH_take (i := 3) (oi := ⟨some 23, _, _, _, _, _⟩) (v := ?_) rfl (by kernel_rfl) (by kernel_rfl) (by kernel_rfl) (fun _ _ _ h => h) (Or.inl ⟨by rfl, ?_⟩) (by assumption) ?_
          rotate_left
          · (intro w' hSw; (try dsimp only at hSw); go_simp <;> (with_reducible rfl))
          try simp only [Act.put, List.setIfInBounds_toArray, List.set_cons_zero, List.set_cons_succ]
          refine wpAnyH_take (i := 4) (oi := ⟨some 24, _, _, _, _, _⟩) (v := ?_) rfl (by kernel_rfl) (by kernel_rfl) (by kernel_rfl) (fun _ _ _ h => h) (Or.inl ⟨by rfl, ?_⟩) (by assumption) ?_
          rotate_left
          · (intro w' hSw; (try dsimp only at hSw); go_simp <;> (with_reducible rfl))
          try simp only [Act.put, List.setIfInBounds_toArray, List.set_cons_zero, List.set_cons_succ]
          refine wpAnyH_take (i := 5) (oi := ⟨some 25, _, _, _, _, _⟩) (v := ?_) rfl (by kernel_rfl) (by kernel_rfl) (by kernel_rfl) (fun _ _ _ h => h) (Or.inl ⟨by rfl, ?_⟩) (by assumption) ?_
          rotate_left
          · (intro w' hSw; (try dsimp only at hSw); go_simp <;> (with_reducible rfl))
          try simp only [Act.put, List.setIfInBounds_toArray, List.set_cons_zero, List.set_cons_succ]
          refine wpAnyH_take (i := 6) (oi := ⟨some 26, _, _, _, _, _⟩) (v := ?_) rfl (by kernel_rfl) (by kernel_rfl) (by kernel_rfl) (fun _ _ _ h => h) (Or.inl ⟨by rfl, ?_⟩) (by assumption) ?_
          rotate_left
          · (intro w' hSw; (try dsimp only at hSw); go_simp <;> (with_reducible rfl))
          try simp only [Act.put, List.setIfInBounds_toArray, List.set_cons_zero, List.set_cons_succ]
          refine wpAnyH_take (i := 7) (oi := ⟨some 27, _, _, _, _, _⟩) (v := ?_) rfl (by kernel_rfl) (by kernel_rfl) (by kernel_rfl) (fun _ _ _ h => h) (Or.inl ⟨by rfl, ?_⟩) (by assumption) ?_
          rotate_left
          · (intro w' hSw; (try dsimp only at hSw); go_simp <;> (with_reducible rfl))
          try simp only [Act.put, List.setIfInBounds_toArray, List.set_cons_zero, List.set_cons_succ]
          refine wpAnyH_take (i := 8) (oi := ⟨some 28, _, _, _, _, _⟩) (v := ?_) rfl (by kernel_rfl) (by kernel_rfl) (by kernel_rfl) (fun _ _ _ h => h) (Or.inl ⟨by rfl, ?_⟩) (by assumption) ?_
          rotate_left
          · (intro w' hSw; (try dsimp only at hSw); go_simp <;> (with_reducible rfl))
          try simp only [Act.put, List.setIfInBounds_toArray, List.set_cons_zero, List.set_cons_succ]
          refine wpAnyH_take (i := 9) (oi := ⟨some 29, _, _, _, _, _⟩) (v := ?_) rfl (by kernel_rfl) (by kernel_rfl) (by kernel_rfl) (fun _ _ _ h => h) (Or.inl ⟨by rfl, ?_⟩) (by assumption) ?_
          rotate_left
          · (intro w' hSw; (try dsimp only at hSw); go_simp <;> (with_reducible rfl))
          try simp only [Act.put, List.setIfInBounds_toArray, List.set_cons_zero, List.set_cons_succ]
          refine wpAnyH_take (i := 10) (oi := ⟨some 30, _, _, _, _, _⟩) (v := ?_) rfl (by kernel_rfl) (by kernel_rfl) (by kernel_rfl) (fun _ _ _ h => h) (Or.inl ⟨by rfl, ?_⟩) (by assumption) ?_
          rotate_left
          · (intro w' hSw; (try dsimp only at hSw); go_simp <;> (with_reducible rfl))
          try simp only [Act.put, List.setIfInBounds_toArray, List.set_cons_zero, List.set_cons_succ]
          refine wpAnyH_take (i := 11) (oi := ⟨some 31, _, _, _, _, _⟩) (v := ?_) rfl (by kernel_rfl) (by kernel_rfl) (by kernel_rfl) (fun _ _ _ h => h) (Or.inl ⟨by rfl, ?_⟩) (by assumption) ?_
          rotate_left
          · (intro w' hSw; (try dsimp only at hSw); go_simp <;> (with_reducible rfl))
          try simp only [Act.put, List.setIfInBounds_toArray, List.set_cons_zero, List.set_cons_succ]
          refine wpAnyH_take (i := 12) (oi := ⟨some 32, _, _, _, _, _⟩) (v := ?_) rfl (by kernel_rfl) (by kernel_rfl) (by kernel_rfl) (fun _ _ _ h => h) (Or.inl ⟨by rfl, ?_⟩) (by assumption) ?_
          rotate_left
          · (intro w' hSw; (try dsimp only at hSw); go_simp <;> (with_reducible rfl))
          try simp only [Act.put, List.setIfInBounds_toArray, List.set_cons_zero, List.set_cons_succ]
          refine wpAnyH_ready (rs := [13]) (by kernel_rfl) (by simp) ?_
          refine AllReadyH.cons (o := ⟨some 33, _, _, _, _, _⟩) rfl (fun K' hK => ?_) AllReadyH.nil
          go_simp
          go_at_call 88
          refine (HME.out _).mono ?_
          rintro e' w' ⟨rfl, rfl⟩
          go_wp2_with fail
          refine hK.out _ _ ⟨e0, e1, pq⟩ (fun hHeld => ?_)
          clear hK K'
          try simp only [Act.put, List.setIfInBounds_toArray, List.set_cons_zero, List.set_cons_succ]
          refine wpAnyH_take (i := 14) (oi := ⟨some 34, _, _, _, _, _⟩) (v := ?_) rfl (by kernel_rfl) (by kernel_rfl) (by kernel_rfl) (fun _ _ _ h => h) (Or.inl ⟨by rfl, ?_⟩) (by assumption) ?_
          rotate_left
          · (intro w' hSw; (try dsimp only at hSw); go_simp <;> (with_reducible rfl))
          try simp only [Act.put, List.setIfInBounds_toArray, List.set_cons_zero, List.set_cons_succ]
          refine wpAnyH_take (i := 15) (oi := ⟨some 35, _, _, _, _, _⟩) (v := ?_) rfl (by kernel_rfl) (by kernel_rfl) (by kernel_rfl) (fun _ _ _ h => h) (Or.inl ⟨by rfl, ?_⟩) (by assumption) ?_
          rotate_left
          · (intro w' hSw; (try dsimp only at hSw); go_simp <;> (with_reducible rfl))
          try simp only [Act.put, List.setIfInBounds_toArray, List.set_cons_zero, List.set_cons_succ]
          refine wpAnyH_take (i := 16) (oi := ⟨some 36, _, _, _, _, _⟩) (v := (.complex .f64 mu mv)) rfl (by kernel_rfl) (by kernel_rfl) (by kernel_rfl) (fun _ _ _ h => h) (Or.inl ⟨by rfl, fun w' hSw => by go_simp; simp [HMUL.out]⟩) (by assumption) ?_
          try simp only [Act.put, List.setIfInBounds_toArray, List.set_cons_zero, List.set_cons_succ]
          refine wpAnyH_take (i := 17) (oi := ⟨some 37, _, _, _, _, _⟩) (v := (.complex .f64 su sv)) rfl (by kernel_rfl) (by kernel_rfl) (by kernel_rfl) (fun _ _ _ h => h) (Or.inl ⟨by rfl, fun w' hSw => by go_simp; simp [HADD.out]⟩) (by assumption) ?_
          try simp only [Act.put, List.setIfInBounds_toArray, List.set_cons_zero, List.set_cons_succ]
          refine wpAnyH_take (i := 18) (oi := ⟨some 8, _, _, _, _, _⟩) (v := ?_) rfl (by kernel_rfl) (by kernel_rfl) (by kernel_rfl) (fun _ _ _ h => h) (Or.inl ⟨by rfl, ?_⟩) (by assumption) ?_
          rotate_left
          · (intro w' hSw; (try dsimp only at hSw); go_simp <;> (with_reducible rfl))
          try simp only [Act.put, List.setIfInBounds_toArray, List.set_cons_zero, List.set_cons_succ]
          refine wpAnyH_done (by kernel_rfl) ?_ _
          go_wp2_with fail
          go_roundw
          case rel => exact ⟨n + 1, su, sv, by omega, by go_num, rfl, HSU.out, HSV.out, HZ5.out, HX5.out, HP5.out, HA5.out, hB5.drew⟩
          case measure => simp [Go.RowKit.intOf]; omega
        · obtain rfl : n = 4 := by omega
          have hfb := HFT.out k 4 (by decide)
          have HUY := HU.out
          have HVY := HV.out
          rw [HY.out k] at hfb HUY HVY
          have c1 := whole_toInt HUY (abs_lt hfb.re (by decide))
          have c2 := whole_toInt HVY (abs_lt hfb.im (by decide))
          have HC1 := hide (fun W => run_convert_float_int (P := Try.prog) W 131 3 .f64 .i64 u (Y k).re rfl Try.underlying3 c1)
          have HC2 := hide (fun W => run_convert_float_int (P := Try.prog) W 131 3 .f64 .i64 v (Y k).im rfl Try.underlying3 c2)
          obtain ⟨y, hy⟩ : ∃ z, Y k = z := ⟨_, rfl⟩
          simp only [hy] at HC1 HC2 HPU
          clear hfb HUY HVY c1 c2 HU HV hy
          have c1 := HC1.out
          have c2 := HC2.out
          obtain ⟨z0, z1⟩ := hA.cells hk4
          obtain ⟨f0, f1⟩ := hA.frozen2 k
          have HA2 := hide (hA.put k y)
          have HZ2 := hide (hZ.other (c := b6) (o := k * 2) h16 (.int .i64 y.re) (.int .i64 y.im))
          have HX2 := hide (hXA.other (c := b6) (o := k * 2) hn06 (.int .i64 y.re) (.int .i64 y.im))
          have HP2 := hide ((hP.other (p := ⟨b6, k * 2, none⟩) h56 (.int .i64 y.re)).other (p := ⟨b6, k * 2 + 1, none⟩) h56 (.int .i64 y.im))
          have HL2 := hide ((hB.setCell (p := ⟨b6, k * 2, none⟩) h06 (.int .i64 y.re)).setCell (p := ⟨b6, k * 2 + 1, none⟩) h06 (.int .i64 y.im))
          go_wp2_with fail
          go_roundw
          case rel => exact ⟨k + 1, by omega, by go_num, HZ2.out, HX2.out, HP2.out, HA2.out.congr HPU.out, HL2.out⟩
          case measure => simp [Go.RowKit.intOf]; omega
    · obtain rfl : k = 4 := by omega
      have HZ := hide hZ
      have HA := hide (hA.congr (G := Y) fun q hq => if_pos hq)
      have hlt := hXA.lt
      go_wp2_with (first | (refine wpList_storeG4 rfl (.tmp 4) (.tmp 49) rfl b1 (fun _ => Gau.zero) Y rfl rfl HZ.out ?_; intro W9 r9 o9) | (refine wpList_loadG4 rfl (.tmp 6) rfl b6 Y rfl HA.out ?_))
      refine bodyPost_ret (v := .agg (arrG4 Y)) (result1G4 rfl _ rfl r9) rfl ⟨rfl, ?_⟩
      rw [HW0.out]
      exact hB.trans (o9.to_below h01' (by omega))
end Go.Proofs.Ytfemghbjngemlaa
/- No energy is lost (without a walk): the squares of the samples come to eight times those of the entries. -/
namespace Go.Proofs.Ytfemghbjngemlaa
open Go.RowKit
theorem conj_add (x y : Num) : (x.add y).conj = x.conj.add y.conj := by apply Num.same <;> (simp [Num.add, Num.conj]; try omega)
theorem conj_turn (x : Num) : x.turn.conj = x.conj.turns 7 := by
  obtain ⟨a, b, c, d⟩ := x
  apply Num.same <;> simp [Num.conj, Num.turns, Num.turn]
theorem conj_turns (x : Num) : ∀ k, (x.turns k).conj = x.conj.turns (7 * k)
  | 0 => rfl
  | k + 1 => by
    show (x.turns k).turn.conj = _
    rw [conj_turn, conj_turns x k, turns_add]
    rfl
theorem conj_tz (x : Num) (k : Int) : (tz x k).conj = tz x.conj (-k) := by
  unfold tz
  rw [conj_turns, turns_mod]
  congr 1
  omega
theorem conj_zero : Num.zero.conj = Num.zero := rfl
theorem conj_sumF (F : Nat → Num) : ∀ n, (sumF F n).conj = sumF (fun i => (F i).conj) n
  | 0 => conj_zero
  | n + 1 => by
    show ((sumF F n).add (F n)).conj = _
    rw [conj_add, conj_sumF F n]
    rfl
theorem sumF_real (p q : Nat → Int) : ∀ n, sumF (fun i => realN (p i) (q i)) n = realN (sumI p n) (sumI q n)
  | 0 => rfl
  | n + 1 => by
    show (sumF (fun i => realN (p i) (q i)) n).add (realN (p n) (q n)) = _
    rw [sumF_real p q n]
    show _ = realN (sumI p n + p n) (sumI q n + q n)
    apply Num.same <;> (simp [realN, Num.add]; try omega)
theorem times_real (n p q : Int) : Num.times n (realN p q) = realN (n * p) (n * q) := by apply Num.same <;> simp [realN, Num.times, Int.mul_neg]
theorem real_inj {p q r s : Int} (h : realN p q = realN r s) : p = r ∧ q = s := by
  unfold realN at h
  injection h with h1 h2
  exact ⟨h1, h2⟩
theorem energy (E : Nat → Num) : sumF (fun n => (idft E (n : Int)).conj.prod (idft E (n : Int))) 8 = sumF (fun k => (E k).conj.prod (Num.times 8 (E k))) 8 := by
  have e : ∀ n : Nat, (idft E (n : Int)).conj.prod (idft E (n : Int)) = sumF (fun k => (E k).conj.prod (tz (idft E (n : Int)) (-((k : Int) * (n : Int))))) 8 := fun n => by
    have e1 : (idft E (n : Int)).conj = sumF (fun k => tz (E k).conj (-((k : Int) * (n : Int)))) 8 := by
      unfold idft
      rw [conj_sumF]
      exact sumF_congr fun k _ => conj_tz _ _
    rw [e1, sumF_prod]
    exact sumF_congr fun k _ => by rw [tz_prod, prod_tz]
  rw [show (fun n : Nat => (idft E (n : Int)).conj.prod (idft E (n : Int))) = fun n : Nat => sumF (fun k => (E k).conj.prod (tz (idft E (n : Int)) (-((k : Int) * (n : Int))))) 8 from funext e]
  rw [sumF_swap (fun n k => (E k).conj.prod (tz (idft E (n : Int)) (-((k : Int) * (n : Int))))) 8 8]
  refine sumF_congr fun k hk => ?_
  rw [← dft_idft E k hk, ← prod_sumF]
  rfl
/-- The sums of the squares of eight samples. -/
theorem parseval (E : Nat → Num) : sumI (fun n => (idft E (n : Int)).sqP) 8 = 8 * sumI (fun k => (E k).sqP) 8 ∧ sumI (fun n => (idft E (n : Int)).sqQ) 8 = 8 * sumI (fun k => (E k).sqQ) 8 := by
  have h := energy E
  rw [show (fun n : Nat => (idft E (n : Int)).conj.prod (idft E (n : Int))) = fun n : Nat => realN (idft E (n : Int)).sqP (idft E (n : Int)).sqQ from funext fun n => conj_prod _] at h
  rw [show (fun k : Nat => (E k).conj.prod (Num.times 8 (E k))) = fun k : Nat => realN (8 * (E k).sqP) (8 * (E k).sqQ) from funext fun k => by rw [← times_prod, conj_prod, times_real]] at h
  rw [sumF_real, sumF_real] at h
  obtain ⟨h1, h2⟩ := real_inj h
  have e : ∀ (g : Nat → Int) n, sumI (fun k => 8 * g k) n = 8 * sumI g n := fun g n => by
    induction n with
    | zero => rfl
    | succ n ih =>
      show sumI (fun k => 8 * g k) n + 8 * g n = 8 * (sumI g n + g n)
      rw [ih]
      omega
  exact ⟨h1.trans (e (fun k => (E k).sqP) 8), h2.trans (e (fun k => (E k).sqQ) 8)⟩
end Go.Proofs.Ytfemghbjngemlaa
