/- Lemmas: F3, Au, An, Ap, Ao, Aq, Ar, Av, Aw. -/
import Derived.Laws.MakeOwn
import Derived.Laws.OwnMore
import Derived.OwnWalk
import Derived.Test.YtibdbopejnkefaaBk01
import Derived.Test.YtibdbopejnkefaaBk03
import Derived.Test.YtibdbopejnkefaaBk04
import Derived.Test.YtibdbopejnkefaaBk07
import Derived.Test.YtibdbopejnkefaaBk13
set_option linter.unusedVariables false
set_option linter.unusedSimpArgs false
/- Four points by complex floats: foursOf of the code. -/
namespace Go.Proofs.Ytibdbopejnkefaa
open Go.RowKit Go.Great
theorem wpList_store_box {ops : Array Oper} {rest : List Oper} {op : Oper} {a : Act} {w : World} {Q : Exit → Act → World → Prop} (hgd : op.guard = none) (ty : TypeId) (x y : Operand) (ho : op.op = .store ty x y)
    (b : Nat) (cs cells : Array Value) (hx : a.eval x = .pointer (some ⟨b, 0, none⟩)) (hy : a.eval y = .agg cells) (hb : Box w b ty cs) (hs : cs.size = cells.size) (hi : (Try.prog.info? ty).map (·.size) = some cells.size) (h1 : cells.all (·.oneCell') = true)
    (h : ∀ W, Box W b ty cells → Only b w W → wpList Try.prog ops Q rest (a.put op.dst undef) W) : wpList Try.prog ops Q (op :: rest) a w := by
  obtain ⟨cs', g1, g2, g3, g4⟩ := setCells_row b ty cells.toList 0 w cs hb (by simp [hs])
  have e : cs' = cells := Array.ext_getElem? fun i => by
    rw [g3 i]
    by_cases hi : i < cells.size
    · rw [if_pos (by simp; omega)]
      simp
    · rw [if_neg (by simp; omega), Array.getElem?_eq_none (by omega), Array.getElem?_eq_none (by omega)]
  subst e
  refine wpList_store_mid hgd ty x y ho b 0 cs' hx hy (fun j hj => ⟨?_, hb.free _⟩) hi h1 (h _ g1 g4)
  rw [hb.at_, Array.getElem?_eq_getElem (by omega)]
  rfl
theorem four_cells (a b c d : Value) (h : a.oneCell' = true) (h1 : b.oneCell' = true) (h2 : c.oneCell' = true) (h3 : d.oneCell' = true) : (#[a, b, c, d] : Array Value).all (·.oneCell') = true := by
  rw [Array.all_eq_true_iff_forall_mem]
  intro v hv
  simp at hv
  rcases hv with rfl | rfl | rfl | rfl <;> assumption
def cosI (q : Nat) : Int := if q = 0 then 1 else if q = 2 then -1 else 0
def sinI (q : Nat) : Int := if q = 1 then 1 else if q = 3 then -1 else 0
def cosB (q : Nat) : Nat := if q = 0 then 4607182418800017408 else if q = 2 then 13830554455654793216 else 0
def sinB (q : Nat) : Nat := if q = 1 then 4607182418800017408 else if q = 3 then 13830554455654793216 else 0
theorem cos_whole (q : Nat) : Whole (cosB q) (cosI q) := by
  unfold cosB cosI
  by_cases h0 : q = 0
  · rw [if_pos h0, if_pos h0]; exact whole_one
  · rw [if_neg h0, if_neg h0]
    by_cases h2 : q = 2
    · rw [if_pos h2, if_pos h2]; exact whole_minus
    · rw [if_neg h2, if_neg h2]; exact whole_zero
theorem sin_whole (q : Nat) : Whole (sinB q) (sinI q) := by
  unfold sinB sinI
  by_cases h0 : q = 1
  · rw [if_pos h0, if_pos h0]; exact whole_one
  · rw [if_neg h0, if_neg h0]
    by_cases h2 : q = 3
    · rw [if_pos h2, if_pos h2]; exact whole_minus
    · rw [if_neg h2, if_neg h2]; exact whole_zero
/-- A number times a power of i. -/
def itm (x : Gau) (q : Nat) : Gau := ⟨x.re * cosI q - x.im * sinI q, x.re * sinI q + x.im * cosI q⟩
theorem unit4 {q : Nat} (h : q < 4) : (cosI q = 1 ∧ sinI q = 0) ∨ (cosI q = 0 ∧ sinI q = 1) ∨ (cosI q = -1 ∧ sinI q = 0) ∨ (cosI q = 0 ∧ sinI q = -1) := by
  obtain rfl | rfl | rfl | rfl : q = 0 ∨ q = 1 ∨ q = 2 ∨ q = 3 := by omega
  all_goals decide
theorem itm_within {x : Gau} {M : Int} {q : Nat} (hq : q < 4) (h : x.Within M) : (itm x q).Within M := by
  obtain ⟨h1, h2⟩ := h
  unfold itm
  rcases unit4 hq with ⟨e1, e2⟩ | ⟨e1, e2⟩ | ⟨e1, e2⟩ | ⟨e1, e2⟩ <;> rw [e1, e2] <;> constructor <;> (simp only; omega)
/-- The sum of the first numbers, each one turned by so many quarters. -/
def fTo (X : Nat → Gau) (s : Int) (k : Nat) : Nat → Gau
  | 0 => Gau.zero
  | n + 1 => ⟨(fTo X s k n).re + (itm (X n) ((s * (k : Int) * (n : Int)) % 4).toNat).re, (fTo X s k n).im + (itm (X n) ((s * (k : Int) * (n : Int)) % 4).toNat).im⟩
def fF (X : Nat → Gau) (s : Int) (k : Nat) : Gau := fTo X s k 4
theorem fTo_within {X : Nat → Gau} {s : Int} {k : Nat} {M : Int} : ∀ {n : Nat}, (∀ i, i < n → (X i).Within M) → (fTo X s k n).Within (n * M)
  | 0, _ => by
    show Gau.zero.Within ((0 : Nat) * M)
    simp only [Int.natCast_zero, Int.zero_mul]
    exact ⟨by decide, by decide⟩
  | n + 1, h => by
    have h1 := fTo_within (s := s) (k := k) (n := n) fun i hi => h i (by omega)
    have h2 := itm_within (q := ((s * (k : Int) * (n : Int)) % 4).toNat) (by omega) (h n (Nat.lt_succ_self n))
    have e : (((n + 1 : Nat)) : Int) * M = n * M + M := by rw [Int.natCast_succ, Int.add_mul, Int.one_mul]
    rw [e]
    obtain ⟨a1, a2⟩ := h1
    obtain ⟨b1, b2⟩ := h2
    constructor
    · show -(n * M + M) ≤ (fTo X s k n).re + _ ∧ (fTo X s k n).re + _ ≤ n * M + M
      omega
    · show -(n * M + M) ≤ (fTo X s k n).im + _ ∧ (fTo X s k n).im + _ ≤ n * M + M
      omega
theorem abs_lt {a M : Int} (h : -M ≤ a ∧ a ≤ M) (hM : M < 9007199254740992) : a.natAbs < 2 ^ 53 := by
  have e : (2 : Nat) ^ 53 = 9007199254740992 := by decide
  rw [e]
  omega
/-- A product by a power of i, in floats. -/
theorem itm_floats {x : Gau} {q : Nat} (hq : q < 4) (hx : x.Within 1000000000) : ∃ u v, cMulBits (floatOfInt .f64 x.re) (floatOfInt .f64 x.im) (cosB q) (sinB q) = some (u, v) ∧ Whole u (itm x q).re ∧ Whole v (itm x q).im := by
  obtain ⟨h1, h2⟩ := hx
  have w1 := whole_ofInt (n := x.re) (abs_lt h1 (by decide))
  have w2 := whole_ofInt (n := x.im) (abs_lt h2 (by decide))
  refine whole_cmul w1 w2 (cos_whole q) (sin_whole q) ?_ ?_ ?_ ?_ ?_ ?_
  all_goals (rcases unit4 hq with ⟨e1, e2⟩ | ⟨e1, e2⟩ | ⟨e1, e2⟩ | ⟨e1, e2⟩ <;> (simp only [e1, e2]; refine abs_lt (M := 2000000000) ?_ (by decide); omega))
theorem power_cell (q : Nat) (hq : q < 4) : (#[.complex .f64 4607182418800017408 0, .complex .f64 0 4607182418800017408, .complex .f64 13830554455654793216 0, .complex .f64 0 13830554455654793216] : Array Value)[q]? = some (.complex .f64 (cosB q) (sinB q)) := by
  obtain rfl | rfl | rfl | rfl : q = 0 ∨ q = 1 ∨ q = 2 ∨ q = 3 := by omega
  all_goals rfl
set_option maxHeartbeats 8000000 in
set_option maxRecDepth 100000 in
theorem foursOf_any (X : Nat → Gau) (s : Int) (hst : -1 ≤ s ∧ s ≤ 1) (hX : ∀ n, n < 4 → (X n).Within 1000000000) (w : World) :
    Calls Try.prog 15 #[.agg (arrG4 X), .int .i64 s] w fun e w' => e = .returned (.agg (arrG4 (fF X s))) ∧ Below w.heap.size w w' := by
  have HX := hide hX
  have HMO := hide (fun (e : Int) W => modulo_any e 4 W (by decide) (by decide))
  have HFT := hide (fun k n (hn : n ≤ 4) => (fTo_within (X := X) (s := s) (k := k) (n := n) fun i hi => hX i (by omega)).more (N := 4000000000) (by omega))
  clear hX
  obtain ⟨Y, hY⟩ : ∃ z, fF X s = z := ⟨_, rfl⟩
  rw [hY]
  have HY := hide (fun k => (show fTo X s k 4 = Y k by rw [← hY]; rfl))
  clear hY
  go_enter Try.func15, Try.ntmps15
  go_upto_region 1 with (first
    | (refine wpList_boxTo rfl 24 (.tmp 0) rfl _ rfl w.heap.size rfl (arrG4 X) rfl ?_; obtain ⟨W0, hW0⟩ : ∃ q : World, w.alloc (.cells (arrG4 X) 24) = q := ⟨_, rfl⟩; rw [hW0])
    | (refine wpList_allocTo rfl (some 4) rfl (.pointer (some ⟨W0.heap.size, 0, none⟩)) (.cells (arrG4 fun _ => Gau.zero) 24) (by kernel_rfl) ?_))
  have x0 : ArrG4 W0 w.heap.size X := by rw [← hW0]; exact ArrG4.at_alloc w _ _ rfl
  have hB0 : Below w.heap.size w W0 := by rw [← hW0]; (repeat (first | (with_reducible exact Below.refl _ _) | (with_reducible refine Go.below_drewN ?_ _) | (with_reducible refine Below.drew ?_) | (with_reducible refine Below.alloc ?_ (by first | exact Nat.le_refl _ | (simp; done) | (simp; omega) | omega) _) | (with_reducible refine Below.setCell ?_ (by first | exact Nat.le_refl _ | (simp; done) | (simp; omega) | omega) _)))
  have hs0 : w.heap.size < W0.heap.size := by rw [← hW0]; simp
  clear hW0
  obtain ⟨b0, hb0⟩ : ∃ g, w.heap.size = g := ⟨_, rfl⟩
  obtain ⟨b1, hb1⟩ : ∃ g, W0.heap.size = g := ⟨_, rfl⟩
  obtain ⟨W1, hW1⟩ : ∃ q : World, q = W0.alloc (.cells (arrG4 fun _ => Gau.zero) 24) := ⟨_, rfl⟩
  rw [← hW1]
  have r1 : ArrG4 W1 b1 (fun _ => Gau.zero) := by rw [hW1]; exact ArrG4.at_alloc W0 _ _ hb1.symm
  have x1 : ArrG4 W1 b0 X := by rw [hW1, ← hb0]; exact x0.alloc _
  have hB1 : Below b0 w W1 := by rw [hW1, ← hb0]; exact hB0.alloc hB0.size _
  have hs1 : b1 < W1.heap.size := by rw [hW1, ← hb1]; simp
  have h01 : b0 ≠ b1 := by omega
  have h01' : b0 ≤ b1 := by omega
  have HW0 := hide hb0
  simp only [hb0, hb1]
  clear hW1 x0 hB0 hs0
  obtain ⟨b5, hb5⟩ : ∃ g, W1.heap.size = g := ⟨_, rfl⟩
  go_upto_region 2 with (first
    | (refine wpList_store_box rfl 79 (.tmp 5) (.tmp 11) rfl b5 #[.complex .f64 0 0, .complex .f64 0 0, .complex .f64 0 0, .complex .f64 0 0] #[.complex .f64 4607182418800017408 0, .complex .f64 0 4607182418800017408, .complex .f64 13830554455654793216 0, .complex .f64 0 13830554455654793216] rfl rfl (Box.made hb5.symm) rfl (by kernel_rfl) (four_cells _ _ _ _ rfl rfl rfl rfl) ?_; intro W2 p2 o2)
    | (refine wpList_allocTo rfl (some 5) rfl (.pointer (some ⟨b5, 0, none⟩)) (.cells #[.complex .f64 0 0, .complex .f64 0 0, .complex .f64 0 0, .complex .f64 0 0] 79) (by rw [← hb5]; kernel_rfl) ?_))
  have hc2 : Below W1.heap.size W1 W2 := ((Below.refl _ _).alloc (Nat.le_refl _) _).trans (o2.to_below (by omega) (by simp))
  have r2 := r1.below hc2
  have x2 := x1.below hc2
  have hB2 : Below b0 w W2 := hB1.trans (hc2.mono (by omega))
  clear hc2 o2 r1 x1 hB1
  go_upto_region 3 with (refine wpList_allocTo rfl (some 6) rfl (.pointer (some ⟨W2.heap.size, 0, none⟩)) (.cells (arrG4 fun _ => Gau.zero) 24) (by kernel_rfl) ?_)
  obtain ⟨b6, hb6⟩ : ∃ g, W2.heap.size = g := ⟨_, rfl⟩
  obtain ⟨W3, hW3⟩ : ∃ q : World, q = W2.alloc (.cells (arrG4 fun _ => Gau.zero) 24) := ⟨_, rfl⟩
  rw [← hW3]
  have a3 : ArrG4 W3 b6 (fun _ => Gau.zero) := by rw [hW3]; exact ArrG4.at_alloc W2 _ _ hb6.symm
  have p3 : Box W3 b5 79 #[.complex .f64 4607182418800017408 0, .complex .f64 0 4607182418800017408, .complex .f64 13830554455654793216 0, .complex .f64 0 13830554455654793216] := by rw [hW3]; exact p2.alloc _
  have r3 : ArrG4 W3 b1 (fun _ => Gau.zero) := by rw [hW3]; exact r2.alloc _
  have x3 : ArrG4 W3 b0 X := by rw [hW3]; exact x2.alloc _
  have hB3 : Below b0 w W3 := by rw [hW3]; exact hB2.alloc (by have := x2.lt; omega) _
  have h06 : b0 ≤ b6 := by have := x2.lt; omega
  have h16 : b1 ≠ b6 := by have := r2.lt; omega
  have hn06 : b0 ≠ b6 := by have := x2.lt; omega
  have h56 : b5 ≠ b6 := by have := p2.lt; omega
  simp only [hb6]
  clear hW3 p2 r2 x2 hB2 hs1 hb5 hb6
  go_wp2_with fail
  go_loopw [8, 12] (fun z i wr => ∃ k : Nat, k ≤ 4 ∧ i = .int .i64 (k : Int) ∧ ArrG4 wr b1 (fun _ => Gau.zero) ∧ ArrG4 wr b0 X ∧ Box wr b5 79 #[.complex .f64 4607182418800017408 0, .complex .f64 0 4607182418800017408, .complex .f64 13830554455654793216 0, .complex .f64 0 13830554455654793216] ∧ ArrG4 wr b6 (fun q => if q < k then Y q else Gau.zero) ∧ Below b0 w wr) (fun _ i _ => 4 - (Go.RowKit.intOf i).toNat)
  case atStart => exact ⟨0, by decide, rfl, r3, x3, p3, a3.congr fun q _ => by rw [if_neg (Nat.not_lt_zero q)], hB3⟩
  case round =>
    clear r3 x3 p3 a3 hB3
    obtain ⟨k, hk, rfl, hZ, hXA, hP, hA, hB⟩ := hrel
    obtain ⟨wA, rfl⟩ : ∃ q : World, q = wr := ⟨_, rfl⟩
    by_cases hk4 : k < 4
    · have hk4z : (k : Int) < 4 := by omega
      obtain ⟨E, hE⟩ : ∃ E : Nat → Gau, E = fun q => if q < k then Y q else Gau.zero := ⟨_, rfl⟩
      have HPU := hide (show ∀ q, q < 4 → setG4 E k (Y k) q = if q < k + 1 then Y q else Gau.zero from fun q _ => by
        show (if q = k then _ else E q) = _
        by_cases e : q = k
        · subst e; rw [if_pos rfl, if_pos (by omega)]
        · rw [if_neg e, hE]
          show (if q < k then _ else Gau.zero) = _
          by_cases e2 : q < k
          · rw [if_pos e2, if_pos (by omega)]
          · rw [if_neg e2, if_neg (by omega)])
      rw [← hE] at hA
      clear hE
      have HXA := hide hXA
      go_wp2_with (refine wpList_loadG4 rfl (.tmp 2) rfl b0 X rfl HXA.out ?_)
      clear HXA
      go_loopw [8, 16] (fun z x wr => ∃ (n : Nat) (u v : Nat), n ≤ 4 ∧ x = .int .i64 (n : Int) ∧ z = .complex .f64 u v ∧ Whole u (fTo X s k n).re ∧ Whole v (fTo X s k n).im ∧ ArrG4 wr b1 (fun _ => Gau.zero) ∧ ArrG4 wr b0 X ∧ Box wr b5 79 #[.complex .f64 4607182418800017408 0, .complex .f64 0 4607182418800017408, .complex .f64 13830554455654793216 0, .complex .f64 0 13830554455654793216] ∧ ArrG4 wr b6 E ∧ Below b0 w wr) (fun _ x _ => 4 - (Go.RowKit.intOf x).toNat)
      case atStart => exact ⟨0, 0, 0, Nat.zero_le _, rfl, rfl, whole_zero, whole_zero, hZ, hXA, hP, hA, hB⟩
      case round =>
        clear hZ hXA hP hA hB
        obtain ⟨n, u, v, hn, rfl, rfl, hu, hv, hZ, hXA, hP, hA, hB⟩ := hrel
        obtain ⟨wB, rfl⟩ : ∃ q : World, q = wr := ⟨_, rfl⟩
        have HU := hide hu
        have HV := hide hv
        clear hu hv
        by_cases hn4 : n < 4
        · have hn4z : (n : Int) < 4 := by omega
          have hr1 := mul_within (M := 1) (N := 3) (a := s) (b := (k : Int)) hst (by omega)
          have q1 : IntKind.i64.wrap (s * (k : Int)) = s * (k : Int) := IntWalk.i64_in _ (by omega)
          have hr := mul_within (M := 3) (N := 3) (a := s * (k : Int)) (b := (n : Int)) (by omega) (by omega)
          have HTO := hide (show fTo X s k (n + 1) = ⟨(fTo X s k n).re + (itm (X n) ((s * (k : Int) * (n : Int)) % 4).toNat).re, (fTo X s k n).im + (itm (X n) ((s * (k : Int) * (n : Int)) % 4).toNat).im⟩ from rfl)
          obtain ⟨e, he⟩ : ∃ e, s * (k : Int) * (n : Int) = e := ⟨_, rfl⟩
          rw [he] at hr HTO
          have q2 : IntKind.i64.wrap (s * (k : Int) * (n : Int)) = e := by rw [he]; exact IntWalk.i64_in _ (by omega)
          have HME := hide (fun W => HMO.out e W)
          obtain ⟨q, hq⟩ : ∃ q : Nat, (q : Int) = e % 4 := ⟨(e % 4).toNat, by omega⟩
          have hq4 : q < 4 := by omega
          have hq4z : (q : Int) < 4 := by omega
          rw [show ((4 : Nat) : Int) = 4 from rfl] at HME
          rw [← hq] at HTO HME
          rw [show ((q : Int)).toNat = q from rfl] at HTO
          have hxw := HX.out n hn4
          obtain ⟨x, hx⟩ : ∃ z, X n = z := ⟨_, rfl⟩
          rw [hx] at hxw HTO
          obtain ⟨mu, mv, hm, hmu, hmv⟩ := itm_floats hq4 hxw
          have hb1 := HFT.out k n (by omega)
          have hb2 := itm_within hq4 hxw
          obtain ⟨su, sv, hs2, hsu, hsv⟩ := whole_csum HU.out HV.out hmu hmv (abs_lt (M := 5000000000) (by have := hb1.re; have := hb2.re; omega) (by decide)) (abs_lt (M := 5000000000) (by have := hb1.im; have := hb2.im; omega) (by decide))
          have HSU := hide (show Whole su (fTo X s k (n + 1)).re by rw [HTO.out]; exact hsu)
          have HSV := hide (show Whole sv (fTo X s k (n + 1)).im by rw [HTO.out]; exact hsv)
          have HMUL := hide (fun W => run_complex_mul (P := Try.prog) W 78 _ _ _ _ _ _ hm)
          have HADD := hide (fun W => run_complex_sum (P := Try.prog) W .add (.inl rfl) 78 .f64 _ _ _ _ _ _ hs2)
          clear hr hr1 he hb1 hb2 hmu hmv hsu hsv hm hs2 HTO hxw hq HU HV
          go_upto_region 10 with (refine wpList_indexG4 rfl (.tmp 15) (.tmp 16) rfl X n rfl rfl hn4 ?_)
          try simp only [hx]
          obtain ⟨xr, hxr⟩ : ∃ z, x.re = z := ⟨_, rfl⟩
          obtain ⟨xi, hxi⟩ : ∃ z, x.im = z := ⟨_, rfl⟩
          simp only [hxr, hxi] at HMUL
          try simp only [hxr, hxi]
          clear hxr hxi hx
          obtain ⟨W5, hW5⟩ : ∃ q : World, q = wB.alloc (.cells #[.int .i64 xr, .int .i64 xi] 23) := ⟨_, rfl⟩
          rw [← hW5]
          obtain ⟨g10, hg10⟩ : ∃ g, wB.heap.size = g := ⟨_, rfl⟩
          have bx : Box W5 g10 23 #[.int .i64 xr, .int .i64 xi] := by rw [hW5]; exact Box.made hg10.symm
          have HZ5 := hide (show ArrG4 W5 b1 (fun _ => Gau.zero) by rw [hW5]; exact hZ.alloc _)
          have HX5 := hide (show ArrG4 W5 b0 X by rw [hW5]; exact hXA.alloc _)
          have HP5 := hide (show Box W5 b5 79 #[.complex .f64 4607182418800017408 0, .complex .f64 0 4607182418800017408, .complex .f64 13830554455654793216 0, .complex .f64 0 13830554455654793216] by rw [hW5]; exact hP.alloc _)
          have HA5 := hide (show ArrG4 W5 b6 E by rw [hW5]; exact hA.alloc _)
          have hB5 : Below b0 w W5 := by rw [hW5]; exact hB.alloc (by have := hXA.lt; omega) _
          try simp only [hg10]
          clear hW5 hZ hXA hP hA hB hg10
          have e0 := bx.at_ 0
          have e1 := bx.at_ 1
          simp only [List.getElem?_toArray] at e0 e1
          have pq : W5.cell? ⟨b5, q, none⟩ = some (.complex .f64 (cosB q) (sinB q)) := (HP5.out.at_ q).trans (power_cell q hq4)
          obtain ⟨cb, hcb⟩ : ∃ z, cosB q = z := ⟨_, rfl⟩
          obtain ⟨sb, hsb⟩ : ∃ z, sinB q = z := ⟨_, rfl⟩
          simp only [hcb, hsb] at HMUL pq
          clear hcb hsb
          obtain ⟨fr, hfr⟩ : ∃ z, floatOfInt .f64 xr = z := ⟨_, rfl⟩
          obtain ⟨fi, hfi⟩ : ∃ z, floatOfInt .f64 xi = z := ⟨_, rfl⟩
          simp only [hfr, hfi] at HMUL
          refine wp_region_held_drew (S := fun w' => w'.cell? ⟨g10, 0, none⟩ = some (.int .i64 xr) ∧ w'.cell? ⟨g10, 1, none⟩ = some (.int .i64 xi) ∧ w'.cell? ⟨b5, q, none⟩ = some (.complex .f64 cb sb)) (by kernel_rfl) ⟨e0, e1, pq⟩ (fun hHeld => ?_)
          refine wpAnyH_take (i := 0) (oi := ⟨some 20, _, _, _, _, _⟩) (v := ?_) rfl (by kernel_rfl) (by kernel_rfl) (by kernel_rfl) (fun _ _ _ h => h) (Or.inl ⟨by rfl, ?_⟩) (by assumption) ?_
          rotate_left
          · (intro w' hSw; (try dsimp only at hSw); go_simp <;> (with_reducible rfl))
          try simp only [Act.put, List.setIfInBounds_toArray, List.set_cons_zero, List.set_cons_succ]
          refine wpAnyH_take (i := 1) (oi := ⟨some 21, _, _, _, _, _⟩) (v := ?_) rfl (by kernel_rfl) (by kernel_rfl) (by kernel_rfl) (fun _ _ _ h => h) (Or.inl ⟨by rfl, ?_⟩) (by assumption) ?_
          rotate_left
          · (intro w' hSw; (try dsimp only at hSw); go_simp <;> (with_reducible rfl))
          try simp only [Act.put, List.setIfInBounds_toArray, List.set_cons_zero, List.set_cons_succ]
          refine wpAnyH_take (i := 2) (oi := ⟨some 22, _, _, _, _, _⟩) (v := ?_) rfl (by kernel_rfl) (by kernel_rfl) (by kernel_rfl) (fun _ _ _ h => h) (Or.inl ⟨by rfl, ?_⟩) (by assumption) ?_
          rotate_left
          · (intro w' hSw; (try dsimp only at hSw); go_simp <;> (with_reducible rfl))
          try simp only [Act.put, List.setIfInBounds_toArray, List.set_cons_zero, List.set_cons_succ]
          refine wpAnyH_take (i := 3) (oi := ⟨some 23, _, _, _, _, _⟩) (v := ?_) rfl (by kernel_rfl) (by kernel_rfl) (by kernel_rfl) (fun _ _ _ h => h) (Or.inl ⟨by rfl, ?_⟩) (by assumption) ?_
          rotate_left
          · (intro w' hSw; (try dsimp only at hSw); go_simp <;> (with_reducible rfl))
          try simp only [Act.put, List.setIfInBounds_toArray, List.set_cons_zero, List.set_cons_succ]
          refine wpAnyH_take (i := 4) (oi := ⟨some 24, _, _, _, _, _⟩) (v := ?_) rfl (by kernel_rfl) (by kernel_rfl) (by kernel_rfl) (fun _ _ _ h => h) (Or.inl ⟨by rfl, ?_⟩) (by assumption) ?_
          rotate_left
          · (intro w' hSw; (try dsimp only at hSw); go_simp <;> (with_reducible rfl))
          try simp only [Act.put, List.setIfInBounds_toArray, List.set_cons_zero, List.set_cons_succ]
          refine wpAnyH_take (i := 5) (oi := ⟨some 25, _, _, _, _, _⟩) (v := ?_) rfl (by kernel_rfl) (by kernel_rfl) (by kernel_rfl) (fun _ _ _ h => h) (Or.inl ⟨by rfl, ?_⟩) (by assumption) ?_
          rotate_left
          · (intro w' hSw; (try dsimp only at hSw); go_simp <;> (with_reducible rfl))
          try simp only [Act.put, List.setIfInBounds_toArray, List.set_cons_zero, List.set_cons_succ]
          refine wpAnyH_take (i := 6) (oi := ⟨some 26, _, _, _, _, _⟩) (v := ?_) rfl (by kernel_rfl) (by kernel_rfl) (by kernel_rfl) (fun _ _ _ h => h) (Or.inl ⟨by rfl, ?_⟩) (by assumption) ?_
          rotate_left
          · (intro w' hSw; (try dsimp only at hSw); go_simp <;> (with_reducible rfl))
          try simp only [Act.put, List.setIfInBounds_toArray, List.set_cons_zero, List.set_cons_succ]
          refine wpAnyH_take (i := 7) (oi := ⟨some 27, _, _, _, _, _⟩) (v := ?_) rfl (by kernel_rfl) (by kernel_rfl) (by kernel_rfl) (fun _ _ _ h => h) (Or.inl ⟨by rfl, ?_⟩) (by assumption) ?_
          rotate_left
          · (intro w' hSw; (try dsimp only at hSw); go_simp <;> (with_reducible rfl))
          try simp only [Act.put, List.setIfInBounds_toArray, List.set_cons_zero, List.set_cons_succ]
          refine wpAnyH_take (i := 8) (oi := ⟨some 28, _, _, _, _, _⟩) (v := ?_) rfl (by kernel_rfl) (by kernel_rfl) (by kernel_rfl) (fun _ _ _ h => h) (Or.inl ⟨by rfl, ?_⟩) (by assumption) ?_
          rotate_left
          · (intro w' hSw; (try dsimp only at hSw); go_simp <;> (with_reducible rfl))
          try simp only [Act.put, List.setIfInBounds_toArray, List.set_cons_zero, List.set_cons_succ]
          refine wpAnyH_take (i := 9) (oi := ⟨some 29, _, _, _, _, _⟩) (v := ?_) rfl (by kernel_rfl) (by kernel_rfl) (by kernel_rfl) (fun _ _ _ h => h) (Or.inl ⟨by rfl, ?_⟩) (by assumption) ?_
          rotate_left
          · (intro w' hSw; (try dsimp only at hSw); go_simp <;> (with_reducible rfl))
          try simp only [Act.put, List.setIfInBounds_toArray, List.set_cons_zero, List.set_cons_succ]
          refine wpAnyH_take (i := 10) (oi := ⟨some 30, _, _, _, _, _⟩) (v := ?_) rfl (by kernel_rfl) (by kernel_rfl) (by kernel_rfl) (fun _ _ _ h => h) (Or.inl ⟨by rfl, ?_⟩) (by assumption) ?_
          rotate_left
          · (intro w' hSw; (try dsimp only at hSw); go_simp <;> (with_reducible rfl))
          try simp only [Act.put, List.setIfInBounds_toArray, List.set_cons_zero, List.set_cons_succ]
          refine wpAnyH_take (i := 11) (oi := ⟨some 31, _, _, _, _, _⟩) (v := ?_) rfl (by kernel_rfl) (by kernel_rfl) (by kernel_rfl) (fun _ _ _ h => h) (Or.inl ⟨by rfl, ?_⟩) (by assumption) ?_
          rotate_left
          · (intro w' hSw; (try dsimp only at hSw); go_simp <;> (with_reducible rfl))
          try simp only [Act.put, List.setIfInBounds_toArray, List.set_cons_zero, List.set_cons_succ]
          refine wpAnyH_take (i := 12) (oi := ⟨some 32, _, _, _, _, _⟩) (v := ?_) rfl (by kernel_rfl) (by kernel_rfl) (by kernel_rfl) (fun _ _ _ h => h) (Or.inl ⟨by rfl, ?_⟩) (by assumption) ?_
          rotate_left
          · (intro w' hSw; (try dsimp only at hSw); go_simp <;> (with_reducible rfl))
          try simp only [Act.put, List.setIfInBounds_toArray, List.set_cons_zero, List.set_cons_succ]
          refine wpAnyH_ready (rs := [13]) (by kernel_rfl) (by simp) ?_
          refine AllReadyH.cons (o := ⟨some 33, _, _, _, _, _⟩) rfl (fun K' hK => ?_) AllReadyH.nil
          go_simp
          go_at_call 39
          refine (HME.out _).mono ?_
          rintro e' w' ⟨rfl, rfl⟩
          go_wp2_with fail
          refine hK.out _ _ ⟨e0, e1, pq⟩ (fun hHeld => ?_)
          clear hK K'
          try simp only [Act.put, List.setIfInBounds_toArray, List.set_cons_zero, List.set_cons_succ]
          refine wpAnyH_take (i := 14) (oi := ⟨some 34, _, _, _, _, _⟩) (v := ?_) rfl (by kernel_rfl) (by kernel_rfl) (by kernel_rfl) (fun _ _ _ h => h) (Or.inl ⟨by rfl, ?_⟩) (by assumption) ?_
          rotate_left
          · (intro w' hSw; (try dsimp only at hSw); go_simp <;> (with_reducible rfl))
          try simp only [Act.put, List.setIfInBounds_toArray, List.set_cons_zero, List.set_cons_succ]
          refine wpAnyH_take (i := 15) (oi := ⟨some 35, _, _, _, _, _⟩) (v := ?_) rfl (by kernel_rfl) (by kernel_rfl) (by kernel_rfl) (fun _ _ _ h => h) (Or.inl ⟨by rfl, ?_⟩) (by assumption) ?_
          rotate_left
          · (intro w' hSw; (try dsimp only at hSw); go_simp <;> (with_reducible rfl))
          try simp only [Act.put, List.setIfInBounds_toArray, List.set_cons_zero, List.set_cons_succ]
          refine wpAnyH_take (i := 16) (oi := ⟨some 36, _, _, _, _, _⟩) (v := (.complex .f64 mu mv)) rfl (by kernel_rfl) (by kernel_rfl) (by kernel_rfl) (fun _ _ _ h => h) (Or.inl ⟨by rfl, fun w' hSw => by go_simp; simp [HMUL.out]⟩) (by assumption) ?_
          try simp only [Act.put, List.setIfInBounds_toArray, List.set_cons_zero, List.set_cons_succ]
          refine wpAnyH_take (i := 17) (oi := ⟨some 37, _, _, _, _, _⟩) (v := (.complex .f64 su sv)) rfl (by kernel_rfl) (by kernel_rfl) (by kernel_rfl) (fun _ _ _ h => h) (Or.inl ⟨by rfl, fun w' hSw => by go_simp; simp [HADD.out]⟩) (by assumption) ?_
          try simp only [Act.put, List.setIfInBounds_toArray, List.set_cons_zero, List.set_cons_succ]
          refine wpAnyH_take (i := 18) (oi := ⟨some 8, _, _, _, _, _⟩) (v := ?_) rfl (by kernel_rfl) (by kernel_rfl) (by kernel_rfl) (fun _ _ _ h => h) (Or.inl ⟨by rfl, ?_⟩) (by assumption) ?_
          rotate_left
          · (intro w' hSw; (try dsimp only at hSw); go_simp <;> (with_reducible rfl))
          try simp only [Act.put, List.setIfInBounds_toArray, List.set_cons_zero, List.set_cons_succ]
          refine wpAnyH_done (by kernel_rfl) ?_ _
          go_wp2_with fail
          go_roundw
          case rel => exact ⟨n + 1, su, sv, by omega, by go_num, rfl, HSU.out, HSV.out, HZ5.out, HX5.out, HP5.out, HA5.out, hB5.drew⟩
          case measure => simp [Go.RowKit.intOf]; omega
        · obtain rfl : n = 4 := by omega
          have hfb := HFT.out k 4 (by decide)
          have HUY := HU.out
          have HVY := HV.out
          rw [HY.out k] at hfb HUY HVY
          have c1 := whole_toInt HUY (abs_lt hfb.re (by decide))
          have c2 := whole_toInt HVY (abs_lt hfb.im (by decide))
          have HC1 := hide (fun W => run_convert_float_int (P := Try.prog) W 80 3 .f64 .i64 u (Y k).re rfl Try.underlying3 c1)
          have HC2 := hide (fun W => run_convert_float_int (P := Try.prog) W 80 3 .f64 .i64 v (Y k).im rfl Try.underlying3 c2)
          obtain ⟨y, hy⟩ : ∃ z, Y k = z := ⟨_, rfl⟩
          simp only [hy] at HC1 HC2 HPU
          clear hfb HUY HVY c1 c2 HU HV hy
          have c1 := HC1.out
          have c2 := HC2.out
          obtain ⟨z0, z1⟩ := hA.cells hk4
          obtain ⟨f0, f1⟩ := hA.frozen2 k
          have HA2 := hide (hA.put k y)
          have HZ2 := hide (hZ.other (c := b6) (o := k * 2) h16 (.int .i64 y.re) (.int .i64 y.im))
          have HX2 := hide (hXA.other (c := b6) (o := k * 2) hn06 (.int .i64 y.re) (.int .i64 y.im))
          have HP2 := hide ((hP.other (p := ⟨b6, k * 2, none⟩) h56 (.int .i64 y.re)).other (p := ⟨b6, k * 2 + 1, none⟩) h56 (.int .i64 y.im))
          have HL2 := hide ((hB.setCell (p := ⟨b6, k * 2, none⟩) h06 (.int .i64 y.re)).setCell (p := ⟨b6, k * 2 + 1, none⟩) h06 (.int .i64 y.im))
          go_wp2_with fail
          go_roundw
          case rel => exact ⟨k + 1, by omega, by go_num, HZ2.out, HX2.out, HP2.out, HA2.out.congr HPU.out, HL2.out⟩
          case measure => simp [Go.RowKit.intOf]; omega
    · obtain rfl : k = 4 := by omega
      have HZ := hide hZ
      have HA := hide (hA.congr (G := Y) fun q hq => if_pos hq)
      have hlt := hXA.lt
      go_wp2_with (first | (refine wpList_storeG4 rfl (.tmp 4) (.tmp 49) rfl b1 (fun _ => Gau.zero) Y rfl rfl HZ.out ?_; intro W9 r9 o9) | (refine wpList_loadG4 rfl (.tmp 6) rfl b6 Y rfl HA.out ?_))
      refine bodyPost_ret (v := .agg (arrG4 Y)) (result1G4 rfl _ rfl r9) rfl ⟨rfl, ?_⟩
      rw [HW0.out]
      exact hB.trans (o9.to_below h01' (by omega))
end Go.Proofs.Ytibdbopejnkefaa
/- Slices of arrays of eight Gauss in memory, those of the call's own, an append to one; CopySymbols. -/
namespace Go.Proofs.Ytibdbopejnkefaa
open Go.RowKit Go.Great
def SymsAt (w : World) (lo : Nat) (A : Option Addr) (n : Nat) (F : Nat → Nat → Gau) : Prop :=
  ∀ i, i < n → ∃ b o, A = some ⟨b, o, none⟩ ∧ lo ≤ b ∧ b < w.heap.size ∧ ∀ q, q < 16 → w.cell? ⟨b, o + i * 16 + q, none⟩ = some (g8C (F i) q)
section
variable {w w' : World} {lo n : Nat} {A : Option Addr} {F : Nat → Nat → Gau}
theorem SymsAt.nil_ : SymsAt w lo A 0 F := fun i h => absurd h (Nat.not_lt_zero i)
theorem SymsAt.below (h : SymsAt w lo A n F) (hb : Below w.heap.size w w') : SymsAt w' lo A n F := fun i hi => by
  obtain ⟨b, o, e, h1, h2, k⟩ := h i hi
  exact ⟨b, o, e, h1, Nat.lt_of_lt_of_le h2 hb.size, fun q hq => (hb.cell (p := ⟨b, _, none⟩) h2).trans (k q hq)⟩
theorem SymsAt.alloc (h : SymsAt w lo A n F) (x : Obj) : SymsAt (w.alloc x) lo A n F := h.below ((Below.refl _ _).alloc (Nat.le_refl _) _)
theorem SymsAt.weak {lo' : Nat} (h : SymsAt w lo A n F) (hl : lo' ≤ lo) : SymsAt w lo' A n F := fun i hi => by
  obtain ⟨b, o, e, h1, h2⟩ := h i hi
  exact ⟨b, o, e, Nat.le_trans hl h1, h2⟩
theorem SymsAt.range (h : SymsAt w lo A n F) {i b o : Nat} (hA : A = some ⟨b, o, none⟩) (hi : i < n) : w.rangeAt b (o + i * 16) ((List.range 16).map (g8C (F i))) := fun j v hv => by
  obtain ⟨b', o', e, -, -, hc⟩ := h i hi
  rw [hA] at e
  injection e with e
  injection e with e1 e2
  subst e1
  subst e2
  rw [List.getElem?_map] at hv
  by_cases hj : j < 16
  · rw [List.getElem?_range hj] at hv
    rw [hc j hj]
    exact hv
  · rw [List.getElem?_eq_none (by simp; omega)] at hv
    cases hv
end
def symVals (n : Nat) (F : Nat → Nat → Gau) : List Value := (List.range (n * 16)).map fun j => g8C (F (j / 16)) (j % 16)
theorem symVals_len (n : Nat) (F : Nat → Nat → Gau) : (symVals n F).length = n * 16 := by simp [symVals]
theorem symVals_get (n : Nat) (F : Nat → Nat → Gau) (j : Nat) : (symVals n F)[j]? = if j < n * 16 then some (g8C (F (j / 16)) (j % 16)) else none := by
  unfold symVals
  by_cases h : j < n * 16
  · rw [if_pos h]; simp [h]
  · rw [if_neg h, List.getElem?_eq_none (by simp; omega)]
theorem symVals_congr {n : Nat} {F G : Nat → Nat → Gau} (h : ∀ j, j < n → F j = G j) : symVals n F = symVals n G := by
  unfold symVals
  exact List.map_congr_left fun j hj => by
    have := List.mem_range.1 hj
    rw [h (j / 16) (by omega)]
def catSym (n : Nat) (F G : Nat → Nat → Gau) : Nat → Nat → Gau := fun j => if j < n then F j else G (j - n)
theorem symVals_cat (n m : Nat) (F G : Nat → Nat → Gau) : symVals n F ++ symVals m G = symVals (n + m) (catSym n F G) := by
  apply List.ext_getElem?
  intro j
  rw [List.getElem?_append, symVals_len, symVals_get, symVals_get, symVals_get]
  unfold catSym
  by_cases h1 : j < n * 16
  · rw [if_pos h1, if_pos h1, if_pos (by omega), if_pos (by omega)]
  · rw [if_neg h1]
    by_cases h2 : j - n * 16 < m * 16
    · rw [if_pos h2, if_pos (by omega), if_neg (by omega), show (j - n * 16) / 16 = j / 16 - n by omega, show (j - n * 16) % 16 = j % 16 by omega]
    · rw [if_neg h2, if_neg (by omega)]
theorem SymsAt.part {w : World} {lo n : Nat} {A : Option Addr} {F : Nat → Nat → Gau} (h : SymsAt w lo A n F) {j : Nat} (hj : j < n * 16) : ∃ b o, A = some ⟨b, o, none⟩ ∧ w.cell? ⟨b, o + j, none⟩ = some (g8C (F (j / 16)) (j % 16)) := by
  obtain ⟨b, o, rfl, -, -, hc⟩ := h (j / 16) (by omega)
  refine ⟨b, o, rfl, ?_⟩
  have hlt := Nat.mod_lt j (show 0 < 16 by decide)
  have := hc (j % 16) hlt
  rwa [show o + j / 16 * 16 + j % 16 = o + j by omega] at this
/-- A row of symbols as a slice of entries. -/
theorem SymsAt.row {w : World} {lo n b o i : Nat} {F : Nat → Nat → Gau} (h : SymsAt w lo (some ⟨b, o, none⟩) n F) (hi : i < n) : GausAt w 0 (some ⟨b, o + i * 16, none⟩) 8 (F i) := fun k hk => by
  obtain ⟨b', o', e, -, hlt, hc⟩ := h i hi
  injection e with e
  injection e with e1 e2
  subst e1
  subst e2
  refine ⟨b, o + i * 16, rfl, Nat.zero_le _, hlt, ?_, ?_⟩
  · have := hc (k * 2) (by omega)
    unfold g8C at this
    rwa [show k * 2 / 2 = k by omega, show k * 2 % 2 = 0 by omega] at this
  · have := hc (k * 2 + 1) (by omega)
    unfold g8C at this
    rwa [show (k * 2 + 1) / 2 = k by omega, show (k * 2 + 1) % 2 = 1 by omega] at this
end Go.Proofs.Ytibdbopejnkefaa
/- turnedSums of the code. -/
namespace Go.Proofs.Ytibdbopejnkefaa
open Go.RowKit Go.Great
theorem tz_within {x : Num} {M : Int} (h : x.Within M) (k : Int) : (tz x k).Within M := h.turns _
theorem gN_within {x : Gau} {M : Int} (h : x.Within M) : (gN x.re x.im).Within M := by
  have h0 : 0 ≤ M := by have := h.re; omega
  exact ⟨h.re, ⟨by show -M ≤ 0; omega, h0⟩, h.im, ⟨by show -M ≤ 0; omega, h0⟩⟩
end Go.Proofs.Ytibdbopejnkefaa
/- Transform of the reference. -/
namespace Go.Proofs.Ytibdbopejnkefaa
open Go.RowKit Go.Great
end Go.Proofs.Ytibdbopejnkefaa
/- Samples of the reference. -/
namespace Go.Proofs.Ytibdbopejnkefaa
open Go.RowKit Go.Great
end Go.Proofs.Ytibdbopejnkefaa
/- samplesOf, Samples, Transform of the code. -/
namespace Go.Proofs.Ytibdbopejnkefaa
open Go.RowKit Go.Great
/-- The samples of entries, and the transform of samples. -/
def smpF (F : Nat → Gau) (n : Nat) : Num := sumF (fun m => tz (gN (F m).re (F m).im) ((m : Int) * (n : Int))) 8
def trnF (X : Nat → Num) (k : Nat) : Num := sumF (fun n => tz (X n) (-(k : Int) * (n : Int))) 8
theorem gN_zero : gN 0 0 = Num.zero := rfl
end Go.Proofs.Ytibdbopejnkefaa
/- Samples, Transform, Spectrum of the code. -/
namespace Go.Proofs.Ytibdbopejnkefaa
open Go.RowKit Go.Great
def trnR (X : Nat → Num) : Int := if numsE 1000000000 X 8 = 0 then unI (numsE 1000000000 (trnF X) 8 == 0) 8 else numsE 1000000000 X 8
def okS (y : Num) : Bool := y.b == 0 && y.d == 0 && y.a.tmod 8 == 0 && y.c.tmod 8 == 0
def spAll (Y : Nat → Num) : Nat → Bool
  | 0 => true
  | n + 1 => spAll Y n && okS (Y n)
def spG (y : Num) : Gau := ⟨y.a.tdiv 8, y.c.tdiv 8⟩
theorem spAll_false {Y : Nat → Num} : ∀ {n j : Nat}, j < n → okS (Y j) = false → spAll Y n = false
  | 0, j, h, _ => absurd h (Nat.not_lt_zero _)
  | n + 1, j, h, e => by
    by_cases hj : j = n
    · subst hj; simp [spAll, e]
    · simp [spAll, spAll_false (n := n) (j := j) (by omega) e]
theorem spAll_true {Y : Nat → Num} : ∀ {n : Nat}, spAll Y n = true → ∀ j, j < n → okS (Y j) = true
  | 0, _, j, h => absurd h (Nat.not_lt_zero _)
  | n + 1, h, j, hj => by
    simp only [spAll, Bool.and_eq_true] at h
    by_cases e : j = n
    · subst e; exact h.2
    · exact spAll_true h.1 j (by omega)
def spcR (X : Nat → Num) : Int := if numsE 1000000000 X 8 = 0 then (if spAll (trnF X) 8 = true then 0 else 3) else numsE 1000000000 X 8
theorem trnF_within {X : Nat → Num} (h : ∀ n, n < 8 → (X n).Within 1000000000) (k : Nat) : (trnF X k).Within 8000000000 := (sumF_within fun n hn => tz_within (h n hn) _).more (by decide)
theorem okS_cases (y : Num) : (okS y = true ∧ y.b = 0 ∧ y.d = 0 ∧ y.a.tmod 8 = 0 ∧ y.c.tmod 8 = 0) ∨ (okS y = false ∧ ((¬ y.b = 0) ∨ (y.b = 0 ∧ ¬ y.d = 0) ∨ (y.b = 0 ∧ y.d = 0 ∧ ¬ y.a.tmod 8 = 0) ∨ (y.b = 0 ∧ y.d = 0 ∧ y.a.tmod 8 = 0 ∧ ¬ y.c.tmod 8 = 0))) := by
  unfold okS
  by_cases h1 : y.b = 0 <;> by_cases h2 : y.d = 0 <;> by_cases h3 : y.a.tmod 8 = 0 <;> by_cases h4 : y.c.tmod 8 = 0 <;> simp [h1, h2, h3, h4]
theorem tdiv8_size {a : Int} (h : -8000000000 ≤ a ∧ a ≤ 8000000000) : IntKind.i64.wrap (a.tdiv 8) = a.tdiv 8 := by
  have h1 := Int.mul_tdiv_add_tmod a 8
  obtain ⟨f1, f2, -⟩ := tmod_facts a 8 (by decide)
  have f1b : -8 < a.tmod 8 := f1
  have f2b : a.tmod 8 < 8 := f2
  exact IntWalk.i64_in _ (by omega)
end Go.Proofs.Ytibdbopejnkefaa
/- Errors of streams, of both sides. -/
namespace Go.Proofs.Ytibdbopejnkefaa
open Go.RowKit Go.Great
/-- The error of symbols, and of a stream. -/
def symsE (F : Nat → Nat → Gau) (n : Nat) : Int := badE (fun i => gausE 10000 (F i) 8) n
def strE (n : Nat) (F : Nat → Nat → Gau) (g : Int) : Int := firstE [unI (decide (0 < n)) 10, unI (decide ((n : Int) ≤ 6)) 8, symsE F n, unI (withinB g 0 7) 2]
theorem strE_zero {n : Nat} {F : Nat → Nat → Gau} {g : Int} (h : strE n F g = 0) : 0 < n ∧ n ≤ 6 ∧ (∀ i, i < n → gausE 10000 (F i) 8 = 0) ∧ 0 ≤ g ∧ g ≤ 7 := by
  unfold strE at h
  obtain ⟨h1, h⟩ := firstE_nil h
  obtain ⟨h2, h⟩ := firstE_nil h
  obtain ⟨h3, h⟩ := firstE_nil h
  obtain ⟨h4, -⟩ := firstE_nil h
  have h1 := of_decide_eq_true (unI_zero (by decide) h1)
  have h2 := of_decide_eq_true (unI_zero (by decide) h2)
  have h4 := withinB_iff.1 (unI_zero (by decide) h4)
  exact ⟨h1, by omega, fun i hi => badE_zero h3 i hi, h4.1, h4.2⟩
theorem firstE_cons_ne {a : Int} {r : List Int} (h : a ≠ 0) : firstE (a :: r) = a := by rw [firstE, if_neg h]
theorem firstE_cons_zero {r : List Int} : firstE (0 :: r) = firstE r := by rw [firstE, if_pos rfl]
end Go.Proofs.Ytibdbopejnkefaa
/- Stream of the code and of the reference. -/
namespace Go.Proofs.Ytibdbopejnkefaa
open Go.RowKit Go.Great
set_option maxRecDepth 100000 in
theorem run_append_numsG (w : World) (ty : TypeId) (base lo : Nat) (v : Value) (n : Nat) (F : Nat → Num) (hown : OwnNums w base v n F)
    (A : Option Addr) (m c : Nat) (G : Nat → Num) (hr : NumsAt w lo A m G) (hnm : n + m ≤ 100000000) (hbase : base ≤ w.heap.size) :
    ∃ v' w', (Builtin.append_ #[49, 49] ty #[v, .slice A m c]).run Try.prog w = .ok v' w' ∧ OwnNums w' base v' (n + m) (catN n F G) ∧ Below base w w' ∧ w.grownBy w' v.ownBlock ∧ (v'.ownBlock = v.ownBlock ∨ v'.ownBlock = some w.heap.size) := by
  obtain ⟨i0, hi, hz0, hz1, hz2⟩ := info_parts numInfo
  cases A with
  | none =>
    have hm : m = 0 := by
      rcases Nat.eq_zero_or_pos m with h0 | h0
      · exact h0
      · obtain ⟨b, o, e, -⟩ := hr 0 h0
        cases e
    subst hm
    have hrun : (Builtin.append_ #[49, 49] ty #[v, .slice none 0 c]).run Try.prog w = .ok v w := by
      rcases hown.2 with ⟨rfl, -⟩ | ⟨g, cap, cur, rfl, -, -, hnc, -⟩
      · simp [Builtin.append_, run_underlying Try.underlying49, sizeOf, typeInfo, hi, Builtin.lenOf, Builtin.firstCells]
      · simp [Builtin.append_, run_underlying Try.underlying49, sizeOf, typeInfo, hi, Builtin.lenOf, Builtin.firstCells, hnc, storeCells]
    exact ⟨v, w, hrun, OwnNums.congr (F := F) hown fun j hj => by unfold catN; rw [if_pos (show j < n by omega)], Below.refl _ _, ⟨rfl, rfl, rfl, Nat.le_refl _, fun _ _ _ => rfl⟩, .inl rfl⟩
  | some ad =>
    obtain ⟨v', w', hrun, hown', hg, -, hob⟩ := run_append_own_at (P := Try.prog) w base 49 ty 35 i0 (.agg #[.int .i64 0, .int .i64 0, .int .i64 0, .int .i64 0]) 4 32 Try.underlying49 hi hz0 hz1 hz2 rfl (by decide) v n _ hown ad m c (numVals m G) (by rw [numVals_len])
      (fun j u hu => by
        rw [numVals_get] at hu
        split at hu
        · rename_i hj
          obtain ⟨b, o, e, hc⟩ := hr.part hj
          injection e with e
          subst e
          injection hu with hu
          subst hu
          rw [Addr.add_lit]
          exact hc
        · cases hu)
      (fun u hu => by
        obtain ⟨j, -, rfl⟩ := List.mem_map.1 hu
        rfl) (by unfold maxLen; omega) (by omega) hbase
    rw [numVals_cat] at hown'
    exact ⟨v', w', hrun, hown', (Below.refl _ _).grown hg hbase (fun k hk => (World.ownsRow.lt hown k hk).1), hg, hob⟩
theorem wp_append_numsG {o : Oper} {a : Act} {K : Act → World → Prop} {Q : Exit → Act → World → Prop} (w : World) (s x : Operand)
    (ho : o.op = .call { callee := .builtin .append, args := #[s, x], argTypes := #[49, 49] })
    (base lo : Nat) (v : Value) (n : Nat) (F : Nat → Num) (hs : a.eval s = v) (hown : OwnNums w base v n F)
    (A : Option Addr) (m c : Nat) (G : Nat → Num) (hx : a.eval x = .slice A m c) (hr : NumsAt w lo A m G) (hnm : n + m ≤ 100000000) (hbase : base ≤ w.heap.size)
    (h : ∀ v' w', OwnNums w' base v' (n + m) (catN n F G) → Below base w w' → w.grownBy w' v.ownBlock → (v'.ownBlock = v.ownBlock ∨ v'.ownBlock = some w.heap.size) → K (a.put o.dst v') w') : o.wp Try.prog a w K Q := by
  obtain ⟨v', w', hrun, h1, h2, h3, h4⟩ := run_append_numsG w o.type base lo v n F hown A m c G hr hnm hbase
  unfold Oper.wp execOp
  simp only [ho, resolve, invoke, builtin, Sem.run_bind, Sem.run_pure, Result.andThen_ok, List.map_toArray, List.map_cons, List.map_nil, hs, hx, hrun]
  exact h v' w' h1 h2 h3 h4
theorem wpList_append_numsG {ops : Array Oper} {rest : List Oper} {o : Oper} {a : Act} {Q : Exit → Act → World → Prop} (w : World) (hgd : o.guard = none) (s x : Operand)
    (ho : o.op = .call { callee := .builtin .append, args := #[s, x], argTypes := #[49, 49] })
    (base lo : Nat) (v : Value) (n : Nat) (F : Nat → Num) (hs : a.eval s = v) (hown : OwnNums w base v n F)
    (A : Option Addr) (m c : Nat) (G : Nat → Num) (hx : a.eval x = .slice A m c) (hr : NumsAt w lo A m G) (hnm : n + m ≤ 100000000) (hbase : base ≤ w.heap.size)
    (h : ∀ v' w', OwnNums w' base v' (n + m) (catN n F G) → Below base w w' → w.grownBy w' v.ownBlock → (v'.ownBlock = v.ownBlock ∨ v'.ownBlock = some w.heap.size) → wpList Try.prog ops Q rest (a.put o.dst v') w') : wpList Try.prog ops Q (o :: rest) a w :=
  wpList_plain hgd fun _ hK => wp_append_numsG w s x ho base lo v n F hs hown A m c G hx hr hnm hbase fun v' w' h1 h2 h3 h4 => hK _ _ (h v' w' h1 h2 h3 h4)
theorem arrayLen8 : Try.prog.arrayLen 38 = 8 := by kernel_rfl
theorem run_tail8 (b d : Nat) (hd : d < 8) (W : World) : (Instr.sliceAt 38 (.pointer (some ⟨b, 0, none⟩)) (some (.int .i64 (d : Int))) none none).run Try.prog W = .ok (.slice (some ⟨b, d * 4, none⟩) (8 - d) (8 - d)) W := by
  have h1 : (d : Int) ≤ ((Try.prog.arrayLen 38 : Nat) : Int) := by rw [arrayLen8]; omega
  have h2 : ¬ 8 = d := by omega
  have hs : (sizeOf (Try.prog.elem 38)).run Try.prog W = .ok 4 W := by kernel_rfl
  refine (run_sliceAt_array_l (P := Try.prog) W 38 ⟨b, 0, none⟩ (by kernel_rfl) .i64 (d : Int) (by omega) h1).trans ?_
  rw [hs, arrayLen8]
  show Result.ok (slicedAt ⟨b, 0, none⟩ ((d : Int)).toNat 8 8 4) W = _
  unfold slicedAt
  rw [if_neg (show ¬ 8 = ((d : Int)).toNat by omega), show ((d : Int)).toNat = d from rfl, Addr.add_mid, Nat.zero_add]
/-- The samples of a stream of symbols. -/
def strF (F : Nat → Nat → Gau) (g : Nat) (j : Nat) : Num := if j % (8 + g) < g then smpF (F (j / (8 + g))) (8 - g + j % (8 + g)) else smpF (F (j / (8 + g))) (j % (8 + g) - g)
theorem str_at {k m p : Nat} (hp : p < m) : (k * m + p) / m = k ∧ (k * m + p) % m = p := by
  have hm : 0 < m := by omega
  constructor
  · rw [Nat.add_comm, Nat.add_mul_div_right _ _ hm, Nat.div_eq_of_lt hp, Nat.zero_add]
  · rw [Nat.add_comm, Nat.add_mul_mod_self_right, Nat.mod_eq_of_lt hp]
theorem str_step (F : Nat → Nat → Gau) (g k j : Nat) (hj : j < (k + 1) * (8 + g)) : catN (k * (8 + g) + g) (catN (k * (8 + g)) (strF F g) (fun j => smpF (F k) (8 - g + j))) (smpF (F k)) j = strF F g j := by
  unfold catN
  obtain ⟨m, hm⟩ : ∃ m, m = k * (8 + g) := ⟨_, rfl⟩
  have e : (k + 1) * (8 + g) = m + (8 + g) := by rw [hm, Nat.succ_mul]
  rw [← hm]
  rw [e] at hj
  by_cases h1 : j < m
  · rw [if_pos (by omega), if_pos h1]
  · obtain ⟨p, rfl⟩ : ∃ p, j = m + p := ⟨j - m, by omega⟩
    have hp : p < 8 + g := by omega
    obtain ⟨hd, hr⟩ := str_at (k := k) hp
    rw [← hm] at hd hr
    by_cases h2 : p < g
    · rw [if_pos (by omega), if_neg h1]
      unfold strF
      rw [hd, hr, if_pos h2, show m + p - m = p by omega]
    · rw [if_neg (by omega)]
      unfold strF
      rw [hd, hr, if_neg h2, show m + p - (m + g) = p - g by omega]
theorem ArrNums.tail {w : World} {b : Nat} {F : Nat → Num} (h : ArrNums w b F) (d n : Nat) (hdn : d + n ≤ 8) : NumsAt w 0 (some ⟨b, d * 4, none⟩) n (fun j => F (d + j)) := fun i hi => by
  obtain ⟨k0, k1, k2, k3⟩ := h.cells (k := d + i) (by omega)
  rw [Nat.add_mul] at k0 k1 k2 k3
  exact ⟨b, d * 4, rfl, Nat.zero_le _, h.lt, k0, k1, k2, k3⟩
theorem own_ne {w : World} {base n g : Nat} {v : Value} {F : Nat → Num} (h : OwnNums w base v n F) (hg : w.heap.size ≤ g) : v.ownBlock ≠ some g := fun e => by have := (World.ownsRow.lt h g e).2; omega
theorem ArrNums.grown {w w' : World} {b : Nat} {F : Nat → Num} {r : Option Nat} (h : ArrNums w b F) (hg : w.grownBy w' r) (hne : r ≠ some b) : ArrNums w' b F := h.of_block (hg.block b h.lt (fun e => hne e.symm))
end Go.Proofs.Ytibdbopejnkefaa
