/- Lemmas: Bc, Bd, Wg, Wn, Wm, Bg. -/
import Derived.Deep.QuietTactic
import Derived.Deep.RegionHeld3
import Derived.Test.YtejhakkfgfahaaaBz01
import Derived.Test.YtejhakkfgfahaaaBz02
import Derived.Test.YtejhakkfgfahaaaBz07
import Derived.Test.YtejhakkfgfahaaaBz13
set_option linter.unusedVariables false
set_option linter.unusedSimpArgs false
/- Numbers of any size: subDigits. -/
namespace Go.Proofs.Ytejhakkfgfahaaa
open Go.RowKit
/-- The digit i of a difference, and the borrow behind the first i digits. -/
def subB (D G : Nat → Int) : Nat → Int
  | 0 => 0
  | k + 1 => if D k - G k - subB D G k < 0 then 1 else 0
def subD (D G : Nat → Int) (k : Nat) : Int := if D k - G k - subB D G k < 0 then D k - G k - subB D G k + BB else D k - G k - subB D G k
theorem subB_bit {D G : Nat → Int} : ∀ k, subB D G k = 0 ∨ subB D G k = 1
  | 0 => .inl rfl
  | k + 1 => by
    show (if _ then (1 : Int) else 0) = 0 ∨ (if _ then (1 : Int) else 0) = 1
    split
    · exact .inr rfl
    · exact .inl rfl
theorem subD_dig {D G : Nat → Int} {n : Nat} (hD : Dig n D) (hG : Dig n G) : Dig n (subD D G) := fun j hj => by
  obtain ⟨d0, d1⟩ := hD j hj
  obtain ⟨g0, g1⟩ := hG j hj
  have hb := subB_bit (D := D) (G := G) j
  unfold subD
  unfold BB at *
  generalize subB D G j = b at *
  rcases hb with rfl | rfl <;> split <;> omega
theorem subD_val {D G : Nat → Int} : ∀ n, valD (subD D G) n - subB D G n * BB ^ n = valD D n - valD G n
  | 0 => rfl
  | k + 1 => by
    have ih := subD_val (D := D) (G := G) k
    have hs : subD D G k = if D k - G k - subB D G k < 0 then D k - G k - subB D G k + BB else D k - G k - subB D G k := rfl
    show valD (subD D G) k + subD D G k * BB ^ k - (if D k - G k - subB D G k < 0 then (1 : Int) else 0) * BB ^ (k + 1) = valD D k + D k * BB ^ k - (valD G k + G k * BB ^ k)
    rw [Int.pow_succ, Int.mul_comm (BB ^ k) BB]
    generalize subD D G k = z at *
    generalize valD (subD D G) k = V at *
    generalize BB ^ k = p at *
    generalize subB D G k = b at *
    have e1 : (D k - G k - b + BB) * p = D k * p - G k * p - b * p + BB * p := by rw [Int.add_mul, Int.sub_mul, Int.sub_mul]
    have e2 : (D k - G k - b) * p = D k * p - G k * p - b * p := by rw [Int.sub_mul, Int.sub_mul]
    by_cases h : D k - G k - b < 0
    · rw [if_pos h] at hs ⊢
      rw [hs, e1, Int.one_mul]
      omega
    · rw [if_neg h] at hs ⊢
      rw [hs, e2, Int.zero_mul]
      omega
theorem digN_dig {n m : Nat} {E : Nat → Int} (hE : Dig m E) : Dig n (digN m E) := fun j _ => by
  unfold digN
  split
  · rename_i h; exact hE j h
  · exact ⟨Int.le_refl _, by decide⟩
theorem digN_val {m : Nat} {E : Nat → Int} : ∀ n, m ≤ n → valD (digN m E) n = valD E m
  | 0, h => by rw [show m = 0 by omega]; rfl
  | k + 1, h => by
    by_cases e : m = k + 1
    · rw [e]
      exact valD_congr (k + 1) fun j hj => if_pos hj
    · show valD (digN m E) k + digN m E k * BB ^ k = valD E m
      rw [digN_val k (by omega), show digN m E k = 0 from if_neg (by omega), Int.zero_mul, Int.add_zero]
/-- A difference that is not below 0. -/
theorem sub_val {D E : Nat → Int} {n m : Nat} (hD : Dig n D) (hE : Dig m E) (hm : m ≤ n) (h : valD E m ≤ valD D n) : valD (subD D (digN m E)) n = valD D n - valD E m := by
  have h1 := subD_val (D := D) (G := digN m E) n
  rw [digN_val n hm] at h1
  have h2 := (valD_range n (subD_dig hD (digN_dig hE (n := n)))).2
  have hp := pow_pos_BB n
  rcases subB_bit (D := D) (G := digN m E) n with e | e <;> rw [e] at h1
  · rw [Int.zero_mul] at h1; omega
  · rw [Int.one_mul] at h1; omega
set_option maxHeartbeats 4000000 in
set_option maxRecDepth 100000 in
theorem subDigits_any (A B : Option Addr) (n c m d : Nat) (D E : Nat → Int) (w : World) (hn : n ≤ 1000) (hI : IntsAt w 0 A n D) (hJ : IntsAt w 0 B m E) (hD : Dig n D) (hE : Dig m E) :
    Calls Try.prog 91 #[.slice A n c, .slice B m d] w fun e w' => ∃ R r, e = .returned (.slice R (trimN (subD D (digN m E)) n) r) ∧ n ≤ r ∧ IntsAt w' w.heap.size R n (subD D (digN m E)) ∧ Below w.heap.size w w' := by
  obtain ⟨G, hG⟩ : ∃ G, G = digN m E := ⟨_, rfl⟩
  have HI := hide hI
  have HJ := hide hJ
  have HD := hide hD
  have HG := hide (show Dig n G by rw [hG]; exact digN_dig hE)
  have HDI := hide (show ∀ (i : Nat) (W : World), IntsAt W 0 B m E → Calls Try.prog 92 #[.slice B m d, .int .i64 (i : Int)] W fun e w' => e = .returned (.int .i64 (G i)) ∧ w' = W from fun i W h => by rw [hG]; exact (digit_any B m d E i W h).mono fun _ _ h => ⟨h.1, h.2.symm⟩)
  have HT := hide (fun (O : Option Addr) (o9 : Nat) (W : World) (h1 : n ≤ o9) (h2 : IntsAt W 0 O n (subD D G)) => trimmed_any O n o9 (subD D G) W hn h1 h2)
  rw [← hG]
  clear hI hJ hD hE hG
  go_enter Try.func91, Try.ntmps91
  go_wp2_with fail
  go_loopw [5, 6, 7] (fun v b x wr => ∃ k : Nat, k ≤ n ∧ b = .int .i64 (subB D G k) ∧ x = .int .i64 (k : Int) ∧ OwnInts wr w.heap.size v k (subD D G) ∧ Below w.heap.size w wr) (fun _ _ x _ => n - (Go.RowKit.intOf x).toNat)
  case atStart => exact ⟨0, Nat.zero_le _, rfl, rfl, OwnInts.nil_ _ _ _, Below.refl _ _⟩
  case round =>
    obtain ⟨k, hk, rfl, rfl, ho, hB⟩ := hrel
    obtain ⟨wA, rfl⟩ : ∃ x : World, x = wr := ⟨_, rfl⟩
    obtain ⟨O, o9, rfl, ho9, hO⟩ := ho.form
    have hBs := hB.size
    by_cases hlt : k < n
    · have hltz : (k : Int) < (n : Int) := by omega
      obtain ⟨b0, o0, rfl, -, -, x0⟩ := (HI.out.below hB) k hlt
      have HJA := hide (HJ.out.below hB)
      obtain ⟨d0, d1⟩ := HD.out k hlt
      obtain ⟨g0, g1⟩ := HG.out k hlt
      have hb := subB_bit (D := D) (G := G) k
      have HDk := hide (HDI.out k)
      have HS1 := hide (show subB D G (k + 1) = if D k - G k - subB D G k < 0 then 1 else 0 from rfl)
      have HS2 := hide (show subD D G k = if D k - G k - subB D G k < 0 then D k - G k - subB D G k + BB else D k - G k - subB D G k from rfl)
      generalize subB D G k = b at *
      generalize D k = p at *
      generalize G k = q at *
      obtain ⟨f, hf⟩ : ∃ f, f = p - q - b := ⟨_, rfl⟩
      rw [← hf] at HS1 HS2
      unfold BB at d1 g1 HS2
      have q1 : IntKind.i64.wrap (p - q) = p - q := IntWalk.i64_in _ (by omega)
      have q2 : IntKind.i64.wrap (p - q - b) = f := by rw [hf]; exact IntWalk.i64_in _ (by omega)
      have hf9 : -1000000002 ≤ f ∧ f ≤ 1000000002 := by omega
      have HO := hide ho
      have HB := hide hB
      clear hf d0 d1 g0 g1 hb ho hB hO
      by_cases hneg : f < 0
      · obtain ⟨z, hz⟩ : ∃ z, z = f + 1000000000 := ⟨_, rfl⟩
        have q3 : IntKind.i64.wrap (f + 1000000000) = z := by rw [hz]; exact IntWalk.i64_in _ (by omega)
        have HZ := hide (show subD D G k = z by rw [hz, HS2.out, if_pos hneg])
        have HY := hide (show subB D G (k + 1) = 1 by rw [HS1.out, if_pos hneg])
        clear hz HS1 HS2 hf9
        go_wp2_with fail
        go_quiet ((go_at_call 92; exact Calls.quiet_of_same (HDk.out _ HJA.out)))
        clear q1 q2
        go_wp2_with (at_builtin; refine wpList_append_ints _ rfl (.tmp 29) (.tmp 31) rfl w.heap.size 0 (.slice O k o9) k _ rfl ((HO.out.drewN _).alloc _) (some ⟨_, 0, none⟩) 1 1 (fun _ => z) rfl (IntsAt.one _ 0 z 3 (Nat.zero_le _)) (by omega) (by simp; omega) ?_; intro v' w' h1 hb4)
        go_roundw
        case rel =>
          refine ⟨k + 1, by omega, by rw [HY.out], by go_num, h1.congr fun j hj => ?_, ((Go.below_drewN HB.out _).alloc hBs _).trans hb4⟩
          unfold catF
          by_cases e : j < k
          · rw [if_pos e]
          · obtain rfl : j = k := by omega
            rw [if_neg e, HZ.out]
        case measure => simp [Go.RowKit.intOf]; omega
      · obtain ⟨z, hz⟩ : ∃ z, z = f := ⟨_, rfl⟩
        have HZ := hide (show subD D G k = f by rw [HS2.out, if_neg hneg])
        have HY := hide (show subB D G (k + 1) = 0 by rw [HS1.out, if_neg hneg])
        clear hz HS1 HS2 hf9
        go_wp2_with fail
        go_quiet ((go_at_call 92; exact Calls.quiet_of_same (HDk.out _ HJA.out)))
        clear q1 q2
        go_wp2_with (at_builtin; refine wpList_append_ints _ rfl (.tmp 29) (.tmp 31) rfl w.heap.size 0 (.slice O k o9) k _ rfl ((HO.out.drewN _).alloc _) (some ⟨_, 0, none⟩) 1 1 (fun _ => f) rfl (IntsAt.one _ 0 f 3 (Nat.zero_le _)) (by omega) (by simp; omega) ?_; intro v' w' h1 hb4)
        go_roundw
        case rel =>
          refine ⟨k + 1, by omega, by rw [HY.out], by go_num, h1.congr fun j hj => ?_, ((Go.below_drewN HB.out _).alloc hBs _).trans hb4⟩
          unfold catF
          by_cases e : j < k
          · rw [if_pos e]
          · obtain rfl : j = k := by omega
            rw [if_neg e, HZ.out]
        case measure => simp [Go.RowKit.intOf]; omega
    · obtain rfl : k = n := by omega
      have hltz : ¬ ((k : Int) < (k : Int)) := by omega
      have HTk := hide (HT.out O o9 wA ho9 (hO.weak (Nat.zero_le _)))
      clear hlt
      go_wp2_with fail
      refine HTk.out.mono ?_
      rintro e w' ⟨rfl, rfl⟩
      go_wp2_with fail
      go_ret
      exact ⟨O, o9, rfl, ho9, hO, hB⟩
end Go.Proofs.Ytejhakkfgfahaaa
/- Numbers of any size: the mathematics of a product, and what a number of any size is in memory. -/
namespace Go.Proofs.Ytejhakkfgfahaaa
open Go.RowKit
theorem valD_set {F : Nat → Int} {p : Nat} {v : Int} : ∀ N, p < N → valD (setF F p v) N = valD F N + (v - F p) * BB ^ p
  | 0, h => absurd h (Nat.not_lt_zero p)
  | k + 1, h => by
    show valD (setF F p v) k + setF F p v k * BB ^ k = valD F k + F k * BB ^ k + (v - F p) * BB ^ p
    by_cases e : p = k
    · subst e
      rw [valD_congr (D := setF F p v) (E := F) p fun j hj => if_neg (show ¬ j = p by omega), show setF F p v p = v from if_pos rfl, Int.sub_mul]
      omega
    · rw [valD_set k (by omega), show setF F p v k = F k from if_neg (by omega)]
      omega
theorem valD_zero : ∀ n, valD (fun _ => 0) n = 0
  | 0 => rfl
  | k + 1 => by
    show valD (fun _ => 0) k + 0 * BB ^ k = 0
    rw [valD_zero k, Int.zero_mul, Int.add_zero]
/-- One step of the schoolbook product. -/
theorem mul_step {F : Nat → Int} {q N k i : Nat} {a b c V0 vb s : Int} (hq : q = i + k) (hN : q < N) (hs : s = F q + a * b + c) (h : valD F N + c * BB ^ q = V0 + a * vb * BB ^ i) :
    valD (setF F q (s % BB)) N + s / BB * BB ^ (q + 1) = V0 + a * (vb + b * BB ^ k) * BB ^ i := by
  rw [valD_set N hN, Int.pow_succ, Int.mul_comm (BB ^ q) BB]
  have hm := Int.emod_add_mul_ediv s BB
  have e1 : s % BB * BB ^ q + s / BB * (BB * BB ^ q) = F q * BB ^ q + a * b * BB ^ q + c * BB ^ q := by
    rw [← Int.mul_assoc, Int.mul_comm (s / BB) BB, ← Int.add_mul, hm, hs, Int.add_mul, Int.add_mul]
  have e2 : a * (vb + b * BB ^ k) * BB ^ i = a * vb * BB ^ i + a * b * BB ^ q := by
    rw [Int.mul_add, Int.add_mul, ← Int.mul_assoc a b, Int.mul_assoc (a * b), ← Int.pow_add, Nat.add_comm k i, hq]
  rw [e2, Int.sub_mul]
  omega
theorem mul_bound {f a b c s : Int} (hs : s = f + a * b + c) (f0 : 0 ≤ f) (f1 : f < BB) (a0 : 0 ≤ a) (a1 : a < BB) (b0 : 0 ≤ b) (b1 : b < BB) (c0 : 0 ≤ c) (c1 : c < BB) :
    0 ≤ a * b ∧ a * b ≤ 999999998000000001 ∧ 0 ≤ s ∧ s < 1000000000000000000 ∧ 0 ≤ s % BB ∧ s % BB < BB ∧ 0 ≤ s / BB ∧ s / BB < BB := by
  unfold BB at *
  have h1 : 0 ≤ a * b := Int.mul_nonneg a0 b0
  have h2 : a * b ≤ 999999999 * 999999999 := Int.mul_le_mul (by omega) (by omega) b0 (by decide)
  omega
/-- A number of any size: its sign and its digits. -/
def WideAt (w : World) (lo : Nat) (V : Value) (m : Nat) (x : Int) : Prop :=
  ∃ (s : Int) (A : Option Addr) (n c : Nat) (D : Nat → Int), V = .agg #[.int .i64 s, .slice A n c] ∧ n ≤ m ∧ n ≤ c ∧ IntsAt w lo A n D ∧ Dig n D ∧ Norm n D ∧ (s = -1 ∨ s = 0 ∨ s = 1) ∧ (s = 0 ↔ n = 0) ∧ x = s * valD D n
theorem WideAt.below {w w' : World} {lo m : Nat} {V : Value} {x : Int} (h : WideAt w lo V m x) (hb : Below w.heap.size w w') : WideAt w' lo V m x := by
  obtain ⟨s, A, n, c, D, h1, h2, h3, h4, h5⟩ := h
  exact ⟨s, A, n, c, D, h1, h2, h3, h4.below hb, h5⟩
theorem WideAt.weak {w : World} {lo lo' m m' : Nat} {V : Value} {x : Int} (h : WideAt w lo V m x) (h1 : lo' ≤ lo) (h2 : m ≤ m') : WideAt w lo' V m' x := by
  obtain ⟨s, A, n, c, D, g1, g2, g3, g4, g5⟩ := h
  exact ⟨s, A, n, c, D, g1, Nat.le_trans g2 h2, g3, g4.weak h1, g5⟩
theorem sgnT_cases {s : Int} {n : Nat} {D : Nat → Int} (hD : Dig n D) (hs : s = 1 ∨ s = -1 ∨ (s = 0 ∧ valD D n = 0)) :
    (sgnT s (trimN D n) = -1 ∨ sgnT s (trimN D n) = 0 ∨ sgnT s (trimN D n) = 1) ∧ (sgnT s (trimN D n) = 0 ↔ trimN D n = 0) ∧ s * valD D n = sgnT s (trimN D n) * valD D (trimN D n) := by
  have hv := trimN_val D n
  have hp := norm_pos (n := trimN D n) (fun j hj => hD j (Nat.lt_of_lt_of_le hj (trimN_le D n))) (trimN_norm D n)
  rw [hv]
  rw [hv] at hp
  unfold sgnT
  by_cases h : trimN D n = 0
  · rw [if_pos h]
    have h0 : valD D n = 0 := by rw [← hv, h]; rfl
    rw [h0]
    exact ⟨.inr (.inl rfl), ⟨fun _ => h, fun _ => rfl⟩, by rw [Int.mul_zero, Int.mul_zero]⟩
  · rw [if_neg h]
    have h1 := hp (by omega)
    refine ⟨by omega, ⟨fun e => ?_, fun e => absurd e h⟩, rfl⟩
    omega
theorem WideAt.of {w : World} {lo m n c : Nat} {A : Option Addr} {D : Nat → Int} {s : Int} (hI : IntsAt w lo A n D) (hD : Dig n D) (hc : n ≤ c) (hm : n ≤ m) (hs : s = 1 ∨ s = -1 ∨ (s = 0 ∧ valD D n = 0)) :
    WideAt w lo (.agg #[.int .i64 (sgnT s (trimN D n)), .slice A (trimN D n) c]) m (s * valD D n) := by
  have ht := trimN_le D n
  obtain ⟨h1, h2, h3⟩ := sgnT_cases hD hs
  exact ⟨_, A, trimN D n, c, D, rfl, by omega, by omega, fun j hj => hI j (by omega), fun j hj => hD j (by omega), trimN_norm D n, h1, h2, h3⟩
theorem WideAt.sign_pos {w : World} {lo m : Nat} {V : Value} {x : Int} (h : WideAt w lo V m x) (hx : 0 < x) :
    ∃ (A : Option Addr) (n c : Nat) (D : Nat → Int), V = .agg #[.int .i64 1, .slice A n c] ∧ n ≤ m ∧ n ≤ c ∧ IntsAt w lo A n D ∧ Dig n D ∧ Norm n D ∧ 0 < n ∧ x = valD D n := by
  obtain ⟨s, A, n, c, D, h1, h2, h3, h4, h5, h6, h7, h8, h9⟩ := h
  have hv := (valD_range n h5).1
  rcases h7 with rfl | rfl | rfl
  · exfalso; omega
  · rw [Int.zero_mul] at h9; omega
  · rw [Int.one_mul] at h9
    exact ⟨A, n, c, D, h1, h2, h3, h4, h5, h6, by have := h8.2; omega, h9⟩
end Go.Proofs.Ytejhakkfgfahaaa
/- sum of the code. -/
namespace Go.Proofs.Ytejhakkfgfahaaa
open Go.RowKit
/-- The sum of the first k numbers. -/
def sumF (F : Nat → Num) : Nat → Num
  | 0 => Num.zero
  | k + 1 => (sumF F k).add (F k)
theorem sumF_within {F : Nat → Num} {M : Int} : ∀ {k : Nat}, (∀ j, j < k → (F j).Within M) → (sumF F k).Within (k * M)
  | 0, _ => by
    have e : ((0 : Nat) : Int) * M = 0 := by simp
    rw [e]
    show Num.zero.Within 0
    exact ⟨⟨by decide, by decide⟩, ⟨by decide, by decide⟩, ⟨by decide, by decide⟩, ⟨by decide, by decide⟩⟩
  | k + 1, h => by
    have e : ((k + 1 : Nat) : Int) * M = (k : Int) * M + M := by rw [Int.natCast_add, Int.add_mul]; simp
    rw [e]
    exact (sumF_within fun j hj => h j (by omega)).add (h k (by omega))
end Go.Proofs.Ytejhakkfgfahaaa
/- An array by value, indexed. -/
namespace Go.Proofs.Ytejhakkfgfahaaa
open Go.RowKit
end Go.Proofs.Ytejhakkfgfahaaa
/- product of the code: a region that draws its order. -/
namespace Go.Proofs.Ytejhakkfgfahaaa
open Go.RowKit
theorem bstH4 {B : Nat} {w1 W w2 : World} {p0 p1 p2 p3 p4 p5 p6 p7 : Prop} (hb : Below W.heap.size W w2) (h : p0 ∧ p1 ∧ p2 ∧ p3 ∧ p4 ∧ p5 ∧ p6 ∧ p7 ∧ Below B w1 W) (hB : B ≤ w1.heap.size) : Below B w1 w2 := h.2.2.2.2.2.2.2.2.trans (hb.mono (Nat.le_trans hB h.2.2.2.2.2.2.2.2.size))
theorem NumsAt.two {w : World} {b : Nat} {t : TypeId} {x y : Num} (h : Box w b t #[.int .i64 x.a, .int .i64 x.b, .int .i64 x.c, .int .i64 x.d, .int .i64 y.a, .int .i64 y.b, .int .i64 y.c, .int .i64 y.d]) : NumsAt w 0 (some ⟨b, 0, none⟩) 2 (fun i => if i = 0 then x else y) := fun i hi => by
  match i, hi with
  | 0, _ => exact ⟨b, 0, rfl, Nat.zero_le _, h.lt, h.at_ 0, h.at_ 1, h.at_ 2, h.at_ 3⟩
  | 1, _ => exact ⟨b, 0, rfl, Nat.zero_le _, h.lt, h.at_ 4, h.at_ 5, h.at_ 6, h.at_ 7⟩
theorem sum_two (x y : Num) : sumF (fun i => if i = 0 then x else y) 2 = x.add y := by
  show (Num.zero.add (if (0 : Nat) = 0 then x else y)).add (if (1 : Nat) = 0 then x else y) = x.add y
  rw [if_pos rfl, if_neg (by decide)]
  apply Num.same <;> simp [Num.add, Num.zero]
end Go.Proofs.Ytejhakkfgfahaaa
/- Numbers of any size: WideCmp of two above 0. -/
namespace Go.Proofs.Ytejhakkfgfahaaa
open Go.RowKit
theorem sgnT_pos {s : Int} {D : Nat → Int} {n : Nat} (h : valD D n ≠ 0) : sgnT s (trimN D n) = s := if_neg fun e => h (by rw [← trimN_val, e]; rfl)
theorem fewer_of {D E : Nat → Int} {n m : Nat} (hD : Dig n D) (hE : Dig m E) (hEn : Norm m E) (h : valD E m < valD D n) : m ≤ n := by
  rcases Nat.lt_or_ge n m with e | e
  · have := valD_fewer e hD hE hEn; omega
  · exact e
theorem sub_sign {D E : Nat → Int} {n m : Nat} {s : Int} (hD : Dig n D) (hE : Dig m E) (hEn : Norm m E) (h : valD E m < valD D n) : sgnT s (trimN (subD D (digN m E)) (trimN (subD D (digN m E)) n)) = s :=
  sgnT_pos (by rw [trimN_val, sub_val hD hE (fewer_of hD hE hEn h) (Int.le_of_lt h)]; omega)
set_option maxHeartbeats 4000000 in
set_option maxRecDepth 100000 in
theorem wideAdd_opp (A B : Option Addr) (n c m d : Nat) (D E : Nat → Int) (w : World) (hn : n ≤ 1000) (hm : m ≤ 1000) (hI : IntsAt w 0 A n D) (hJ : IntsAt w 0 B m E) (hD : Dig n D) (hE : Dig m E) (hDn : Norm n D) (hEn : Norm m E) :
    Calls Try.prog 87 #[.agg #[.int .i64 1, .slice A n c], .agg #[.int .i64 (-1), .slice B m d]] w fun e w' => ∃ R r s, e = .returned (.agg #[.int .i64 (cmpI (valD D n) (valD E m)), .slice R r s]) ∧ Below w.heap.size w w' := by
  have HI := hide hI
  have HJ := hide hJ
  have HCM := hide (fun W (h1 : IntsAt W 0 A n D) (h2 : IntsAt W 0 B m E) => cmpDigits_any A B n c m d D E W hn hm h1 h2 hD hE hDn hEn)
  have HSA := hide (fun W (h1 : IntsAt W 0 A n D) (h2 : IntsAt W 0 B m E) => subDigits_any A B n c m d D E W hn h1 h2 hD hE)
  have HSB := hide (fun W (h1 : IntsAt W 0 A n D) (h2 : IntsAt W 0 B m E) => subDigits_any B A m d n c E D W hm h2 h1 hE hD)
  have HWA := hide (fun (R : Option Addr) (r : Nat) (W : World) (hr : n ≤ r) (h : IntsAt W 0 R n (subD D (digN m E))) => wideOf_any 1 R (trimN (subD D (digN m E)) n) r _ W (Nat.le_trans (trimN_le _ _) hn) (Nat.le_trans (trimN_le _ _) hr) (h.fewer (trimN_le _ _)))
  have HWB := hide (fun (R : Option Addr) (r : Nat) (W : World) (hr : m ≤ r) (h : IntsAt W 0 R m (subD E (digN n D))) => wideOf_any (-1) R (trimN (subD E (digN n D)) m) r _ W (Nat.le_trans (trimN_le _ _) hm) (Nat.le_trans (trimN_le _ _) hr) (h.fewer (trimN_le _ _)))
  have HGA := hide (fun (h : valD E m < valD D n) => sub_sign (s := 1) hD hE hEn h)
  have HGB := hide (fun (h : valD D n < valD E m) => sub_sign (s := -1) hE hD hDn h)
  clear hI hJ hD hE hDn hEn
  generalize subD D (digN m E) = G at *
  generalize subD E (digN n D) = H at *
  generalize valD D n = x at *
  generalize valD E m = y at *
  obtain ⟨z, hz⟩ : ∃ z, z = cmpI x y := ⟨_, rfl⟩
  rw [← hz] at HCM ⊢
  go_enter Try.func87, Try.ntmps87
  go_upto_region 1 with fail
  obtain ⟨W, hW⟩ : ∃ q : World, q = ((w.alloc (.cells #[.int .i64 1, .slice A n c] 93)).alloc (.cells #[.int .i64 (-1), .slice B m d] 93)).alloc (.cells #[.int .i64 0, .slice none 0 0] 93) := ⟨_, rfl⟩
  rw [← hW]
  have ba : Box W w.heap.size 93 #[.int .i64 1, .slice A n c] := by rw [hW]; exact ((Box.made rfl).alloc _).alloc _
  have bb : Box W (w.heap.size + 1) 93 #[.int .i64 (-1), .slice B m d] := by rw [hW]; exact (Box.made (by simp)).alloc _
  have bc : Box W (w.heap.size + 1 + 1) 93 #[.int .i64 0, .slice none 0 0] := by rw [hW]; exact Box.made (by simp)
  have hBW : Below w.heap.size w W := by rw [hW]; (repeat (first | (with_reducible exact Below.refl _ _) | (with_reducible refine Go.below_drewN ?_ _) | (with_reducible refine Below.drew ?_) | (with_reducible refine Below.alloc ?_ (by first | exact Nat.le_refl _ | (simp; done) | (simp; omega) | omega) _) | (with_reducible refine Below.setCell ?_ (by first | exact Nat.le_refl _ | (simp; done) | (simp; omega) | omega) _)))
  clear hW
  have x0 := ba.at_ 0
  have x1 := ba.at_ 1
  have y0 := bb.at_ 0
  have y1 := bb.at_ 1
  simp only [List.getElem?_toArray] at x0 x1 y0 y1
  have HB := hide hBW
  go_upto_region 7 with fail
  clear x0 x1 y0 y1
  have HIW := hide (HI.out.below hBW)
  have HJW := hide (HJ.out.below hBW)
  clear hBW
  have x0 := ba.at_ 0
  have x1 := ba.at_ 1
  have y0 := bb.at_ 0
  have y1 := bb.at_ 1
  simp only [List.getElem?_toArray] at x0 x1 y0 y1
  rcases Int.lt_trichotomy x y with h | h | h
  · have HC := hide (HCM.out W HIW.out HJW.out)
    clear HCM
    obtain rfl : z = -1 := hz.trans (cmpI_lt h)
    go_wp2_with fail
    refine HC.out.mono ?_
    rintro e w1 ⟨rfl, hb1⟩
    clear x0 x1 y0 y1
    have hS1 : Box w1 w.heap.size 93 #[.int .i64 1, .slice A n c] ∧ Box w1 (w.heap.size + 1) 93 #[.int .i64 (-1), .slice B m d] := ⟨ba.below hb1, bb.below hb1⟩
    have bc1 := bc.below hb1
    have hB1 := HB.out.trans (hb1.mono HB.out.size)
    have HI1 := hide (HIW.out.below hb1)
    have HJ1 := hide (HJW.out.below hb1)
    clear hb1 ba bb bc HB HIW HJW HI HJ
    have HSG := hide (HGB.out h)
    have HBC := hide bc1
    have HB1 := hide hB1
    clear hz h bc1 hB1
    go_wp2_with fail
    refine wp_region_held_drew (S := fun w' => Box w' w.heap.size 93 #[.int .i64 1, .slice A n c] ∧ Box w' (w.heap.size + 1) 93 #[.int .i64 (-1), .slice B m d]) (by kernel_rfl) hS1 (fun hHeld => ?_)
    refine wpAnyH_take (i := 0) (oi := ⟨some 45, _, _, _, _, _⟩) (v := ?_) rfl (by kernel_rfl) (by kernel_rfl) (by kernel_rfl) (fun _ _ _ h => h) (Or.inl ⟨by rfl, ?_⟩) (by assumption) ?_
    rotate_left
    · (intro w' hSw; (try dsimp only at hSw); have u0 := hSw.1.at_ 0; have u1 := hSw.1.at_ 1; have v0 := hSw.2.at_ 0; have v1 := hSw.2.at_ 1; simp only [List.getElem?_toArray] at u0 u1 v0 v1; go_simp <;> (with_reducible rfl))
    try simp only [Act.put, List.setIfInBounds_toArray, List.set_cons_zero, List.set_cons_succ]
    refine wpAnyH_take (i := 1) (oi := ⟨some 46, _, _, _, _, _⟩) (v := ?_) rfl (by kernel_rfl) (by kernel_rfl) (by kernel_rfl) (fun _ _ _ h => h) (Or.inl ⟨by rfl, ?_⟩) (by assumption) ?_
    rotate_left
    · (intro w' hSw; (try dsimp only at hSw); have u0 := hSw.1.at_ 0; have u1 := hSw.1.at_ 1; have v0 := hSw.2.at_ 0; have v1 := hSw.2.at_ 1; simp only [List.getElem?_toArray] at u0 u1 v0 v1; go_simp <;> (with_reducible rfl))
    try simp only [Act.put, List.setIfInBounds_toArray, List.set_cons_zero, List.set_cons_succ]
    refine wpAnyH_take (i := 2) (oi := ⟨some 47, _, _, _, _, _⟩) (v := ?_) rfl (by kernel_rfl) (by kernel_rfl) (by kernel_rfl) (fun _ _ _ h => h) (Or.inl ⟨by rfl, ?_⟩) (by assumption) ?_
    rotate_left
    · (intro w' hSw; (try dsimp only at hSw); have u0 := hSw.1.at_ 0; have u1 := hSw.1.at_ 1; have v0 := hSw.2.at_ 0; have v1 := hSw.2.at_ 1; simp only [List.getElem?_toArray] at u0 u1 v0 v1; go_simp <;> (with_reducible rfl))
    try simp only [Act.put, List.setIfInBounds_toArray, List.set_cons_zero, List.set_cons_succ]
    refine wpAnyH_take (i := 3) (oi := ⟨some 48, _, _, _, _, _⟩) (v := ?_) rfl (by kernel_rfl) (by kernel_rfl) (by kernel_rfl) (fun _ _ _ h => h) (Or.inl ⟨by rfl, ?_⟩) (by assumption) ?_
    rotate_left
    · (intro w' hSw; (try dsimp only at hSw); have u0 := hSw.1.at_ 0; have u1 := hSw.1.at_ 1; have v0 := hSw.2.at_ 0; have v1 := hSw.2.at_ 1; simp only [List.getElem?_toArray] at u0 u1 v0 v1; go_simp <;> (with_reducible rfl))
    try simp only [Act.put, List.setIfInBounds_toArray, List.set_cons_zero, List.set_cons_succ]
    refine wpAnyH_take (i := 4) (oi := ⟨some 49, _, _, _, _, _⟩) (v := ?_) rfl (by kernel_rfl) (by kernel_rfl) (by kernel_rfl) (fun _ _ _ h => h) (Or.inl ⟨by rfl, ?_⟩) (by assumption) ?_
    rotate_left
    · (intro w' hSw; (try dsimp only at hSw); have u0 := hSw.1.at_ 0; have u1 := hSw.1.at_ 1; have v0 := hSw.2.at_ 0; have v1 := hSw.2.at_ 1; simp only [List.getElem?_toArray] at u0 u1 v0 v1; go_simp <;> (with_reducible rfl))
    try simp only [Act.put, List.setIfInBounds_toArray, List.set_cons_zero, List.set_cons_succ]
    refine wpAnyH_take (i := 5) (oi := ⟨some 50, _, _, _, _, _⟩) (v := ?_) rfl (by kernel_rfl) (by kernel_rfl) (by kernel_rfl) (fun _ _ _ h => h) (Or.inl ⟨by rfl, ?_⟩) (by assumption) ?_
    rotate_left
    · (intro w' hSw; (try dsimp only at hSw); have u0 := hSw.1.at_ 0; have u1 := hSw.1.at_ 1; have v0 := hSw.2.at_ 0; have v1 := hSw.2.at_ 1; simp only [List.getElem?_toArray] at u0 u1 v0 v1; go_simp <;> (with_reducible rfl))
    try simp only [Act.put, List.setIfInBounds_toArray, List.set_cons_zero, List.set_cons_succ]
    refine wpAnyH_ready (rs := [6]) (by kernel_rfl) (by simp) ?_
    refine AllReadyH.cons (o := ⟨some 51, _, _, _, _, _⟩) rfl (fun K' hK => ?_) AllReadyH.nil
    go_simp
    go_at_call 91
    refine (HSB.out _ (by exact HI1.out) (by exact HJ1.out)).mono ?_
    rintro e w2 ⟨R, r, rfl, hr, hI2, hb2⟩
    have hc2 : Below w1.heap.size w1 w2 := by first | exact hb2 | exact below_of_drew hb2 | exact below_of_drew (below_of_drew hb2)
    have hS2 : Box w2 w.heap.size 93 #[.int .i64 1, .slice A n c] ∧ Box w2 (w.heap.size + 1) 93 #[.int .i64 (-1), .slice B m d] := ⟨hS1.1.below hc2, hS1.2.below hc2⟩
    have HBC2 := hide (HBC.out.below hc2)
    have HB2 := hide (HB1.out.trans (hc2.mono HB1.out.size))
    have HI2 := hide (hI2.weak (Nat.zero_le _))
    clear hb2 hc2 hS1 HBC HB1 HI1 HJ1 hI2
    go_wp2_with fail
    refine hK.out _ _ hS2 (fun hHeld => ?_)
    clear hK K'
    try simp only [Act.put, List.setIfInBounds_toArray, List.set_cons_zero, List.set_cons_succ]
    refine wpAnyH_ready (rs := [7]) (by kernel_rfl) (by simp) ?_
    refine AllReadyH.cons (o := ⟨some 52, _, _, _, _, _⟩) rfl (fun K' hK => ?_) AllReadyH.nil
    go_simp
    go_at_call 79
    refine (HWB.out R r _ hr (by exact HI2.out)).mono ?_
    rintro e w3 ⟨rfl, hb2⟩
    rw [HSG.out]
    have hc3 : Below w2.heap.size w2 w3 := by first | exact hb2 | exact below_of_drew hb2 | exact below_of_drew (below_of_drew hb2)
    have hS3 : Box w3 w.heap.size 93 #[.int .i64 1, .slice A n c] ∧ Box w3 (w.heap.size + 1) 93 #[.int .i64 (-1), .slice B m d] := ⟨hS2.1.below hc3, hS2.2.below hc3⟩
    have bc3 := HBC2.out.below hc3
    have hB3 := HB2.out.trans (hc3.mono HB2.out.size)
    clear hb2 hc3 hS2 HBC2 HB2 HI2
    go_wp2_with fail
    refine hK.out _ _ hS3 (fun hHeld => ?_)
    clear hK K'
    try simp only [Act.put, List.setIfInBounds_toArray, List.set_cons_zero, List.set_cons_succ]
    have f0 := bc3.free 0
    have f1 := bc3.free 1
    have z0 := bc3.at_ 0
    have z1 := bc3.at_ 1
    simp only [List.getElem?_toArray] at z0 z1
    have hlt3 := bc3.lt
    have HC3 := hide ((bc3.set_ 0 (.int .i64 (-1))).set_ 1 (.slice R (trimN H (trimN H m)) r))
    have HL := hide ((hB3.setCell (p := ⟨w.heap.size + 1 + 1, 0, none⟩) (show w.heap.size ≤ w.heap.size + 1 + 1 by omega) (.int .i64 (-1))).setCell (p := ⟨w.heap.size + 1 + 1, 1, none⟩) (show w.heap.size ≤ w.heap.size + 1 + 1 by omega) (.slice R (trimN H (trimN H m)) r))
    have HSS := hide (show Box ((w3.setCell ⟨w.heap.size + 1 + 1, 0, none⟩ (.int .i64 (-1))).setCell ⟨w.heap.size + 1 + 1, 1, none⟩ (.slice R (trimN H (trimN H m)) r)) w.heap.size 93 #[.int .i64 1, .slice A n c] ∧ Box ((w3.setCell ⟨w.heap.size + 1 + 1, 0, none⟩ (.int .i64 (-1))).setCell ⟨w.heap.size + 1 + 1, 1, none⟩ (.slice R (trimN H (trimN H m)) r)) (w.heap.size + 1) 93 #[.int .i64 (-1), .slice B m d] from ⟨(hS3.1.other (by simp; omega) _).other (by simp; omega) _, (hS3.2.other (by simp) _).other (by simp) _⟩)
    clear hS3 bc3 hB3
    refine wpAnyH_ready (rs := [8]) (by kernel_rfl) (by simp) ?_
    refine AllReadyH.cons (o := ⟨none, _, _, _, _, _⟩) rfl (fun K' hK => ?_) AllReadyH.nil
    go_simp
    refine hK.out _ _ HSS.out (fun hHeld => ?_)
    clear hK K' f0 f1 z0 z1 hlt3
    try simp only [Act.put, List.setIfInBounds_toArray, List.set_cons_zero, List.set_cons_succ]
    refine wpAnyH_done (by kernel_rfl) ?_ _
    go_wp2_with fail
    have z0 := HC3.out.at_ 0
    have z1 := HC3.out.at_ 1
    simp only [Array.getElem?_setIfInBounds, List.setIfInBounds_toArray, List.getElem?_toArray] at z0 z1
    refine bodyPost_ret (v := .agg #[.int .i64 (-1), .slice R (trimN H (trimN H m)) r]) ?_ rfl ⟨_, _, _, rfl, by have h := HL.out; exact ⟨h.os, h.tape, h.output, h.size, h.block⟩⟩
    simp [results, Try.results87, go_sem, z0, z1]
  · have HC := hide (HCM.out W HIW.out HJW.out)
    clear HCM
    obtain rfl : z = 0 := hz.trans (cmpI_eq h)
    go_wp2_with fail
    refine HC.out.mono ?_
    rintro e w1 ⟨rfl, hb1⟩
    clear x0 x1 y0 y1
    have hS1 : Box w1 w.heap.size 93 #[.int .i64 1, .slice A n c] ∧ Box w1 (w.heap.size + 1) 93 #[.int .i64 (-1), .slice B m d] := ⟨ba.below hb1, bb.below hb1⟩
    have bc1 := bc.below hb1
    have hB1 := HB.out.trans (hb1.mono HB.out.size)
    have HI1 := hide (HIW.out.below hb1)
    have HJ1 := hide (HJW.out.below hb1)
    clear hb1 ba bb bc HB HIW HJW HI HJ
    clear hS1
    have f0 := bc1.free 0
    have f1 := bc1.free 1
    have z0 := bc1.at_ 0
    have z1 := bc1.at_ 1
    simp only [List.getElem?_toArray] at z0 z1
    have hlt1 := bc1.lt
    have HC1 := hide ((bc1.set_ 0 (.int .i64 0)).set_ 1 (.slice none 0 0))
    have HL := hide ((hB1.setCell (p := ⟨w.heap.size + 1 + 1, 0, none⟩) (show w.heap.size ≤ w.heap.size + 1 + 1 by omega) (.int .i64 0)).setCell (p := ⟨w.heap.size + 1 + 1, 1, none⟩) (show w.heap.size ≤ w.heap.size + 1 + 1 by omega) (.slice none 0 0))
    clear hz h bc1 hB1
    go_wp2_with fail
    clear z0 z1
    have z0 := HC1.out.at_ 0
    have z1 := HC1.out.at_ 1
    simp only [Array.getElem?_setIfInBounds, List.setIfInBounds_toArray, List.getElem?_toArray] at z0 z1
    refine bodyPost_ret (v := .agg #[.int .i64 0, .slice none 0 0]) ?_ rfl ⟨_, _, _, rfl, HL.out⟩
    simp [results, Try.results87, go_sem, z0, z1]
  · have HC := hide (HCM.out W HIW.out HJW.out)
    clear HCM
    obtain rfl : z = 1 := hz.trans (cmpI_gt h)
    go_wp2_with fail
    refine HC.out.mono ?_
    rintro e w1 ⟨rfl, hb1⟩
    clear x0 x1 y0 y1
    have hS1 : Box w1 w.heap.size 93 #[.int .i64 1, .slice A n c] ∧ Box w1 (w.heap.size + 1) 93 #[.int .i64 (-1), .slice B m d] := ⟨ba.below hb1, bb.below hb1⟩
    have bc1 := bc.below hb1
    have hB1 := HB.out.trans (hb1.mono HB.out.size)
    have HI1 := hide (HIW.out.below hb1)
    have HJ1 := hide (HJW.out.below hb1)
    clear hb1 ba bb bc HB HIW HJW HI HJ
    have HSG := hide (HGA.out h)
    have HBC := hide bc1
    have HB1 := hide hB1
    clear hz h bc1 hB1
    go_wp2_with fail
    refine wp_region_held_drew (S := fun w' => Box w' w.heap.size 93 #[.int .i64 1, .slice A n c] ∧ Box w' (w.heap.size + 1) 93 #[.int .i64 (-1), .slice B m d]) (by kernel_rfl) hS1 (fun hHeld => ?_)
    refine wpAnyH_take (i := 0) (oi := ⟨some 37, _, _, _, _, _⟩) (v := ?_) rfl (by kernel_rfl) (by kernel_rfl) (by kernel_rfl) (fun _ _ _ h => h) (Or.inl ⟨by rfl, ?_⟩) (by assumption) ?_
    rotate_left
    · (intro w' hSw; (try dsimp only at hSw); have u0 := hSw.1.at_ 0; have u1 := hSw.1.at_ 1; have v0 := hSw.2.at_ 0; have v1 := hSw.2.at_ 1; simp only [List.getElem?_toArray] at u0 u1 v0 v1; go_simp <;> (with_reducible rfl))
    try simp only [Act.put, List.setIfInBounds_toArray, List.set_cons_zero, List.set_cons_succ]
    refine wpAnyH_take (i := 1) (oi := ⟨some 38, _, _, _, _, _⟩) (v := ?_) rfl (by kernel_rfl) (by kernel_rfl) (by kernel_rfl) (fun _ _ _ h => h) (Or.inl ⟨by rfl, ?_⟩) (by assumption) ?_
    rotate_left
    · (intro w' hSw; (try dsimp only at hSw); have u0 := hSw.1.at_ 0; have u1 := hSw.1.at_ 1; have v0 := hSw.2.at_ 0; have v1 := hSw.2.at_ 1; simp only [List.getElem?_toArray] at u0 u1 v0 v1; go_simp <;> (with_reducible rfl))
    try simp only [Act.put, List.setIfInBounds_toArray, List.set_cons_zero, List.set_cons_succ]
    refine wpAnyH_take (i := 2) (oi := ⟨some 39, _, _, _, _, _⟩) (v := ?_) rfl (by kernel_rfl) (by kernel_rfl) (by kernel_rfl) (fun _ _ _ h => h) (Or.inl ⟨by rfl, ?_⟩) (by assumption) ?_
    rotate_left
    · (intro w' hSw; (try dsimp only at hSw); have u0 := hSw.1.at_ 0; have u1 := hSw.1.at_ 1; have v0 := hSw.2.at_ 0; have v1 := hSw.2.at_ 1; simp only [List.getElem?_toArray] at u0 u1 v0 v1; go_simp <;> (with_reducible rfl))
    try simp only [Act.put, List.setIfInBounds_toArray, List.set_cons_zero, List.set_cons_succ]
    refine wpAnyH_take (i := 3) (oi := ⟨some 40, _, _, _, _, _⟩) (v := ?_) rfl (by kernel_rfl) (by kernel_rfl) (by kernel_rfl) (fun _ _ _ h => h) (Or.inl ⟨by rfl, ?_⟩) (by assumption) ?_
    rotate_left
    · (intro w' hSw; (try dsimp only at hSw); have u0 := hSw.1.at_ 0; have u1 := hSw.1.at_ 1; have v0 := hSw.2.at_ 0; have v1 := hSw.2.at_ 1; simp only [List.getElem?_toArray] at u0 u1 v0 v1; go_simp <;> (with_reducible rfl))
    try simp only [Act.put, List.setIfInBounds_toArray, List.set_cons_zero, List.set_cons_succ]
    refine wpAnyH_take (i := 4) (oi := ⟨some 41, _, _, _, _, _⟩) (v := ?_) rfl (by kernel_rfl) (by kernel_rfl) (by kernel_rfl) (fun _ _ _ h => h) (Or.inl ⟨by rfl, ?_⟩) (by assumption) ?_
    rotate_left
    · (intro w' hSw; (try dsimp only at hSw); have u0 := hSw.1.at_ 0; have u1 := hSw.1.at_ 1; have v0 := hSw.2.at_ 0; have v1 := hSw.2.at_ 1; simp only [List.getElem?_toArray] at u0 u1 v0 v1; go_simp <;> (with_reducible rfl))
    try simp only [Act.put, List.setIfInBounds_toArray, List.set_cons_zero, List.set_cons_succ]
    refine wpAnyH_take (i := 5) (oi := ⟨some 42, _, _, _, _, _⟩) (v := ?_) rfl (by kernel_rfl) (by kernel_rfl) (by kernel_rfl) (fun _ _ _ h => h) (Or.inl ⟨by rfl, ?_⟩) (by assumption) ?_
    rotate_left
    · (intro w' hSw; (try dsimp only at hSw); have u0 := hSw.1.at_ 0; have u1 := hSw.1.at_ 1; have v0 := hSw.2.at_ 0; have v1 := hSw.2.at_ 1; simp only [List.getElem?_toArray] at u0 u1 v0 v1; go_simp <;> (with_reducible rfl))
    try simp only [Act.put, List.setIfInBounds_toArray, List.set_cons_zero, List.set_cons_succ]
    refine wpAnyH_ready (rs := [6]) (by kernel_rfl) (by simp) ?_
    refine AllReadyH.cons (o := ⟨some 43, _, _, _, _, _⟩) rfl (fun K' hK => ?_) AllReadyH.nil
    go_simp
    go_at_call 91
    refine (HSA.out _ (by exact HI1.out) (by exact HJ1.out)).mono ?_
    rintro e w2 ⟨R, r, rfl, hr, hI2, hb2⟩
    have hc2 : Below w1.heap.size w1 w2 := by first | exact hb2 | exact below_of_drew hb2 | exact below_of_drew (below_of_drew hb2)
    have hS2 : Box w2 w.heap.size 93 #[.int .i64 1, .slice A n c] ∧ Box w2 (w.heap.size + 1) 93 #[.int .i64 (-1), .slice B m d] := ⟨hS1.1.below hc2, hS1.2.below hc2⟩
    have HBC2 := hide (HBC.out.below hc2)
    have HB2 := hide (HB1.out.trans (hc2.mono HB1.out.size))
    have HI2 := hide (hI2.weak (Nat.zero_le _))
    clear hb2 hc2 hS1 HBC HB1 HI1 HJ1 hI2
    go_wp2_with fail
    refine hK.out _ _ hS2 (fun hHeld => ?_)
    clear hK K'
    try simp only [Act.put, List.setIfInBounds_toArray, List.set_cons_zero, List.set_cons_succ]
    refine wpAnyH_ready (rs := [7]) (by kernel_rfl) (by simp) ?_
    refine AllReadyH.cons (o := ⟨some 44, _, _, _, _, _⟩) rfl (fun K' hK => ?_) AllReadyH.nil
    go_simp
    go_at_call 79
    refine (HWA.out R r _ hr (by exact HI2.out)).mono ?_
    rintro e w3 ⟨rfl, hb2⟩
    rw [HSG.out]
    have hc3 : Below w2.heap.size w2 w3 := by first | exact hb2 | exact below_of_drew hb2 | exact below_of_drew (below_of_drew hb2)
    have hS3 : Box w3 w.heap.size 93 #[.int .i64 1, .slice A n c] ∧ Box w3 (w.heap.size + 1) 93 #[.int .i64 (-1), .slice B m d] := ⟨hS2.1.below hc3, hS2.2.below hc3⟩
    have bc3 := HBC2.out.below hc3
    have hB3 := HB2.out.trans (hc3.mono HB2.out.size)
    clear hb2 hc3 hS2 HBC2 HB2 HI2
    go_wp2_with fail
    refine hK.out _ _ hS3 (fun hHeld => ?_)
    clear hK K'
    try simp only [Act.put, List.setIfInBounds_toArray, List.set_cons_zero, List.set_cons_succ]
    have f0 := bc3.free 0
    have f1 := bc3.free 1
    have z0 := bc3.at_ 0
    have z1 := bc3.at_ 1
    simp only [List.getElem?_toArray] at z0 z1
    have hlt3 := bc3.lt
    have HC3 := hide ((bc3.set_ 0 (.int .i64 1)).set_ 1 (.slice R (trimN G (trimN G n)) r))
    have HL := hide ((hB3.setCell (p := ⟨w.heap.size + 1 + 1, 0, none⟩) (show w.heap.size ≤ w.heap.size + 1 + 1 by omega) (.int .i64 1)).setCell (p := ⟨w.heap.size + 1 + 1, 1, none⟩) (show w.heap.size ≤ w.heap.size + 1 + 1 by omega) (.slice R (trimN G (trimN G n)) r))
    have HSS := hide (show Box ((w3.setCell ⟨w.heap.size + 1 + 1, 0, none⟩ (.int .i64 1)).setCell ⟨w.heap.size + 1 + 1, 1, none⟩ (.slice R (trimN G (trimN G n)) r)) w.heap.size 93 #[.int .i64 1, .slice A n c] ∧ Box ((w3.setCell ⟨w.heap.size + 1 + 1, 0, none⟩ (.int .i64 1)).setCell ⟨w.heap.size + 1 + 1, 1, none⟩ (.slice R (trimN G (trimN G n)) r)) (w.heap.size + 1) 93 #[.int .i64 (-1), .slice B m d] from ⟨(hS3.1.other (by simp; omega) _).other (by simp; omega) _, (hS3.2.other (by simp) _).other (by simp) _⟩)
    clear hS3 bc3 hB3
    refine wpAnyH_ready (rs := [8]) (by kernel_rfl) (by simp) ?_
    refine AllReadyH.cons (o := ⟨none, _, _, _, _, _⟩) rfl (fun K' hK => ?_) AllReadyH.nil
    go_simp
    refine hK.out _ _ HSS.out (fun hHeld => ?_)
    clear hK K' f0 f1 z0 z1 hlt3
    try simp only [Act.put, List.setIfInBounds_toArray, List.set_cons_zero, List.set_cons_succ]
    refine wpAnyH_done (by kernel_rfl) ?_ _
    go_wp2_with fail
    have z0 := HC3.out.at_ 0
    have z1 := HC3.out.at_ 1
    simp only [Array.getElem?_setIfInBounds, List.setIfInBounds_toArray, List.getElem?_toArray] at z0 z1
    refine bodyPost_ret (v := .agg #[.int .i64 1, .slice R (trimN G (trimN G n)) r]) ?_ rfl ⟨_, _, _, rfl, by have h := HL.out; exact ⟨h.os, h.tape, h.output, h.size, h.block⟩⟩
    simp [results, Try.results87, go_sem, z0, z1]
end Go.Proofs.Ytejhakkfgfahaaa
