/- Lemmas: S67, S21, S22, S49, S77. -/
import Derived.Test.YtceohaeebdhmjaaBk04
import Derived.Test.YtceohaeebdhmjaaBk06
import Derived.Test.YtceohaeebdhmjaaBk15
import Derived.Test.YtceohaeebdhmjaaBk16
import Derived.Test.YtceohaeebdhmjaaBk17
import Derived.Test.YtceohaeebdhmjaaBk18
import Derived.Test.YtceohaeebdhmjaaBk20
import Derived.Test.YtceohaeebdhmjaaBk21
set_option linter.unusedVariables false
set_option linter.unusedSimpArgs false
/- The examples of the Top statements of chapter 3: symbolAwake. -/
namespace Go.Proofs.Ytceohaeebdhmjaa
open Go Go.RowKit Go.Lib Ieee
theorem gausB_selfT {n : Nat} {F : Nat → Gau} : gausB n F n F = true := gausB_iff.2 ⟨rfl, fun _ _ => rfl⟩
set_option maxHeartbeats 16000000 in
set_option maxRecDepth 100000 in
theorem symbolAwake_any (w : World) : Calls Try.prog 50 #[] w fun e w' => e = .returned (.bool true) ∧ Below w.heap.size w w' := by
  have HB := hide (Below.refl w.heap.size w)
  go_enter Try.func50, Try.ntmps50
  go_wp2_with fail
  obtain ⟨v1, hv1⟩ : ∃ z : World, z = (w.alloc (.cells #[.int .i64 0, .int .i64 1, .int .i64 1, .int .i64 0] 3)) := ⟨_, rfl⟩
  try rw [← hv1]
  have HA := hide (show Box v1 (w.heap.size) 3 #[.int .i64 0, .int .i64 1, .int .i64 1, .int .i64 0] by rw [hv1]; exact Box.made rfl)
  have hb1 : Below w.heap.size w v1 := by rw [hv1]; (repeat (first | (with_reducible exact Below.refl _ _) | (with_reducible refine Go.below_drewN ?_ _) | (with_reducible refine Below.drew ?_) | (with_reducible refine Below.alloc ?_ (by first | exact Nat.le_refl _ | (simp; done) | (simp; omega) | omega) _) | (with_reducible refine Below.setCell ?_ (by first | exact Nat.le_refl _ | (simp; done) | (simp; omega) | omega) _)))
  clear hv1
  replace HB := hide (HB.out.trans (hb1.mono HB.out.size))
  clear hb1
  obtain ⟨b1, eb1⟩ : ∃ z, w.heap.size = z := ⟨_, rfl⟩
  simp only [eb1] at HA
  try simp only [eb1]
  clear eb1
  refine (mod_ex (b1) _ (ints_lit [0, 1, 1, 0] HA.out rfl)).mono ?_
  rintro e_ v2 ⟨Am, cm, rfl, hm, hb2⟩
  replace HA := hide (HA.out.below hb2)
  replace HB := hide (HB.out.trans (hb2.mono HB.out.size))
  clear hb2
  have HM := hide hm
  clear hm
  go_wp2_with fail
  clear HA
  obtain ⟨v3, hv3⟩ : ∃ z : World, z = (v2.alloc (.cells #[.int .i64 5, .int .i64 1] 43)) := ⟨_, rfl⟩
  try rw [← hv3]
  have HA := hide (show Box v3 (v2.heap.size) 43 #[.int .i64 5, .int .i64 1] by rw [hv3]; exact Box.made rfl)
  have hb3 : Below v2.heap.size v2 v3 := by rw [hv3]; (repeat (first | (with_reducible exact Below.refl _ _) | (with_reducible refine Go.below_drewN ?_ _) | (with_reducible refine Below.drew ?_) | (with_reducible refine Below.alloc ?_ (by first | exact Nat.le_refl _ | (simp; done) | (simp; omega) | omega) _) | (with_reducible refine Below.setCell ?_ (by first | exact Nat.le_refl _ | (simp; done) | (simp; omega) | omega) _)))
  clear hv3
  replace HM := hide (HM.out.below hb3)
  replace HB := hide (HB.out.trans (hb3.mono HB.out.size))
  clear hb3
  obtain ⟨b3, eb3⟩ : ∃ z, v2.heap.size = z := ⟨_, rfl⟩
  simp only [eb3] at HA
  try simp only [eb3]
  clear eb3
  refine (soft_ex (b3) _ (gaus_lit1 (x := ⟨5, 1⟩) HA.out)).mono ?_
  rintro e_ v4 ⟨As, cs, rfl, hs, hb4⟩
  replace HM := hide (HM.out.below hb4)
  replace HA := hide (HA.out.below hb4)
  replace HB := hide (HB.out.trans (hb4.mono HB.out.size))
  clear hb4
  have HSO := hide hs
  clear hs
  go_wp2_with fail
  clear HA
  obtain ⟨v5, hv5⟩ : ∃ z : World, z = (v4.alloc (.cells #[.int .i64 3, .int .i64 (-1)] 43)) := ⟨_, rfl⟩
  try rw [← hv5]
  have HA := hide (show Box v5 (v4.heap.size) 43 #[.int .i64 3, .int .i64 (-1)] by rw [hv5]; exact Box.made rfl)
  have hb5 : Below v4.heap.size v4 v5 := by rw [hv5]; (repeat (first | (with_reducible exact Below.refl _ _) | (with_reducible refine Go.below_drewN ?_ _) | (with_reducible refine Below.drew ?_) | (with_reducible refine Below.alloc ?_ (by first | exact Nat.le_refl _ | (simp; done) | (simp; omega) | omega) _) | (with_reducible refine Below.setCell ?_ (by first | exact Nat.le_refl _ | (simp; done) | (simp; omega) | omega) _)))
  clear hv5
  replace HM := hide (HM.out.below hb5)
  replace HSO := hide (HSO.out.below hb5)
  replace HB := hide (HB.out.trans (hb5.mono HB.out.size))
  clear hb5
  obtain ⟨b5, eb5⟩ : ∃ z, v4.heap.size = z := ⟨_, rfl⟩
  simp only [eb5] at HA
  try simp only [eb5]
  clear eb5
  have H8 := hide (gausses_any Am (some ⟨(b5), 0, none⟩) 1 1 cm 1 (fun _ => ⟨3, -1⟩) (fun _ => ⟨3, -1⟩) _ (by decide) (by decide) HM.out (gaus_lit1 (x := ⟨3, -1⟩) HA.out))
  rw [gausB_selfT] at H8
  refine H8.out.mono ?_
  rintro e_ v6 ⟨rfl, q6, hq6⟩
  have hb6 : Below v5.heap.size v5 v6 := by rw [hq6]; exact Go.below_drewN (Below.refl _ _) _
  clear hq6
  replace HM := hide (HM.out.below hb6)
  replace HSO := hide (HSO.out.below hb6)
  replace HA := hide (HA.out.below hb6)
  replace HB := hide (HB.out.trans (hb6.mono HB.out.size))
  clear hb6
  clear H8
  go_wp2_with fail
  clear HM HA
  obtain ⟨v7, hv7⟩ : ∃ z : World, z = (v6.alloc (.cells #[.int .i64 48, .int .i64 8, .int .i64 (-8), .int .i64 24] 3)) := ⟨_, rfl⟩
  try rw [← hv7]
  have HA := hide (show Box v7 (v6.heap.size) 3 #[.int .i64 48, .int .i64 8, .int .i64 (-8), .int .i64 24] by rw [hv7]; exact Box.made rfl)
  have hb7 : Below v6.heap.size v6 v7 := by rw [hv7]; (repeat (first | (with_reducible exact Below.refl _ _) | (with_reducible refine Go.below_drewN ?_ _) | (with_reducible refine Below.drew ?_) | (with_reducible refine Below.alloc ?_ (by first | exact Nat.le_refl _ | (simp; done) | (simp; omega) | omega) _) | (with_reducible refine Below.setCell ?_ (by first | exact Nat.le_refl _ | (simp; done) | (simp; omega) | omega) _)))
  clear hv7
  replace HSO := hide (HSO.out.below hb7)
  replace HB := hide (HB.out.trans (hb7.mono HB.out.size))
  clear hb7
  obtain ⟨b7, eb7⟩ : ∃ z, v6.heap.size = z := ⟨_, rfl⟩
  simp only [eb7] at HA
  try simp only [eb7]
  clear eb7
  have H9 := hide (ints_any As (some ⟨(b7), 0, none⟩) 4 4 cs 4 exSoft exSoft _ (by decide) (by decide) HSO.out (ints_lit [48, 8, -8, 24] HA.out rfl))
  rw [intsB_self] at H9
  refine H9.out.mono ?_
  rintro e_ v8 ⟨rfl, q8, hq8⟩
  have hb8 : Below v7.heap.size v7 v8 := by rw [hq8]; exact Go.below_drewN (Below.refl _ _) _
  clear hq8
  replace HSO := hide (HSO.out.below hb8)
  replace HA := hide (HA.out.below hb8)
  replace HB := hide (HB.out.trans (hb8.mono HB.out.size))
  clear hb8
  clear H9
  go_wp2_with fail
  go_ret
  exact ⟨rfl, HB.out⟩
end Go.Proofs.Ytceohaeebdhmjaa
/- LevelErr of the reference; short of the statements. -/
namespace Go.Proofs.Ytceohaeebdhmjaa
open Go.RowKit Go.Lib
end Go.Proofs.Ytceohaeebdhmjaa
/- SameRegister of the reference. -/
namespace Go.Proofs.Ytceohaeebdhmjaa
open Go.RowKit Go.Lib
end Go.Proofs.Ytceohaeebdhmjaa
/- Registers that are right: contracts of copies, jumps and steps with what they hand back; mathematics of a period. -/
namespace Go.Proofs.Ytceohaeebdhmjaa
open Go Go.RowKit Go.Lib
theorem itS_per {L n : Nat} {T S : Nat → Int} {p : Nat} (hok : RegOk L n T S) (h : IsPer L n T S p) (k j : Nat) (hj : j < L) : itS L n T S (p + k) j = itS L n T S k j := by
  rw [itS_add]
  exact itS_congr (fun i hi => hok.low i hi) h.back k j hj
theorem itS_mod {L n : Nat} {T S : Nat → Int} {p : Nat} (hok : RegOk L n T S) (h : IsPer L n T S p) (k : Nat) : ∀ j, j < L → itS L n T S k j = itS L n T S (k % p) j := by
  induction k using Nat.strongRecOn with
  | ind k ih =>
    intro j hj
    have hp := h.pos
    by_cases hk : k < p
    · rw [Nat.mod_eq_of_lt hk]
    · obtain ⟨d, rfl⟩ : ∃ d, k = p + d := ⟨k - p, by omega⟩
      rw [itS_per hok h d j hj, ih d (by omega) j hj, Nat.add_mod_left]
theorem IsPer.it {L n : Nat} {T S : Nat → Int} {p : Nat} (hok : RegOk L n T S) (h : IsPer L n T S p) (a : Nat) : IsPer L n T (itS L n T S a) p := by
  refine ⟨h.pos, h.most, fun j hj => ?_, fun q h1 h2 => ?_⟩
  · rw [← itS_add, Nat.add_comm]
    exact itS_per hok h a j hj
  · by_cases hx : ∃ j, j < L ∧ itS L n T (itS L n T S a) q j ≠ itS L n T S a j
    · exact hx
    · obtain ⟨j, hj, hne⟩ := h.first q h1 h2
      refine absurd (itS_inj hok (a := a) (b := q) (fun i hi => ?_) j hj) hne
      rw [itS_add]
      exact Classical.byContradiction fun hn => hx ⟨i, hi, hn⟩
theorem bitE_bits {m : Nat} {S S' : Nat → Int} {L : Int} (h : bitE m S L = 0) (hb : ∀ j, j < m → IsBit (S' j)) : bitE m S' L = 0 := by
  unfold bitE at h ⊢
  by_cases h0 : m = 0
  · rw [if_pos h0] at h; exact absurd h (by decide)
  rw [if_neg h0] at h ⊢
  by_cases h1 : L < (m : Int)
  · rw [if_pos h1] at h; exact absurd h (by decide)
  rw [if_neg h1]
  unfold unI
  rw [if_pos (bitsB_iff.2 hb)]
theorem regE_bits {L : Int} {n m : Nat} {T S S' : Nat → Int} (h : regE L n T m S = 0) (hb : ∀ j, j < m → IsBit (S' j)) : regE L n T m S' = 0 := by
  unfold regE at h ⊢
  by_cases h0 : withinB L 2 10 = true
  case neg => rw [if_neg h0] at h; exact absurd h (by decide)
  rw [if_pos h0] at h ⊢
  by_cases h1 : tapE L n T = 0
  case neg => rw [if_neg h1] at h; exact absurd h h1
  rw [if_pos h1] at h ⊢
  by_cases h2 : (m : Int) = L
  case neg => rw [if_neg h2] at h; exact absurd h (by decide)
  rw [if_pos h2] at h ⊢
  exact bitE_bits h hb
theorem copyOk (L : Int) (A B : Option Addr) (n c m d : Nat) (T S : Nat → Int) (w : World) (hn : n ≤ 100000) (hm : m ≤ 100000) (hn0 : 0 < n) (hm0 : 0 < m) (hT : IntsAt w 0 A n T) (hS : IntsAt w 0 B m S) :
    Calls Try.prog 53 #[.agg #[.int .i64 L, .slice A n c, .slice B m d]] w fun e w' => ∃ g f h k, e = .returned (.agg #[.int .i64 L, .slice (some ⟨g, 0, none⟩) n f, .slice (some ⟨h, 0, none⟩) m k]) ∧ IntsAt w' 0 (some ⟨g, 0, none⟩) n T ∧ IntsAt w' 0 (some ⟨h, 0, none⟩) m S ∧ Below w.heap.size w w' :=
  (CopyRegister_any L A B n c m d T S w hn hm hT hS).mono fun e w' ⟨C, f, D, k, e1, h1, h2, h3, _⟩ => by
    obtain ⟨g, f', e2, -, -⟩ := own_form h1 hn0
    obtain ⟨h, k', e3, -, -⟩ := own_form h2 hm0
    injection e2 with e2 _ e4
    injection e3 with e3 _ e5
    subst e2; subst e3
    exact ⟨g, f, h, k, e1, h1.atG (Nat.zero_le _), h2.atG (Nat.zero_le _), h3⟩
theorem jumpOk (b n c b2 m d p s t : Nat) (T S : Nat → Int) (w : World) (hz : regE ((m : Int) + 1) n T (m + 1) S = 0) (hok : RegOk (m + 1) n T S) (hp : IsPer (m + 1) n T S p) (hs9 : s ≤ 1000000000) (ht : t = s % p) (hT : IntsAt w 0 (some ⟨b, 0, none⟩) n T) (hS : IntsAt w 0 (some ⟨b2, 0, none⟩) (m + 1) S) :
    Calls Try.prog 55 #[.agg #[.int .i64 ((m : Int) + 1), .slice (some ⟨b, 0, none⟩) n c, .slice (some ⟨b2, 0, none⟩) (m + 1) d], .int .i64 (s : Int)] w fun e w' => ∃ g f h k, e = .returned (.tuple #[.agg #[.int .i64 ((m : Int) + 1), .slice (some ⟨g, 0, none⟩) n f, .slice (some ⟨h, 0, none⟩) (m + 1) k], .int .i64 0]) ∧
      IntsAt w' 0 (some ⟨g, 0, none⟩) n T ∧ IntsAt w' 0 (some ⟨h, 0, none⟩) (m + 1) (itS (m + 1) n T S t) ∧ Below w.heap.size w w' :=
  (Jumped_right b 0 n c b2 0 m d p s t T S w hz hok hp hs9 ht hT hS).mono fun e w' ⟨g, f, h, k, e1, h1, h2, h3⟩ => ⟨g, f, h, k, e1, h1.atG (Nat.zero_le _), h2.atG (Nat.zero_le _), h3⟩
end Go.Proofs.Ytceohaeebdhmjaa
/- The walk of TopSymbolScrambled. -/
namespace Go.Proofs.Ytceohaeebdhmjaa
open Go Go.RowKit Go.Lib Ieee
theorem wpList_append_intsG {ops : Array Oper} {rest : List Oper} {o : Oper} {a : Act} {Q : Exit → Act → World → Prop} (w : World) (hw : Region.wanted o (yielded ops a.tmps) = true) (s x : Operand)
    (ho : o.op = .call { callee := .builtin .append, args := #[s, x], argTypes := #[59, 59] })
    (base lo : Nat) (v : Value) (n : Nat) (F : Nat → Int) (hs : a.eval s = v) (hown : OwnInts w base v n F)
    (A : Option Addr) (m c : Nat) (G : Nat → Int) (hx : a.eval x = .slice A m c) (hr : IntsAt w lo A m G) (hnm : n + m ≤ 1000000000) (hbase : base ≤ w.heap.size)
    (h : ∀ v' w', OwnInts w' base v' (n + m) (catF n F G) → Below base w w' → wpList Try.prog ops Q rest (a.put o.dst v') w') : wpList Try.prog ops Q (o :: rest) a w :=
  wpList_step fun K hK => by
    rw [if_pos hw]
    exact wp_append_ints w s x ho base lo v n F hs hown A m c G hx hr hnm hbase fun v' w' h1 h2 => hK _ _ (h v' w' h1 h2)
theorem mixT_again {a b : Int} (ha : IsBit a) (hb : IsBit b) : xor1 a (xor1 a b) = b := by
  rcases ha with rfl | rfl <;> rcases hb with rfl | rfl <;> decide
theorem mixT_other {a c b : Int} (ha : IsBit a) (hc : IsBit c) (hb : IsBit b) : xor1 c (xor1 a b) = b ↔ a = c := by
  rcases ha with rfl | rfl <;> rcases hb with rfl | rfl <;> rcases hc with rfl | rfl <;> decide
theorem bitE_some {n : Nat} {F : Nat → Int} {k : Int} (h : bitE n F k = 0) : 0 < n ∧ ∀ j, j < n → IsBit (F j) := by
  unfold bitE at h
  by_cases h0 : n = 0
  · rw [if_pos h0] at h; exact absurd h (by decide)
  rw [if_neg h0] at h
  by_cases h1 : k < (n : Int)
  · rw [if_pos h1] at h; exact absurd h (by decide)
  rw [if_neg h1] at h
  unfold unI at h
  by_cases hb : bitsB n F = true
  · exact ⟨by omega, bitsB_iff.1 hb⟩
  · rw [if_neg hb] at h; exact absurd h (by decide)
theorem scrOk (A B C : Option Addr) (n c m d q r : Nat) (T S X : Nat → Int) (w : World) (hn : n ≤ 100000) (hm : m ≤ 10000) (hq : q ≤ 400) (hz : regE ((m : Int) + 1) n T (m + 1) S = 0) (hb : bitE q X 400 = 0) (hT : IntsAt w 0 A n T) (hS : IntsAt w 0 B (m + 1) S) (hX : IntsAt w 0 C q X) :
    Calls Try.prog 52 #[.agg #[.int .i64 ((m : Int) + 1), .slice A n c, .slice B (m + 1) d], .slice C q r] w fun e w' => ∃ g, e = .returned (.tuple #[.slice (some ⟨g, 0, none⟩) q q, .int .i64 0]) ∧ IntsAt w' 0 (some ⟨g, 0, none⟩) q (fun j => xor1 (itS (m + 1) n T S j 0) (X j)) ∧ Below w.heap.size w w' := by
  have h := Scrambled_any ((m : Int) + 1) A B C n c (m + 1) d q r T S X w hn (by omega) (by omega) hT hS hX
  have e0 : scrE ((m : Int) + 1) n T (m + 1) S q X = 0 := by unfold scrE; rw [hz, hb]; rfl
  rw [e0] at h
  refine h.mono ?_
  rintro e w' ⟨v, rfl, h1, -, h3⟩
  obtain ⟨⟨g, rfl⟩, hv⟩ := h1 rfl
  exact ⟨g, rfl, hv.atG (Nat.zero_le _), h3⟩
theorem seqOk (A B : Option Addr) (n c m d q : Nat) (T S : Nat → Int) (w : World) (hn : n ≤ 100000) (hm : m ≤ 10000) (hq0 : 0 < q) (hq : q ≤ 400) (hz : regE ((m : Int) + 1) n T (m + 1) S = 0) (hT : IntsAt w 0 A n T) (hS : IntsAt w 0 B (m + 1) S) :
    Calls Try.prog 54 #[.agg #[.int .i64 ((m : Int) + 1), .slice A n c, .slice B (m + 1) d], .int .i64 (q : Int)] w fun e w' => ∃ g, e = .returned (.tuple #[.slice (some ⟨g, 0, none⟩) q q, .int .i64 0]) ∧ IntsAt w' 0 (some ⟨g, 0, none⟩) q (fun j => itS (m + 1) n T S j 0) ∧ Below w.heap.size w w' := by
  have h := Sequence_any ((m : Int) + 1) (q : Int) A B n c (m + 1) d T S w hn (by omega) hT hS
  have e0 : seqE ((m : Int) + 1) n T (m + 1) S (q : Int) = 0 := by unfold seqE; rw [if_pos hz, if_pos (withinB_yes (by omega))]
  rw [e0] at h
  refine h.mono ?_
  rintro e w' ⟨v, rfl, h1, -, h3⟩
  obtain ⟨g, hv, ho⟩ := h1 rfl
  rw [Int.toNat_natCast] at hv ho
  subst hv
  exact ⟨g, rfl, ho.atG (Nat.zero_le _), h3⟩
set_option maxHeartbeats 64000000 in
set_option maxRecDepth 100000 in
theorem topSymbolScrambled_walk (L L2 : Int) (A B A2 B2 C : Option Addr) (n c m d n2 c2 m2 d2 q r : Nat) (T S T2 S2 X : Nat → Int) (w : World) (hT : IntsAt w 0 A n T) (hS : IntsAt w 0 B m S) (hT2 : IntsAt w 0 A2 n2 T2) (hS2 : IntsAt w 0 B2 m2 S2) (hX : IntsAt w 0 C q X) :
    Calls Try.prog 9 #[.agg #[.int .i64 L, .slice A n c, .slice B m d], .agg #[.int .i64 L2, .slice A2 n2 c2, .slice B2 m2 d2], .slice C q r] w fun e w' => e = .returned (.bool true) ∧ Below w.heap.size w w' := by
  have HB := hide (Below.refl w.heap.size w)
  have HTT := hide hT
  clear hT
  have HSS := hide hS
  clear hS
  have HT2 := hide hT2
  clear hT2
  have HS2 := hide hS2
  clear hS2
  have HQQ := hide hX
  clear hX
  go_enter Try.func9, Try.ntmps9
  go_upto_region 1 with fail
  obtain ⟨v1, hv1⟩ : ∃ z : World, z = ((w.alloc (.cells #[.int .i64 L, .slice A n c, .slice B m d] 81)).alloc (.cells #[.int .i64 L2, .slice A2 n2 c2, .slice B2 m2 d2] 81)) := ⟨_, rfl⟩
  try rw [← hv1]
  have HX := hide (show Box v1 (w.heap.size) 81 #[.int .i64 L, .slice A n c, .slice B m d] by rw [hv1]; exact (Box.made rfl).alloc _)
  have HY := hide (show Box v1 (w.heap.size + 1) 81 #[.int .i64 L2, .slice A2 n2 c2, .slice B2 m2 d2] by rw [hv1]; exact Box.made (by simp))
  have hb1 : Below w.heap.size w v1 := by rw [hv1]; (repeat (first | (with_reducible exact Below.refl _ _) | (with_reducible refine Go.below_drewN ?_ _) | (with_reducible refine Below.drew ?_) | (with_reducible refine Below.alloc ?_ (by first | exact Nat.le_refl _ | (simp; done) | (simp; omega) | omega) _) | (with_reducible refine Below.setCell ?_ (by first | exact Nat.le_refl _ | (simp; done) | (simp; omega) | omega) _)))
  clear hv1
  replace HTT := hide (HTT.out.below hb1)
  replace HSS := hide (HSS.out.below hb1)
  replace HT2 := hide (HT2.out.below hb1)
  replace HS2 := hide (HS2.out.below hb1)
  replace HQQ := hide (HQQ.out.below hb1)
  replace HB := hide (HB.out.trans (hb1.mono HB.out.size))
  clear hb1
  obtain ⟨b1, eb1⟩ : ∃ z, w.heap.size = z := ⟨_, rfl⟩
  simp only [eb1] at HX HY
  try simp only [eb1]
  clear eb1
  go_wp2_with fail
  refine (symbolAwake_any _).mono ?_
  rintro e_ v2 ⟨rfl, hb2⟩
  replace HTT := hide (HTT.out.below hb2)
  replace HSS := hide (HSS.out.below hb2)
  replace HT2 := hide (HT2.out.below hb2)
  replace HS2 := hide (HS2.out.below hb2)
  replace HQQ := hide (HQQ.out.below hb2)
  replace HX := hide (HX.out.below hb2)
  replace HY := hide (HY.out.below hb2)
  replace HB := hide (HB.out.trans (hb2.mono HB.out.size))
  clear hb2
  by_cases hn : n ≤ 12
  case neg =>
    have tn : (12 : Int) < (n : Int) := by omega
    obtain ⟨l0_0, l0_1, l0_2, l0_z⟩ := rec_cells HX.out
    obtain ⟨l1_0, l1_1, l1_2, l1_z⟩ := rec_cells HY.out
    go_wp2_with fail
    clear l0_0 l0_1 l0_2 l0_z l1_0 l1_1 l1_2 l1_z
    go_ret
    exact ⟨rfl, HB.out⟩
  have tn : ¬ (12 : Int) < (n : Int) := by omega
  by_cases hm : m ≤ 12
  case neg =>
    have tm : (12 : Int) < (m : Int) := by omega
    obtain ⟨l0_0, l0_1, l0_2, l0_z⟩ := rec_cells HX.out
    obtain ⟨l1_0, l1_1, l1_2, l1_z⟩ := rec_cells HY.out
    go_wp2_with fail
    clear l0_0 l0_1 l0_2 l0_z l1_0 l1_1 l1_2 l1_z
    go_ret
    exact ⟨rfl, HB.out⟩
  have tm : ¬ (12 : Int) < (m : Int) := by omega
  by_cases hn2 : n2 ≤ 12
  case neg =>
    have tn2 : (12 : Int) < (n2 : Int) := by omega
    obtain ⟨l0_0, l0_1, l0_2, l0_z⟩ := rec_cells HX.out
    obtain ⟨l1_0, l1_1, l1_2, l1_z⟩ := rec_cells HY.out
    go_wp2_with fail
    clear l0_0 l0_1 l0_2 l0_z l1_0 l1_1 l1_2 l1_z
    go_ret
    exact ⟨rfl, HB.out⟩
  have tn2 : ¬ (12 : Int) < (n2 : Int) := by omega
  by_cases hm2 : m2 ≤ 12
  case neg =>
    have tm2 : (12 : Int) < (m2 : Int) := by omega
    obtain ⟨l0_0, l0_1, l0_2, l0_z⟩ := rec_cells HX.out
    obtain ⟨l1_0, l1_1, l1_2, l1_z⟩ := rec_cells HY.out
    go_wp2_with fail
    clear l0_0 l0_1 l0_2 l0_z l1_0 l1_1 l1_2 l1_z
    go_ret
    exact ⟨rfl, HB.out⟩
  have tm2 : ¬ (12 : Int) < (m2 : Int) := by omega
  obtain ⟨l0_0, l0_1, l0_2, l0_z⟩ := rec_cells HX.out
  obtain ⟨l1_0, l1_1, l1_2, l1_z⟩ := rec_cells HY.out
  go_wp2_with fail
  clear l0_0 l0_1 l0_2 l0_z l1_0 l1_1 l1_2 l1_z
  have HCR := hide (fun W (h1 : IntsAt W 0 A n T) (h2 : IntsAt W 0 B m S) => CheckRegisterR_any L A B n c m d T S W (by omega) (by omega) h1 h2)
  obtain ⟨r1, hr1⟩ : ∃ z, regE L n T m S = z := ⟨_, rfl⟩
  rw [hr1] at HCR
  by_cases hz1 : r1 = 0
  case neg =>
    have tr : (r1 != 0) = true := by simpa using hz1
    refine (HCR.out _ HTT.out HSS.out).mono ?_
    rintro e_ v3 ⟨rfl, hb3⟩
    replace HTT := hide (HTT.out.below hb3)
    replace HSS := hide (HSS.out.below hb3)
    replace HT2 := hide (HT2.out.below hb3)
    replace HS2 := hide (HS2.out.below hb3)
    replace HQQ := hide (HQQ.out.below hb3)
    replace HX := hide (HX.out.below hb3)
    replace HY := hide (HY.out.below hb3)
    replace HB := hide (HB.out.trans (hb3.mono HB.out.size))
    clear hb3
    obtain ⟨l0_0, l0_1, l0_2, l0_z⟩ := rec_cells HX.out
    obtain ⟨l1_0, l1_1, l1_2, l1_z⟩ := rec_cells HY.out
    go_wp2_with fail
    clear l0_0 l0_1 l0_2 l0_z l1_0 l1_1 l1_2 l1_z
    go_ret
    exact ⟨rfl, HB.out⟩
  subst hz1
  have t00 : ((0 : Int) != 0) = false := by decide
  refine (HCR.out _ HTT.out HSS.out).mono ?_
  rintro e_ v4 ⟨rfl, hb4⟩
  replace HTT := hide (HTT.out.below hb4)
  replace HSS := hide (HSS.out.below hb4)
  replace HT2 := hide (HT2.out.below hb4)
  replace HS2 := hide (HS2.out.below hb4)
  replace HQQ := hide (HQQ.out.below hb4)
  replace HX := hide (HX.out.below hb4)
  replace HY := hide (HY.out.below hb4)
  replace HB := hide (HB.out.trans (hb4.mono HB.out.size))
  clear hb4
  clear HCR
  obtain ⟨l0_0, l0_1, l0_2, l0_z⟩ := rec_cells HX.out
  obtain ⟨l1_0, l1_1, l1_2, l1_z⟩ := rec_cells HY.out
  go_wp2_with fail
  clear l0_0 l0_1 l0_2 l0_z l1_0 l1_1 l1_2 l1_z
  have HCR := hide (fun W (h1 : IntsAt W 0 A2 n2 T2) (h2 : IntsAt W 0 B2 m2 S2) => CheckRegisterR_any L2 A2 B2 n2 c2 m2 d2 T2 S2 W (by omega) (by omega) h1 h2)
  obtain ⟨r2, hr2⟩ : ∃ z, regE L2 n2 T2 m2 S2 = z := ⟨_, rfl⟩
  rw [hr2] at HCR
  by_cases hz2 : r2 = 0
  case neg =>
    have tr : (r2 != 0) = true := by simpa using hz2
    refine (HCR.out _ HT2.out HS2.out).mono ?_
    rintro e_ v5 ⟨rfl, hb5⟩
    replace HTT := hide (HTT.out.below hb5)
    replace HSS := hide (HSS.out.below hb5)
    replace HT2 := hide (HT2.out.below hb5)
    replace HS2 := hide (HS2.out.below hb5)
    replace HQQ := hide (HQQ.out.below hb5)
    replace HX := hide (HX.out.below hb5)
    replace HY := hide (HY.out.below hb5)
    replace HB := hide (HB.out.trans (hb5.mono HB.out.size))
    clear hb5
    obtain ⟨l0_0, l0_1, l0_2, l0_z⟩ := rec_cells HX.out
    obtain ⟨l1_0, l1_1, l1_2, l1_z⟩ := rec_cells HY.out
    go_wp2_with fail
    clear l0_0 l0_1 l0_2 l0_z l1_0 l1_1 l1_2 l1_z
    go_ret
    exact ⟨rfl, HB.out⟩
  subst hz2
  have t00 : ((0 : Int) != 0) = false := by decide
  refine (HCR.out _ HT2.out HS2.out).mono ?_
  rintro e_ v6 ⟨rfl, hb6⟩
  replace HTT := hide (HTT.out.below hb6)
  replace HSS := hide (HSS.out.below hb6)
  replace HT2 := hide (HT2.out.below hb6)
  replace HS2 := hide (HS2.out.below hb6)
  replace HQQ := hide (HQQ.out.below hb6)
  replace HX := hide (HX.out.below hb6)
  replace HY := hide (HY.out.below hb6)
  replace HB := hide (HB.out.trans (hb6.mono HB.out.size))
  clear hb6
  clear HCR
  by_cases hq : q ≤ 40
  case neg =>
    have tq : (40 : Int) < (q : Int) := by omega
    obtain ⟨l0_0, l0_1, l0_2, l0_z⟩ := rec_cells HX.out
    obtain ⟨l1_0, l1_1, l1_2, l1_z⟩ := rec_cells HY.out
    go_wp2_with fail
    clear l0_0 l0_1 l0_2 l0_z l1_0 l1_1 l1_2 l1_z
    go_ret
    exact ⟨rfl, HB.out⟩
  have tq : ¬ (40 : Int) < (q : Int) := by omega
  have HBE := hide (fun W (h : IntsAt W 0 C q X) => BitsErr_any C q r X W (by omega) h)
  obtain ⟨r3, hr3⟩ : ∃ z, bitE q X 400 = z := ⟨_, rfl⟩
  rw [hr3] at HBE
  obtain ⟨l0_0, l0_1, l0_2, l0_z⟩ := rec_cells HX.out
  obtain ⟨l1_0, l1_1, l1_2, l1_z⟩ := rec_cells HY.out
  go_wp2_with fail
  clear l0_0 l0_1 l0_2 l0_z l1_0 l1_1 l1_2 l1_z
  by_cases hz3 : r3 = 0
  case neg =>
    have tr : (r3 != 0) = true := by simpa using hz3
    refine (HBE.out _ HQQ.out).mono ?_
    rintro e_ v7 ⟨rfl, q7, hq7⟩
    have hb7 : Below v6.heap.size v6 v7 := by rw [hq7]; exact Go.below_drewN (Below.refl _ _) _
    clear hq7
    replace HTT := hide (HTT.out.below hb7)
    replace HSS := hide (HSS.out.below hb7)
    replace HT2 := hide (HT2.out.below hb7)
    replace HS2 := hide (HS2.out.below hb7)
    replace HQQ := hide (HQQ.out.below hb7)
    replace HX := hide (HX.out.below hb7)
    replace HY := hide (HY.out.below hb7)
    replace HB := hide (HB.out.trans (hb7.mono HB.out.size))
    clear hb7
    go_wp2_with fail
    go_ret
    exact ⟨rfl, HB.out⟩
  subst hz3
  refine (HBE.out _ HQQ.out).mono ?_
  rintro e_ v8 ⟨rfl, q8, hq8⟩
  have hb8 : Below v6.heap.size v6 v8 := by rw [hq8]; exact Go.below_drewN (Below.refl _ _) _
  clear hq8
  replace HTT := hide (HTT.out.below hb8)
  replace HSS := hide (HSS.out.below hb8)
  replace HT2 := hide (HT2.out.below hb8)
  replace HS2 := hide (HS2.out.below hb8)
  replace HQQ := hide (HQQ.out.below hb8)
  replace HX := hide (HX.out.below hb8)
  replace HY := hide (HY.out.below hb8)
  replace HB := hide (HB.out.trans (hb8.mono HB.out.size))
  clear hb8
  clear HBE
  obtain ⟨hq0, hbt⟩ := bitE_some hr3
  have HBT := hide hbt
  have HBZ := hide hr3
  obtain ⟨p, rfl, rfl, hok⟩ := regE_ok hr1
  have HZ := hide hr1
  have HOK := hide hok
  obtain ⟨p2, rfl, rfl, hok2⟩ := regE_ok hr2
  have HZ2 := hide hr2
  have HOK2 := hide hok2
  have hn1 := hok.some_
  have hn21 := hok2.some_
  have hp9 := hok.most
  have hp29 := hok2.most
  clear hr1 hr2 hr3 hok hok2 hbt tn tm tn2 tm2
  have HCO := hide (fun W (h1 : IntsAt W 0 A n T) (h2 : IntsAt W 0 B (p + 1) S) => copyOk ((p : Int) + 1) A B n c (p + 1) d T S W (by omega) (by omega) hn1 (by omega) h1 h2)
  have HCO2 := hide (fun W (h1 : IntsAt W 0 A2 n2 T2) (h2 : IntsAt W 0 B2 (p2 + 1) S2) => copyOk ((p2 : Int) + 1) A2 B2 n2 c2 (p2 + 1) d2 T2 S2 W (by omega) (by omega) hn21 (by omega) h1 h2)
  have HMB := hide (show bitE q (fun j => xor1 (itS (p + 1) n T S j 0) (X j)) 400 = 0 from bitE_bits HBZ.out fun j _ => xor1_bit _ _)
  obtain ⟨l, hl⟩ : ∃ z, (fun j => xor1 (itS (p + 1) n T S j 0) (X j)) = z := ⟨_, rfl⟩
  have HLD := hide (fun j => (show l j = xor1 (itS (p + 1) n T S j 0) (X j) by rw [← hl]))
  rw [hl] at HMB
  have HSC := hide (fun (A B C : Option Addr) (c d r : Nat) W h1 h2 h3 => scrOk A B C n c p d q r T S X W (by omega) (by omega) (by omega) HZ.out HBZ.out h1 h2 h3)
  simp only [hl] at HSC
  clear hl
  have HSL := hide (fun (A B C : Option Addr) (c d r : Nat) W h1 h2 h3 => scrOk A B C n c p d q r T S l W (by omega) (by omega) (by omega) HZ.out HMB.out h1 h2 h3)
  have HSL2 := hide (fun (A B C : Option Addr) (c d r : Nat) W h1 h2 h3 => scrOk A B C n2 c p2 d q r T2 S2 l W (by omega) (by omega) (by omega) HZ2.out HMB.out h1 h2 h3)
  have HSQ := hide (fun (A B : Option Addr) (c d : Nat) W h1 h2 => seqOk A B n c p d q T S W (by omega) (by omega) hq0 (by omega) HZ.out h1 h2)
  have HSQ2 := hide (fun (A B : Option Addr) (c d : Nat) W h1 h2 => seqOk A B n2 c p2 d q T2 S2 W (by omega) (by omega) hq0 (by omega) HZ2.out h1 h2)
  have HSD := hide (fun (A B : Option Addr) (c d : Nat) W h1 h2 => seqOk A B n c p d (2 * q) T S W (by omega) (by omega) (by omega) (by omega) HZ.out h1 h2)
  rw [show ((2 * q : Nat) : Int) = 2 * (q : Int) by push_cast; rfl] at HSD
  have qd : IntKind.i64.wrap (2 * (q : Int)) = 2 * (q : Int) := IntWalk.i64_in _ (by omega)
  obtain ⟨l0_0, l0_1, l0_2, l0_z⟩ := rec_cells HX.out
  obtain ⟨l1_0, l1_1, l1_2, l1_z⟩ := rec_cells HY.out
  go_wp2_with fail
  clear l0_0 l0_1 l0_2 l0_z l1_0 l1_1 l1_2 l1_z
  refine (HCO.out _ HTT.out HSS.out).mono ?_
  rintro e_ v9 ⟨g1, f1, h1, k1, rfl, ht1, hs1, hb9⟩
  replace HTT := hide (HTT.out.below hb9)
  replace HSS := hide (HSS.out.below hb9)
  replace HT2 := hide (HT2.out.below hb9)
  replace HS2 := hide (HS2.out.below hb9)
  replace HQQ := hide (HQQ.out.below hb9)
  replace HX := hide (HX.out.below hb9)
  replace HY := hide (HY.out.below hb9)
  replace HB := hide (HB.out.trans (hb9.mono HB.out.size))
  clear hb9
  have HCT1 := hide ht1
  clear ht1
  have HCS1 := hide hs1
  clear hs1
  go_wp2_with fail
  refine (copyInts_own C q r X _ (by omega) HQQ.out).mono ?_
  rintro e_ v10 ⟨y2, rfl, ho2, hb10⟩
  obtain ⟨A2, a2, rfl, -, hi2⟩ := ho2.form
  replace HTT := hide (HTT.out.below hb10)
  replace HSS := hide (HSS.out.below hb10)
  replace HT2 := hide (HT2.out.below hb10)
  replace HS2 := hide (HS2.out.below hb10)
  replace HQQ := hide (HQQ.out.below hb10)
  replace HX := hide (HX.out.below hb10)
  replace HY := hide (HY.out.below hb10)
  replace HCT1 := hide (HCT1.out.below hb10)
  replace HCS1 := hide (HCS1.out.below hb10)
  replace HB := hide (HB.out.trans (hb10.mono HB.out.size))
  clear hb10
  have HI2 := hide (hi2.weak (Nat.zero_le _))
  clear ho2 hi2
  go_wp2_with fail
  refine (HSC.out _ _ A2 f1 k1 a2 _ HCT1.out HCS1.out HI2.out).mono ?_
  rintro e_ v11 ⟨gl, rfl, hll, hb11⟩
  replace HTT := hide (HTT.out.below hb11)
  replace HSS := hide (HSS.out.below hb11)
  replace HT2 := hide (HT2.out.below hb11)
  replace HS2 := hide (HS2.out.below hb11)
  replace HQQ := hide (HQQ.out.below hb11)
  replace HX := hide (HX.out.below hb11)
  replace HY := hide (HY.out.below hb11)
  replace HCT1 := hide (HCT1.out.below hb11)
  replace HCS1 := hide (HCS1.out.below hb11)
  replace HI2 := hide (HI2.out.below hb11)
  replace HB := hide (HB.out.trans (hb11.mono HB.out.size))
  clear hb11
  have HLL := hide hll
  clear hll
  clear HCT1 HCS1
  clear HI2
  go_wp2_with fail
  have HBL := hide (BitsErr_any (some ⟨gl, 0, none⟩) q q l v11 (by omega) HLL.out)
  rw [HMB.out] at HBL
  refine (HBL.out).mono ?_
  rintro e_ v12 ⟨rfl, q12, hq12⟩
  have hb12 : Below v11.heap.size v11 v12 := by rw [hq12]; exact Go.below_drewN (Below.refl _ _) _
  clear hq12
  replace HTT := hide (HTT.out.below hb12)
  replace HSS := hide (HSS.out.below hb12)
  replace HT2 := hide (HT2.out.below hb12)
  replace HS2 := hide (HS2.out.below hb12)
  replace HQQ := hide (HQQ.out.below hb12)
  replace HX := hide (HX.out.below hb12)
  replace HY := hide (HY.out.below hb12)
  replace HLL := hide (HLL.out.below hb12)
  replace HB := hide (HB.out.trans (hb12.mono HB.out.size))
  clear hb12
  clear HBL
  obtain ⟨l0_0, l0_1, l0_2, l0_z⟩ := rec_cells HX.out
  obtain ⟨l1_0, l1_1, l1_2, l1_z⟩ := rec_cells HY.out
  go_wp2_with fail
  clear l0_0 l0_1 l0_2 l0_z l1_0 l1_1 l1_2 l1_z
  refine (HCO.out _ HTT.out HSS.out).mono ?_
  rintro e_ v13 ⟨g3, f3, h3, k3, rfl, ht3, hs3, hb13⟩
  replace HTT := hide (HTT.out.below hb13)
  replace HSS := hide (HSS.out.below hb13)
  replace HT2 := hide (HT2.out.below hb13)
  replace HS2 := hide (HS2.out.below hb13)
  replace HQQ := hide (HQQ.out.below hb13)
  replace HX := hide (HX.out.below hb13)
  replace HY := hide (HY.out.below hb13)
  replace HLL := hide (HLL.out.below hb13)
  replace HB := hide (HB.out.trans (hb13.mono HB.out.size))
  clear hb13
  have HCT3 := hide ht3
  clear ht3
  have HCS3 := hide hs3
  clear hs3
  go_wp2_with fail
  refine (HSQ.out _ _ f3 k3 _ HCT3.out HCS3.out).mono ?_
  rintro e_ v14 ⟨gx, rfl, hx, hb14⟩
  replace HTT := hide (HTT.out.below hb14)
  replace HSS := hide (HSS.out.below hb14)
  replace HT2 := hide (HT2.out.below hb14)
  replace HS2 := hide (HS2.out.below hb14)
  replace HQQ := hide (HQQ.out.below hb14)
  replace HX := hide (HX.out.below hb14)
  replace HY := hide (HY.out.below hb14)
  replace HLL := hide (HLL.out.below hb14)
  replace HCT3 := hide (HCT3.out.below hb14)
  replace HCS3 := hide (HCS3.out.below hb14)
  replace HB := hide (HB.out.trans (hb14.mono HB.out.size))
  clear hb14
  have HSx := hide hx
  clear hx
  clear HCT3 HCS3
  obtain ⟨l0_0, l0_1, l0_2, l0_z⟩ := rec_cells HX.out
  obtain ⟨l1_0, l1_1, l1_2, l1_z⟩ := rec_cells HY.out
  go_wp2_with fail
  clear l0_0 l0_1 l0_2 l0_z l1_0 l1_1 l1_2 l1_z
  refine (HCO2.out _ HT2.out HS2.out).mono ?_
  rintro e_ v15 ⟨g4, f4, h4, k4, rfl, ht4, hs4, hb15⟩
  replace HTT := hide (HTT.out.below hb15)
  replace HSS := hide (HSS.out.below hb15)
  replace HT2 := hide (HT2.out.below hb15)
  replace HS2 := hide (HS2.out.below hb15)
  replace HQQ := hide (HQQ.out.below hb15)
  replace HX := hide (HX.out.below hb15)
  replace HY := hide (HY.out.below hb15)
  replace HLL := hide (HLL.out.below hb15)
  replace HSx := hide (HSx.out.below hb15)
  replace HB := hide (HB.out.trans (hb15.mono HB.out.size))
  clear hb15
  have HCT4 := hide ht4
  clear ht4
  have HCS4 := hide hs4
  clear hs4
  go_wp2_with fail
  refine (HSQ2.out _ _ f4 k4 _ HCT4.out HCS4.out).mono ?_
  rintro e_ v16 ⟨gy, rfl, hy, hb16⟩
  replace HTT := hide (HTT.out.below hb16)
  replace HSS := hide (HSS.out.below hb16)
  replace HT2 := hide (HT2.out.below hb16)
  replace HS2 := hide (HS2.out.below hb16)
  replace HQQ := hide (HQQ.out.below hb16)
  replace HX := hide (HX.out.below hb16)
  replace HY := hide (HY.out.below hb16)
  replace HLL := hide (HLL.out.below hb16)
  replace HSx := hide (HSx.out.below hb16)
  replace HCT4 := hide (HCT4.out.below hb16)
  replace HCS4 := hide (HCS4.out.below hb16)
  replace HB := hide (HB.out.trans (hb16.mono HB.out.size))
  clear hb16
  have HSy := hide hy
  clear hy
  clear HCT4 HCS4
  obtain ⟨l0_0, l0_1, l0_2, l0_z⟩ := rec_cells HX.out
  obtain ⟨l1_0, l1_1, l1_2, l1_z⟩ := rec_cells HY.out
  go_wp2_with fail
  clear l0_0 l0_1 l0_2 l0_z l1_0 l1_1 l1_2 l1_z
  refine (HCO.out _ HTT.out HSS.out).mono ?_
  rintro e_ v17 ⟨g5, f5, h5, k5, rfl, ht5, hs5, hb17⟩
  replace HTT := hide (HTT.out.below hb17)
  replace HSS := hide (HSS.out.below hb17)
  replace HT2 := hide (HT2.out.below hb17)
  replace HS2 := hide (HS2.out.below hb17)
  replace HQQ := hide (HQQ.out.below hb17)
  replace HX := hide (HX.out.below hb17)
  replace HY := hide (HY.out.below hb17)
  replace HLL := hide (HLL.out.below hb17)
  replace HSx := hide (HSx.out.below hb17)
  replace HSy := hide (HSy.out.below hb17)
  replace HB := hide (HB.out.trans (hb17.mono HB.out.size))
  clear hb17
  have HCT5 := hide ht5
  clear ht5
  have HCS5 := hide hs5
  clear hs5
  go_wp2_with fail
  refine (copyInts_own (some ⟨gl, 0, none⟩) q q l _ (by omega) HLL.out).mono ?_
  rintro e_ v18 ⟨y6, rfl, ho6, hb18⟩
  obtain ⟨A6, a6, rfl, -, hi6⟩ := ho6.form
  replace HTT := hide (HTT.out.below hb18)
  replace HSS := hide (HSS.out.below hb18)
  replace HT2 := hide (HT2.out.below hb18)
  replace HS2 := hide (HS2.out.below hb18)
  replace HQQ := hide (HQQ.out.below hb18)
  replace HX := hide (HX.out.below hb18)
  replace HY := hide (HY.out.below hb18)
  replace HLL := hide (HLL.out.below hb18)
  replace HSx := hide (HSx.out.below hb18)
  replace HSy := hide (HSy.out.below hb18)
  replace HCT5 := hide (HCT5.out.below hb18)
  replace HCS5 := hide (HCS5.out.below hb18)
  replace HB := hide (HB.out.trans (hb18.mono HB.out.size))
  clear hb18
  have HI6 := hide (hi6.weak (Nat.zero_le _))
  clear ho6 hi6
  go_wp2_with fail
  refine (HSL.out _ _ A6 f5 k5 a6 _ HCT5.out HCS5.out HI6.out).mono ?_
  rintro e_ v19 ⟨go, rfl, ho, hb19⟩
  replace HTT := hide (HTT.out.below hb19)
  replace HSS := hide (HSS.out.below hb19)
  replace HT2 := hide (HT2.out.below hb19)
  replace HS2 := hide (HS2.out.below hb19)
  replace HQQ := hide (HQQ.out.below hb19)
  replace HX := hide (HX.out.below hb19)
  replace HY := hide (HY.out.below hb19)
  replace HLL := hide (HLL.out.below hb19)
  replace HSx := hide (HSx.out.below hb19)
  replace HSy := hide (HSy.out.below hb19)
  replace HCT5 := hide (HCT5.out.below hb19)
  replace HCS5 := hide (HCS5.out.below hb19)
  replace HI6 := hide (HI6.out.below hb19)
  replace HB := hide (HB.out.trans (hb19.mono HB.out.size))
  clear hb19
  have HSo := hide ho
  clear ho
  clear HCT5 HCS5
  clear HI6
  obtain ⟨l0_0, l0_1, l0_2, l0_z⟩ := rec_cells HX.out
  obtain ⟨l1_0, l1_1, l1_2, l1_z⟩ := rec_cells HY.out
  go_wp2_with fail
  clear l0_0 l0_1 l0_2 l0_z l1_0 l1_1 l1_2 l1_z
  refine (HCO2.out _ HT2.out HS2.out).mono ?_
  rintro e_ v20 ⟨g7, f7, h7, k7, rfl, ht7, hs7, hb20⟩
  replace HTT := hide (HTT.out.below hb20)
  replace HSS := hide (HSS.out.below hb20)
  replace HT2 := hide (HT2.out.below hb20)
  replace HS2 := hide (HS2.out.below hb20)
  replace HQQ := hide (HQQ.out.below hb20)
  replace HX := hide (HX.out.below hb20)
  replace HY := hide (HY.out.below hb20)
  replace HLL := hide (HLL.out.below hb20)
  replace HSx := hide (HSx.out.below hb20)
  replace HSy := hide (HSy.out.below hb20)
  replace HSo := hide (HSo.out.below hb20)
  replace HB := hide (HB.out.trans (hb20.mono HB.out.size))
  clear hb20
  have HCT7 := hide ht7
  clear ht7
  have HCS7 := hide hs7
  clear hs7
  go_wp2_with fail
  refine (copyInts_own (some ⟨gl, 0, none⟩) q q l _ (by omega) HLL.out).mono ?_
  rintro e_ v21 ⟨y8, rfl, ho8, hb21⟩
  obtain ⟨A8, a8, rfl, -, hi8⟩ := ho8.form
  replace HTT := hide (HTT.out.below hb21)
  replace HSS := hide (HSS.out.below hb21)
  replace HT2 := hide (HT2.out.below hb21)
  replace HS2 := hide (HS2.out.below hb21)
  replace HQQ := hide (HQQ.out.below hb21)
  replace HX := hide (HX.out.below hb21)
  replace HY := hide (HY.out.below hb21)
  replace HLL := hide (HLL.out.below hb21)
  replace HSx := hide (HSx.out.below hb21)
  replace HSy := hide (HSy.out.below hb21)
  replace HSo := hide (HSo.out.below hb21)
  replace HCT7 := hide (HCT7.out.below hb21)
  replace HCS7 := hide (HCS7.out.below hb21)
  replace HB := hide (HB.out.trans (hb21.mono HB.out.size))
  clear hb21
  have HI8 := hide (hi8.weak (Nat.zero_le _))
  clear ho8 hi8
  go_wp2_with fail
  refine (HSL2.out _ _ A8 f7 k7 a8 _ HCT7.out HCS7.out HI8.out).mono ?_
  rintro e_ v22 ⟨gz, rfl, hz, hb22⟩
  replace HTT := hide (HTT.out.below hb22)
  replace HSS := hide (HSS.out.below hb22)
  replace HT2 := hide (HT2.out.below hb22)
  replace HS2 := hide (HS2.out.below hb22)
  replace HQQ := hide (HQQ.out.below hb22)
  replace HX := hide (HX.out.below hb22)
  replace HY := hide (HY.out.below hb22)
  replace HLL := hide (HLL.out.below hb22)
  replace HSx := hide (HSx.out.below hb22)
  replace HSy := hide (HSy.out.below hb22)
  replace HSo := hide (HSo.out.below hb22)
  replace HCT7 := hide (HCT7.out.below hb22)
  replace HCS7 := hide (HCS7.out.below hb22)
  replace HI8 := hide (HI8.out.below hb22)
  replace HB := hide (HB.out.trans (hb22.mono HB.out.size))
  clear hb22
  have HSz := hide hz
  clear hz
  clear HCT7 HCS7
  clear HI8
  go_wp2_with fail
  have HIN := hide (ints_any (some ⟨go, 0, none⟩) C q q q r _ X _ (by omega) (by omega) HSo.out HQQ.out)
  rw [intsB_iff.2 ⟨rfl, fun j hj => (by rw [HLD.out j]; exact mixT_again ((HOK.out.it j).bits 0 (by omega)) (HBT.out j hj))⟩] at HIN
  refine (HIN.out).mono ?_
  rintro e_ v23 ⟨rfl, q23, hq23⟩
  have hb23 : Below v22.heap.size v22 v23 := by rw [hq23]; exact Go.below_drewN (Below.refl _ _) _
  clear hq23
  replace HTT := hide (HTT.out.below hb23)
  replace HSS := hide (HSS.out.below hb23)
  replace HT2 := hide (HT2.out.below hb23)
  replace HS2 := hide (HS2.out.below hb23)
  replace HQQ := hide (HQQ.out.below hb23)
  replace HX := hide (HX.out.below hb23)
  replace HY := hide (HY.out.below hb23)
  replace HLL := hide (HLL.out.below hb23)
  replace HSx := hide (HSx.out.below hb23)
  replace HSy := hide (HSy.out.below hb23)
  replace HSo := hide (HSo.out.below hb23)
  replace HSz := hide (HSz.out.below hb23)
  replace HB := hide (HB.out.trans (hb23.mono HB.out.size))
  clear hb23
  clear HIN
  clear HSo
  go_wp2_with fail
  have hbe : intsB q (fun j => xor1 (itS (p2 + 1) n2 T2 S2 j 0) (l j)) q X = intsB q (fun j => itS (p + 1) n T S j 0) q (fun j => itS (p2 + 1) n2 T2 S2 j 0) := by
    rw [Bool.eq_iff_iff, intsB_iff, intsB_iff]
    refine and_congr_right fun _ => forall_congr' fun j => imp_congr_right fun hj => ?_
    rw [HLD.out j]
    exact mixT_other ((HOK.out.it j).bits 0 (by omega)) ((HOK2.out.it j).bits 0 (by omega)) (HBT.out j hj)
  have HIN := hide (fun W h1 h2 => ints_any (some ⟨gz, 0, none⟩) C q q q r (fun j => xor1 (itS (p2 + 1) n2 T2 S2 j 0) (l j)) X W (by omega) (by omega) h1 h2)
  have HIM := hide (fun W h1 h2 => ints_any (some ⟨gx, 0, none⟩) (some ⟨gy, 0, none⟩) q q q q (fun j => itS (p + 1) n T S j 0) (fun j => itS (p2 + 1) n2 T2 S2 j 0) W (by omega) (by omega) h1 h2)
  rw [hbe] at HIN
  obtain ⟨β, hβ⟩ : ∃ z, intsB q (fun j => itS (p + 1) n T S j 0) q (fun j => itS (p2 + 1) n2 T2 S2 j 0) = z := ⟨_, rfl⟩
  simp only [hβ] at HIN HIM
  clear hβ hbe
  have tbb : (β != β) = false := by simp
  refine (HIN.out _ HSz.out HQQ.out).mono ?_
  rintro e_ v24 ⟨rfl, q24, hq24⟩
  have hb24 : Below v23.heap.size v23 v24 := by rw [hq24]; exact Go.below_drewN (Below.refl _ _) _
  clear hq24
  replace HTT := hide (HTT.out.below hb24)
  replace HSS := hide (HSS.out.below hb24)
  replace HT2 := hide (HT2.out.below hb24)
  replace HS2 := hide (HS2.out.below hb24)
  replace HQQ := hide (HQQ.out.below hb24)
  replace HX := hide (HX.out.below hb24)
  replace HY := hide (HY.out.below hb24)
  replace HLL := hide (HLL.out.below hb24)
  replace HSx := hide (HSx.out.below hb24)
  replace HSy := hide (HSy.out.below hb24)
  replace HSz := hide (HSz.out.below hb24)
  replace HB := hide (HB.out.trans (hb24.mono HB.out.size))
  clear hb24
  clear HIN
  clear HSz
  go_wp2_with fail
  refine (HIM.out _ HSx.out HSy.out).mono ?_
  rintro e_ v25 ⟨rfl, q25, hq25⟩
  have hb25 : Below v24.heap.size v24 v25 := by rw [hq25]; exact Go.below_drewN (Below.refl _ _) _
  clear hq25
  replace HTT := hide (HTT.out.below hb25)
  replace HSS := hide (HSS.out.below hb25)
  replace HT2 := hide (HT2.out.below hb25)
  replace HS2 := hide (HS2.out.below hb25)
  replace HQQ := hide (HQQ.out.below hb25)
  replace HX := hide (HX.out.below hb25)
  replace HY := hide (HY.out.below hb25)
  replace HLL := hide (HLL.out.below hb25)
  replace HSx := hide (HSx.out.below hb25)
  replace HSy := hide (HSy.out.below hb25)
  replace HB := hide (HB.out.trans (hb25.mono HB.out.size))
  clear hb25
  clear HIM
  clear HSy
  obtain ⟨l0_0, l0_1, l0_2, l0_z⟩ := rec_cells HX.out
  obtain ⟨l1_0, l1_1, l1_2, l1_z⟩ := rec_cells HY.out
  go_wp2_with fail
  clear l0_0 l0_1 l0_2 l0_z l1_0 l1_1 l1_2 l1_z
  clear tbb
  refine (HCO.out _ HTT.out HSS.out).mono ?_
  rintro e_ v26 ⟨g9, f9, h9, k9, rfl, ht9, hs9, hb26⟩
  replace HTT := hide (HTT.out.below hb26)
  replace HSS := hide (HSS.out.below hb26)
  replace HT2 := hide (HT2.out.below hb26)
  replace HS2 := hide (HS2.out.below hb26)
  replace HQQ := hide (HQQ.out.below hb26)
  replace HX := hide (HX.out.below hb26)
  replace HY := hide (HY.out.below hb26)
  replace HLL := hide (HLL.out.below hb26)
  replace HSx := hide (HSx.out.below hb26)
  replace HB := hide (HB.out.trans (hb26.mono HB.out.size))
  clear hb26
  have HCT9 := hide ht9
  clear ht9
  have HCS9 := hide hs9
  clear hs9
  go_wp2_with fail
  refine (HSD.out _ _ f9 k9 _ HCT9.out HCS9.out).mono ?_
  rintro e_ v27 ⟨gd, rfl, hd, hb27⟩
  replace HTT := hide (HTT.out.below hb27)
  replace HSS := hide (HSS.out.below hb27)
  replace HT2 := hide (HT2.out.below hb27)
  replace HS2 := hide (HS2.out.below hb27)
  replace HQQ := hide (HQQ.out.below hb27)
  replace HX := hide (HX.out.below hb27)
  replace HY := hide (HY.out.below hb27)
  replace HLL := hide (HLL.out.below hb27)
  replace HSx := hide (HSx.out.below hb27)
  replace HCT9 := hide (HCT9.out.below hb27)
  replace HCS9 := hide (HCS9.out.below hb27)
  replace HB := hide (HB.out.trans (hb27.mono HB.out.size))
  clear hb27
  have HSd := hide hd
  clear hd
  clear HCT9 HCS9
  obtain ⟨l0_0, l0_1, l0_2, l0_z⟩ := rec_cells HX.out
  obtain ⟨l1_0, l1_1, l1_2, l1_z⟩ := rec_cells HY.out
  go_wp2_with fail
  clear l0_0 l0_1 l0_2 l0_z l1_0 l1_1 l1_2 l1_z
  obtain ⟨per, hper⟩ := per_ex HOK.out
  have HPER := hide hper
  clear hper
  skip
  refine (HCO.out _ HTT.out HSS.out).mono ?_
  rintro e_ v28 ⟨g10, f10, h10, k10, rfl, ht10, hs10, hb28⟩
  replace HTT := hide (HTT.out.below hb28)
  replace HSS := hide (HSS.out.below hb28)
  replace HT2 := hide (HT2.out.below hb28)
  replace HS2 := hide (HS2.out.below hb28)
  replace HQQ := hide (HQQ.out.below hb28)
  replace HX := hide (HX.out.below hb28)
  replace HY := hide (HY.out.below hb28)
  replace HLL := hide (HLL.out.below hb28)
  replace HSx := hide (HSx.out.below hb28)
  replace HSd := hide (HSd.out.below hb28)
  replace HB := hide (HB.out.trans (hb28.mono HB.out.size))
  clear hb28
  have HCT10 := hide ht10
  clear ht10
  have HCS10 := hide hs10
  clear hs10
  go_wp2_with fail
  refine (jumpOk g10 n f10 h10 p k10 per q (q % per) T S _ HZ.out HOK.out HPER.out (by omega) rfl HCT10.out HCS10.out).mono ?_
  rintro e_ v29 ⟨u9, x9, y9, z9, rfl, ht9, hs9, hb29⟩
  replace HTT := hide (HTT.out.below hb29)
  replace HSS := hide (HSS.out.below hb29)
  replace HT2 := hide (HT2.out.below hb29)
  replace HS2 := hide (HS2.out.below hb29)
  replace HQQ := hide (HQQ.out.below hb29)
  replace HX := hide (HX.out.below hb29)
  replace HY := hide (HY.out.below hb29)
  replace HLL := hide (HLL.out.below hb29)
  replace HSx := hide (HSx.out.below hb29)
  replace HSd := hide (HSd.out.below hb29)
  replace HCT10 := hide (HCT10.out.below hb29)
  replace HCS10 := hide (HCS10.out.below hb29)
  replace HB := hide (HB.out.trans (hb29.mono HB.out.size))
  clear hb29
  have HT9 := hide ht9
  clear ht9
  have HS9 := hide hs9
  clear hs9
  clear HCT10 HCS10
  go_upto_region 16 with fail
  obtain ⟨v30, hv30⟩ : ∃ z : World, z = (v29.alloc (.cells #[.int .i64 ((p : Int) + 1), .slice (some ⟨u9, 0, none⟩) n x9, .slice (some ⟨y9, 0, none⟩) (p + 1) z9] 81)) := ⟨_, rfl⟩
  try rw [← hv30]
  have HX9 := hide (show Box v30 (v29.heap.size) 81 #[.int .i64 ((p : Int) + 1), .slice (some ⟨u9, 0, none⟩) n x9, .slice (some ⟨y9, 0, none⟩) (p + 1) z9] by rw [hv30]; exact Box.made rfl)
  have hb30 : Below v29.heap.size v29 v30 := by rw [hv30]; (repeat (first | (with_reducible exact Below.refl _ _) | (with_reducible refine Go.below_drewN ?_ _) | (with_reducible refine Below.drew ?_) | (with_reducible refine Below.alloc ?_ (by first | exact Nat.le_refl _ | (simp; done) | (simp; omega) | omega) _) | (with_reducible refine Below.setCell ?_ (by first | exact Nat.le_refl _ | (simp; done) | (simp; omega) | omega) _)))
  clear hv30
  replace HTT := hide (HTT.out.below hb30)
  replace HSS := hide (HSS.out.below hb30)
  replace HT2 := hide (HT2.out.below hb30)
  replace HS2 := hide (HS2.out.below hb30)
  replace HQQ := hide (HQQ.out.below hb30)
  replace HX := hide (HX.out.below hb30)
  replace HY := hide (HY.out.below hb30)
  replace HLL := hide (HLL.out.below hb30)
  replace HSx := hide (HSx.out.below hb30)
  replace HSd := hide (HSd.out.below hb30)
  replace HT9 := hide (HT9.out.below hb30)
  replace HS9 := hide (HS9.out.below hb30)
  replace HB := hide (HB.out.trans (hb30.mono HB.out.size))
  clear hb30
  obtain ⟨b30, eb30⟩ : ∃ z, v29.heap.size = z := ⟨_, rfl⟩
  simp only [eb30] at HX9
  try simp only [eb30]
  clear eb30
  have HZ9 := hide (regE_bits (S' := itS (p + 1) n T S (q % per)) HZ.out (HOK.out.it (q % per)).bits)
  have HAL := hide (show ∀ j, itS (p + 1) n T (itS (p + 1) n T S (q % per)) j 0 = itS (p + 1) n T S (q + j) 0 from fun j => by
    rw [← itS_add, itS_mod HOK.out HPER.out _ 0 (by omega), Nat.mod_add_mod, ← itS_mod HOK.out HPER.out _ 0 (by omega)])
  obtain ⟨S9, hS9⟩ : ∃ z, itS (p + 1) n T S (q % per) = z := ⟨_, rfl⟩
  simp only [hS9] at HZ9 HAL HS9
  clear hS9
  have HCR9 := hide (fun W h1 h2 => CheckRegisterR_any ((p : Int) + 1) (some ⟨u9, 0, none⟩) (some ⟨y9, 0, none⟩) n x9 (p + 1) z9 T S9 W (by omega) (by omega) h1 h2)
  rw [HZ9.out] at HCR9
  obtain ⟨l0_0, l0_1, l0_2, l0_z⟩ := rec_cells HX9.out
  go_wp2_with fail
  clear l0_0 l0_1 l0_2 l0_z
  refine (HCR9.out _ HT9.out HS9.out).mono ?_
  rintro e_ v31 ⟨rfl, hb31⟩
  replace HTT := hide (HTT.out.below hb31)
  replace HSS := hide (HSS.out.below hb31)
  replace HT2 := hide (HT2.out.below hb31)
  replace HS2 := hide (HS2.out.below hb31)
  replace HQQ := hide (HQQ.out.below hb31)
  replace HX := hide (HX.out.below hb31)
  replace HY := hide (HY.out.below hb31)
  replace HLL := hide (HLL.out.below hb31)
  replace HSx := hide (HSx.out.below hb31)
  replace HSd := hide (HSd.out.below hb31)
  replace HT9 := hide (HT9.out.below hb31)
  replace HS9 := hide (HS9.out.below hb31)
  replace HX9 := hide (HX9.out.below hb31)
  replace HB := hide (HB.out.trans (hb31.mono HB.out.size))
  clear hb31
  obtain ⟨l0_0, l0_1, l0_2, l0_z⟩ := rec_cells HX9.out
  go_wp2_with fail
  clear l0_0 l0_1 l0_2 l0_z
  clear HCR9
  have HCO9 := hide (fun W (h1 : IntsAt W 0 (some ⟨u9, 0, none⟩) n T) (h2 : IntsAt W 0 (some ⟨y9, 0, none⟩) (p + 1) S9) => copyOk ((p : Int) + 1) _ _ n x9 (p + 1) z9 T S9 W (by omega) (by omega) hn1 (by omega) h1 h2)
  have HSQ9 := hide (fun (A B : Option Addr) (c d : Nat) W h1 h2 => seqOk A B n c p d q T S9 W (by omega) (by omega) hq0 (by omega) HZ9.out h1 h2)
  refine (HCO9.out _ HT9.out HS9.out).mono ?_
  rintro e_ v32 ⟨g11, f11, h11, k11, rfl, ht11, hs11, hb32⟩
  replace HTT := hide (HTT.out.below hb32)
  replace HSS := hide (HSS.out.below hb32)
  replace HT2 := hide (HT2.out.below hb32)
  replace HS2 := hide (HS2.out.below hb32)
  replace HQQ := hide (HQQ.out.below hb32)
  replace HX := hide (HX.out.below hb32)
  replace HY := hide (HY.out.below hb32)
  replace HLL := hide (HLL.out.below hb32)
  replace HSx := hide (HSx.out.below hb32)
  replace HSd := hide (HSd.out.below hb32)
  replace HT9 := hide (HT9.out.below hb32)
  replace HS9 := hide (HS9.out.below hb32)
  replace HX9 := hide (HX9.out.below hb32)
  replace HB := hide (HB.out.trans (hb32.mono HB.out.size))
  clear hb32
  have HCT11 := hide ht11
  clear ht11
  have HCS11 := hide hs11
  clear hs11
  go_wp2_with fail
  refine (HSQ9.out _ _ f11 k11 _ HCT11.out HCS11.out).mono ?_
  rintro e_ v33 ⟨gr, rfl, hr, hb33⟩
  replace HTT := hide (HTT.out.below hb33)
  replace HSS := hide (HSS.out.below hb33)
  replace HT2 := hide (HT2.out.below hb33)
  replace HS2 := hide (HS2.out.below hb33)
  replace HQQ := hide (HQQ.out.below hb33)
  replace HX := hide (HX.out.below hb33)
  replace HY := hide (HY.out.below hb33)
  replace HLL := hide (HLL.out.below hb33)
  replace HSx := hide (HSx.out.below hb33)
  replace HSd := hide (HSd.out.below hb33)
  replace HT9 := hide (HT9.out.below hb33)
  replace HS9 := hide (HS9.out.below hb33)
  replace HX9 := hide (HX9.out.below hb33)
  replace HCT11 := hide (HCT11.out.below hb33)
  replace HCS11 := hide (HCS11.out.below hb33)
  replace HB := hide (HB.out.trans (hb33.mono HB.out.size))
  clear hb33
  have HSr := hide hr
  clear hr
  clear HCT11 HCS11
  go_wp2_with fail
  have KD := hide HSd.out
  have KR := hide HSr.out
  have KB := hide HB.out
  refine (copyInts_own (some ⟨gx, 0, none⟩) q q (fun j => itS (p + 1) n T S j 0) _ (by omega) HSx.out).mono ?_
  rintro e_ v34 ⟨yc, rfl, hoc, hb34⟩
  obtain ⟨Ac, ac, rfl, -, -⟩ := hoc.form
  have HKB := hide hb34
  have HOC := hide hoc
  clear hoc
  replace HTT := hide (HTT.out.below hb34)
  replace HSS := hide (HSS.out.below hb34)
  replace HT2 := hide (HT2.out.below hb34)
  replace HS2 := hide (HS2.out.below hb34)
  replace HQQ := hide (HQQ.out.below hb34)
  replace HX := hide (HX.out.below hb34)
  replace HY := hide (HY.out.below hb34)
  replace HLL := hide (HLL.out.below hb34)
  replace HSx := hide (HSx.out.below hb34)
  replace HSd := hide (HSd.out.below hb34)
  replace HT9 := hide (HT9.out.below hb34)
  replace HS9 := hide (HS9.out.below hb34)
  replace HX9 := hide (HX9.out.below hb34)
  replace HSr := hide (HSr.out.below hb34)
  replace HB := hide (HB.out.trans (hb34.mono HB.out.size))
  clear hb34
  have hbs := HKB.out.size
  go_wp2_with (at_builtin; refine wpList_append_intsG _ (by rfl) (.tmp 191) (.tmp 192) rfl v33.heap.size 0 (.slice Ac q ac) q _ rfl HOC.out (some ⟨gr, 0, none⟩) q q _ rfl HSr.out (by omega) hbs ?_; intro v9 w9 g9 hb9; obtain ⟨D9, d9, rfl, -, hi9⟩ := g9.form)
  have hk9 : Below v33.heap.size v33 w9 := HKB.out.trans hb9
  have HB9 := hide (KB.out.trans (hk9.mono KB.out.size))
  have HIF := hide (ints_any (some ⟨gd, 0, none⟩) D9 (2 * q) (q + q) (2 * q) d9 _ _ w9 (by omega) (by omega) (KD.out.below hk9) (hi9.weak (Nat.zero_le _)))
  rw [intsB_iff.2 ⟨by omega, fun j hj => (by
    unfold catF
    by_cases e : j < q
    · rw [if_pos e]
    · rw [if_neg e]
      show itS (p + 1) n T S j 0 = itS (p + 1) n T S9 (j - q) 0
      rw [HAL.out, show q + (j - q) = j by omega])⟩] at HIF
  refine HIF.out.mono ?_
  rintro e_ w10 ⟨rfl, q10, rfl⟩
  go_wp2_with fail
  go_ret
  exact ⟨rfl, Go.below_drewN HB9.out _⟩
end Go.Proofs.Ytceohaeebdhmjaa
