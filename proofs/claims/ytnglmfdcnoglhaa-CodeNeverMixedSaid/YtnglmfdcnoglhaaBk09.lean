/- Lemmas: Mb, Mc, Mf, Md, Mj, Jg, Mi, Mm. -/
import Derived.StillTailTactics
import Derived.OrdersIn
import Derived.Test.YtnglmfdcnoglhaaBk02
import Derived.Test.YtnglmfdcnoglhaaBk05
import Derived.Test.YtnglmfdcnoglhaaBk06
import Derived.Test.YtnglmfdcnoglhaaBk07
import Derived.Test.YtnglmfdcnoglhaaBk08
set_option linter.unusedVariables false
set_option linter.unusedSimpArgs false
/- How a block is cut: of the code and of the reference. Rules. -/
namespace Go.Proofs.Ytnglmfdcnoglhaa
open Go.RowKit Go.Shelf
/-- Divided, rounded up. -/
def ceilN (a b : Nat) : Nat := (a + b - 1) / b
theorem ceilN_eq {a b : Nat} (hb : 0 < b) : ceilN a b = if a % b = 0 then a / b else a / b + 1 := by
  unfold ceilN
  have h := Nat.div_add_mod a b
  have hr := Nat.mod_lt a hb
  generalize a / b = q at *
  generalize a % b = r at *
  by_cases h0 : r = 0
  · rw [if_pos h0, show a + b - 1 = b * q + (b - 1) by omega, Nat.mul_add_div hb, Nat.div_eq_of_lt (by omega)]; rfl
  · rw [if_neg h0, show a + b - 1 = b * (q + 1) + (r - 1) by rw [Nat.mul_add]; omega, Nat.mul_add_div hb, Nat.div_eq_of_lt (by omega)]
theorem ceilN_le {a b : Nat} (hb : 0 < b) : ceilN a b ≤ a := by
  rw [ceilN_eq hb]
  split
  · exact Nat.div_le_self _ _
  · rename_i h
    rcases Nat.lt_or_ge a b with h1 | h1
    · have : a / b = 0 := Nat.div_eq_of_lt h1
      rcases Nat.eq_zero_or_pos a with h2 | h2
      · subst h2; simp at h
      · omega
    · by_cases hb1 : b = 1
      · subst hb1; exact absurd (Nat.mod_one a) h
      · have := Nat.div_lt_self (show 0 < a by omega) (show 1 < b by omega)
        omega
theorem ceilN_pos {a b : Nat} (hb : 0 < b) (ha : 0 < a) : 0 < ceilN a b := by
  unfold ceilN
  exact Nat.div_pos (by omega) hb
theorem ceilN_mul {a b : Nat} (hb : 0 < b) : a ≤ ceilN a b * b ∧ ceilN a b * b < a + b := by
  unfold ceilN
  have h := Nat.div_add_mod (a + b - 1) b
  have hr := Nat.mod_lt (a + b - 1) hb
  rw [Nat.mul_comm] at h
  omega
theorem neg_tdiv_nat (a b : Nat) : (-(a : Int)).tdiv (b : Int) = -((a / b : Nat) : Int) := by
  rw [Int.neg_tdiv]
  rfl
theorem neg_tmod_nat (a b : Nat) : (-(a : Int)).tmod (b : Int) = -((a % b : Nat) : Int) := by
  rw [Int.neg_tmod]
  rfl
set_option maxHeartbeats 1000000 in
theorem floor_neg (a b : Nat) (w : World) (hb : 0 < b) (ha : a ≤ 1000000) (hb9 : b ≤ 1000000) :
    Calls Try.prog 56 #[.int .i64 (-(a : Int)), .int .i64 (b : Int)] w fun e w' => e = .returned (.int .i64 (-((ceilN a b : Nat) : Int))) ∧ w = w' := by
  have HE := hide (ceilN_eq (a := a) hb)
  have hd := Nat.div_le_self a b
  have hm := Nat.mod_le a b
  have hb0 : ¬ (b : Int) = 0 := by omega
  obtain ⟨n, hn⟩ : ∃ n : Int, n = -(a : Int) := ⟨_, rfl⟩
  have e1 := neg_tdiv_nat a b
  have e2 := neg_tmod_nat a b
  rw [← hn] at e1 e2 ⊢
  have hn9 : -1000000 ≤ n ∧ n ≤ 0 := by omega
  generalize a / b = q at *
  generalize a % b = r at *
  have q0 : IntKind.i64.wrap (-(q : Int)) = -(q : Int) := IntWalk.i64_in _ (by omega)
  clear hn
  by_cases hr : r = 0
  · subst hr
    have e2' : n.tmod (b : Int) = 0 := e2
    have HC := hide (show ceilN a b = q from by rw [HE.out, if_pos rfl])
    clear e2
    go_enter Try.func56, Try.ntmps56
    go_wp2_with fail
    go_ret
    exact ⟨ret_int (by rw [HC.out]), rfl⟩
  · have t1 : decide (-(r : Int) < 0) = true := by simp; omega
    have HC := hide (show ceilN a b = q + 1 from by rw [HE.out, if_neg hr])
    have q1 : IntKind.i64.wrap (-(q : Int) - 1) = -(q : Int) - 1 := IntWalk.i64_in _ (by omega)
    go_enter Try.func56, Try.ntmps56
    go_wp2_with fail
    go_ret
    exact ⟨ret_int (by rw [HC.out]; omega), rfl⟩
set_option maxHeartbeats 1000000 in
theorem ceil_any (a b : Nat) (w : World) (hb : 0 < b) (ha : a ≤ 1000000) (hb9 : b ≤ 1000000) :
    Calls Try.prog 23 #[.int .i64 (a : Int), .int .i64 (b : Int)] w fun e w' => e = .returned (.int .i64 ((ceilN a b : Nat) : Int)) ∧ w = w' := by
  have HF := hide (fun W => floor_neg a b W hb ha hb9)
  have hc := ceilN_le (a := a) hb
  have q0 : IntKind.i64.wrap (-(a : Int)) = -(a : Int) := IntWalk.i64_in _ (by omega)
  obtain ⟨x, hx⟩ : ∃ x, x = ceilN a b := ⟨_, rfl⟩
  rw [← hx] at HF hc ⊢
  have q1 : IntKind.i64.wrap (x : Int) = (x : Int) := IntWalk.i64_in _ (by omega)
  clear hx
  go_enter Try.func23, Try.ntmps23
  go_wp2_with fail
  refine (HF.out _).mono ?_
  rintro e w' ⟨rfl, rfl⟩
  go_wp2_with fail
  go_ret
  exact ⟨ret_int (by first | rfl | simp), rfl⟩
/-- The error of a rule. -/
def ruleErrI (d t M : Int) : Int := firstE [polyErrI d t, unI (withinB M (d + 1) 100) 2]
/-- A rule that is right. -/
structure RuleOk (d t M : Int) (x y m : Nat) : Prop where
  ed : d = x
  et : t = y
  em : M = m
  d0 : 1 ≤ x
  d1 : x ≤ 16
  t1 : y < 2 ^ x
  m0 : x < m
  m9 : m ≤ 100
theorem ruleErr_zero {d t M : Int} (h : ruleErrI d t M = 0) : ∃ x y m, RuleOk d t M x y m := by
  obtain ⟨h1, h⟩ := firstE_zero_cons h
  obtain ⟨h2, -⟩ := firstE_zero_cons h
  have h2 := withinB_of (unI_zero (by decide) h2)
  obtain ⟨g1, g2, g3, g4, -⟩ := poly_of h1
  obtain ⟨x, rfl⟩ := Int.eq_ofNat_of_zero_le (show 0 ≤ d by omega)
  obtain ⟨y, rfl⟩ := Int.eq_ofNat_of_zero_le (show 0 ≤ t by omega)
  obtain ⟨m, rfl⟩ := Int.eq_ofNat_of_zero_le (show 0 ≤ M by omega)
  rw [Int.toNat_natCast] at g4
  have : ((2 ^ x : Nat) : Int) = (2 : Int) ^ x := by simp
  exact ⟨x, y, m, rfl, rfl, rfl, by omega, by omega, by omega, by omega, by omega⟩
theorem ruleErr_of (d t M v : Int) (h : polyErrI d t = 0 → v = d + 1) : firstE [polyErrI d t, unI (withinB M v 100) 2] = ruleErrI d t M := by
  unfold ruleErrI
  by_cases h1 : polyErrI d t = 0
  · rw [h h1]
  · rw [firstE_cons, if_neg h1, firstE_cons, if_neg h1]
theorem wrap_succ {d t : Int} (h : polyErrI d t = 0) : IntKind.i64.wrap (d + 1) = d + 1 := by
  obtain ⟨g1, g2, -⟩ := poly_of h
  exact IntWalk.i64_in _ (by omega)
theorem bstep4 {B : Nat} {w1 W w2 : World} {p q r : Prop} (hb : Below W.heap.size W w2) (h : p ∧ q ∧ r ∧ Below B w1 W) (hB : B ≤ w1.heap.size) : Below B w1 w2 := h.2.2.2.trans (hb.mono (Nat.le_trans hB h.2.2.2.size))
/-- How many segments, and how many bits each one has ahead of its check. -/
def cntN (x m n : Nat) : Nat := ceilN n (m - x)
def aheadN (x m n : Nat) : Nat := ceilN n (cntN x m n)
theorem cut_facts {x m n : Nat} (hx : x < m) (hm : m ≤ 100) (n0 : 0 < n) (hn : n ≤ 200) : 0 < cntN x m n ∧ cntN x m n ≤ 200 ∧ 0 < aheadN x m n ∧ aheadN x m n ≤ m - x ∧ n ≤ cntN x m n * aheadN x m n ∧ cntN x m n * aheadN x m n < n + cntN x m n := by
  have hp : 0 < m - x := by omega
  have h1 : 0 < cntN x m n := ceilN_pos hp n0
  have h2 : cntN x m n ≤ n := ceilN_le hp
  have h3 : 0 < aheadN x m n := ceilN_pos h1 n0
  have h4 := ceilN_mul (a := n) hp
  have h5 := ceilN_mul (a := n) h1
  refine ⟨h1, by omega, h3, ?_, ?_, ?_⟩
  · refine Classical.byContradiction fun hno => ?_
    have h6 : (m - x + 1) * cntN x m n ≤ aheadN x m n * cntN x m n := Nat.mul_le_mul_right _ (by omega)
    have h7 : aheadN x m n * cntN x m n < n + cntN x m n := h5.2
    have h8 : n ≤ cntN x m n * (m - x) := h4.1
    rw [Nat.add_mul, Nat.one_mul, Nat.mul_comm] at h6
    omega
  · rw [Nat.mul_comm]; exact h5.1
  · rw [Nat.mul_comm]; exact h5.2
end Go.Proofs.Ytnglmfdcnoglhaa
/- The error of a segment; whether a number stands in a list; what is joined (without a walk). -/
namespace Go.Proofs.Ytnglmfdcnoglhaa
open Go.RowKit Go.Shelf
/-- Are the last d of n bits the remainder of those ahead? -/
def rightB (d t n : Nat) (F : Nat → Int) : Bool := intsB d (remB d t (n - d) F) d (fun j => F (n - d + j))
def segErrI (d t a n : Nat) (F : Nat → Int) : Int := if n = a + d then (if bitsB n F = true then (if rightB d t n F = true then 0 else 21) else 15) else 10
theorem areBits_b (A : Option Addr) (n c : Nat) (F : Nat → Int) (w : World) (hn : n ≤ 100000) (hI : IntsAt w 0 A n F) :
    Calls Try.prog 76 #[.slice A n c] w fun e w' => e = .returned (.bool (bitsB n F)) ∧ Below w.heap.size w w' :=
  (areBits_any A n c F w hn hI).mono fun _ _ ⟨h, q, hq⟩ => ⟨h, by rw [hq]; exact below_drewN (Below.refl _ _) q⟩
/-- Does a number stand in a list? -/
def hasB (n : Nat) (F : Nat → Int) (x : Int) : Bool := anyN n fun j => F j == x
theorem hasB_iff {n : Nat} {F : Nat → Int} {x : Int} : hasB n F x = true ↔ ∃ j, j < n ∧ F j = x := by
  unfold hasB
  rw [anyN_iff]
  simp
/-- The bits of segments of a bits each, one behind the other. -/
def allF (a : Nat) (F : Nat → Nat → Int) (j : Nat) : Int := F (j / a) (j % a)
theorem allF_snoc {a k : Nat} {F : Nat → Nat → Int} (ha : 0 < a) {j : Nat} (hj : j < k * a + a) : catF (k * a) (allF a F) (F k) j = allF a F j := by
  unfold catF
  by_cases h : j < k * a
  · rw [if_pos h]
  · rw [if_neg h]
    obtain ⟨r, hr⟩ : ∃ r, r = j - k * a := ⟨_, rfl⟩
    have e : j = a * k + r := by rw [Nat.mul_comm]; omega
    unfold allF
    rw [← hr, e, Nat.mul_add_div ha, Nat.mul_add_mod, Nat.div_eq_of_lt (by omega), Nat.mod_eq_of_lt (by omega)]
    rfl
/-- The number of the first error. -/
def firstIdx (g : Nat → Int) : Nat → Nat
  | 0 => 0
  | n + 1 => if firstBad g n = 0 then n else firstIdx g n
theorem firstIdx_at {g : Nat → Int} {k : Nat} (h : firstBad g k = 0) (hk : g k ≠ 0) : ∀ n, k < n → firstIdx g n = k
  | 0, hn => absurd hn (Nat.not_lt_zero _)
  | n + 1, hn => by
    unfold firstIdx
    rcases Nat.lt_or_ge k n with h1 | h1
    · have := firstBad_at h hk n h1
      rw [this, if_neg hk]
      exact firstIdx_at h hk n h1
    · obtain rfl : k = n := by omega
      rw [if_pos h]
/-- What joining n segments gives: an error, the number beside it, and which bits. -/
def joinErrI (x y m len n : Nat) (L : Nat → Nat) (F : Nat → Nat → Int) : Int :=
  if n = cntN x m len then
    (if firstBad (fun i => segErrI x y (aheadN x m len) (L i) (F i)) n = 0 then (if hasB (cntN x m len * aheadN x m len - len) (allF (aheadN x m len) F) 1 = true then 3 else 0)
     else firstBad (fun i => segErrI x y (aheadN x m len) (L i) (F i)) n)
  else 10
def joinNum (x y m len n : Nat) (L : Nat → Nat) (F : Nat → Nat → Int) : Nat :=
  if n = cntN x m len then (if firstBad (fun i => segErrI x y (aheadN x m len) (L i) (F i)) n = 0 then 0 else firstIdx (fun i => segErrI x y (aheadN x m len) (L i) (F i)) n) else 0
def joinF (x m len : Nat) (F : Nat → Nat → Int) (j : Nat) : Int := allF (aheadN x m len) F (cntN x m len * aheadN x m len - len + j)
def GaveJoin (err : Int) (num : Nat) (len : Nat) (G : Nat → Int) (w : World) (e : Ending) (w' : World) : Prop :=
  (∃ v, e = .returned (.tuple #[v, .int .i64 (num : Int), .int .i64 err]) ∧ ((err ≠ 0 ∧ v = .slice none 0 0) ∨ (err = 0 ∧ ∃ A c, v = .slice A len c ∧ IntsAt w' 0 A len G))) ∧ Below w.heap.size w w'
theorem segErr_zero {d t a n : Nat} {F : Nat → Int} (h : segErrI d t a n F = 0) : n = a + d ∧ ∀ k, k < n → IsBit (F k) := by
  unfold segErrI at h
  by_cases h1 : n = a + d
  · rw [if_pos h1] at h
    by_cases h2 : bitsB n F = true
    · exact ⟨h1, bitsB_iff.1 h2⟩
    · rw [if_neg h2] at h; exact absurd h (by decide)
  · rw [if_neg h1] at h; exact absurd h (by decide)
theorem joinErr_def (x y m len n : Nat) (L : Nat → Nat) (F : Nat → Nat → Int) : joinErrI x y m len n L F = if n = cntN x m len then
    (if firstBad (fun i => segErrI x y (aheadN x m len) (L i) (F i)) n = 0 then (if hasB (cntN x m len * aheadN x m len - len) (allF (aheadN x m len) F) 1 = true then 3 else 0)
     else firstBad (fun i => segErrI x y (aheadN x m len) (L i) (F i)) n)
  else 10 := rfl
theorem joinNum_def (x y m len n : Nat) (L : Nat → Nat) (F : Nat → Nat → Int) : joinNum x y m len n L F = if n = cntN x m len then (if firstBad (fun i => segErrI x y (aheadN x m len) (L i) (F i)) n = 0 then 0 else firstIdx (fun i => segErrI x y (aheadN x m len) (L i) (F i)) n) else 0 := rfl
theorem joinF_def (x m len : Nat) (F : Nat → Nat → Int) : joinF x m len F = fun j => allF (aheadN x m len) F (cntN x m len * aheadN x m len - len + j) := rfl
theorem OwnInts.made (w : World) (base g f : Nat) (hb : base ≤ w.heap.size) (hg : g = w.heap.size) (hf : f ≤ maxLen) : OwnInts (w.alloc (.cells (madeCells #[.int .i64 0] f) 3)) base (.slice (some ⟨g, 0, none⟩) f f) f (fun _ => 0) :=
  hg ▸ ⟨by rw [intCells_len, Nat.mul_one], .inr ⟨w.heap.size, f, _, rfl, hb, heap_alloc_new w _, Nat.le_refl _, hf, by simp [madeCells], by
    apply List.ext_getElem?
    intro j
    rw [intCells_get, Nat.mul_one]
    by_cases hj : j < f
    · rw [if_pos hj]; simp [madeCells, hj, Nat.mod_one]
    · rw [if_neg hj]; simp [madeCells, hj]⟩⟩
end Go.Proofs.Ytnglmfdcnoglhaa
/- Segments of the reference. -/
namespace Go.Proofs.Ytnglmfdcnoglhaa
open Go.RowKit Go.Shelf
/-- The block with zeros ahead. -/
def fillF (f : Nat) (B : Nat → Int) : Nat → Int := catF f (fun _ => 0) B
/-- The segment i of a block: a bits, and their check. -/
def segF (x y a f : Nat) (B : Nat → Int) (i : Nat) : Nat → Int := catF a (fun k => fillF f B (i * a + k)) (remB x y a (fun k => fillF f B (i * a + k)))
theorem fillF_bit {f n : Nat} {B : Nat → Int} (h : ∀ k, k < n → IsBit (B k)) : ∀ k, k < f + n → IsBit (fillF f B k) := fun k hk => by
  unfold fillF catF
  split
  · exact .inl rfl
  · exact h _ (by omega)
end Go.Proofs.Ytnglmfdcnoglhaa
/- Joined of the code. -/
namespace Go.Proofs.Ytnglmfdcnoglhaa
open Go.RowKit Go.Shelf
end Go.Proofs.Ytnglmfdcnoglhaa
/- slices.Concat of two and checked: their result is the call's own, its capacity is bounded. -/
namespace Go.Proofs.Ytnglmfdcnoglhaa
open Go.RowKit Go.Lib
set_option maxHeartbeats 4000000 in
theorem concat_own (g t : Nat) (A C : Option Addr) (n m c d e0 : Nat) (F G : Nat → Int) (w : World) (hn : n ≤ 1000000) (hm : m ≤ 1000000) (bx : Box w g t #[.slice A n c, .slice C m d]) (hF : IntsAt w 0 A n F) (hG : IntsAt w 0 C m G) :
    Calls Try.prog 78 #[.slice (some ⟨g, 0, none⟩) 2 e0] w fun e w' => ∃ v, e = .returned v ∧ OwnInts w' w.heap.size v (n + m) (catF n F G) ∧ Below w.heap.size w w' := by
  have HF := hide hF
  have HG := hide hG
  have y0 := bx.at_ 0
  have y1 := bx.at_ 1
  simp only [List.getElem?_toArray] at y0 y1
  clear hF hG
  go_enter Try.func78, Try.ntmps78
  go_wp2_with fail
  go_loopw [3, 11] (fun z i wr => ZAt n m i z ∧ wr = w) (fun _ i _ => 2 - (intOf i).toNat)
  case atStart => exact ⟨.inl ⟨rfl, rfl⟩, rfl⟩
  case round =>
    obtain ⟨hz, rfl⟩ := hrel
    rcases hz with ⟨rfl, rfl⟩ | ⟨rfl, rfl⟩ | ⟨rfl, rfl⟩
    · go_wp2_with fail
      go_roundw
      case rel => exact ⟨.inr (.inl ⟨rfl, rfl⟩), by first | rfl | trivial⟩
      case measure => simp [intOf]
    · go_wp2_with fail
      go_roundw
      case rel => exact ⟨.inr (.inr ⟨rfl, rfl⟩), by first | rfl | trivial⟩
      case measure => simp [intOf]
    · go_wp2_with fail
      rw [show (n : Int) + m = ((n + m : Nat) : Int) from by omega]
      refine (grow_any (n + m) _ (by omega)).mono ?_
      rintro e w1 ⟨v, rfl, hown, hb1⟩
      have z0 := (bx.below hb1).at_ 0
      have z1 := (bx.below hb1).at_ 1
      simp only [List.getElem?_toArray] at z0 z1
      go_wp2_with fail
      obtain ⟨wo, rfl⟩ : ∃ wo : World, wo = wr := ⟨_, rfl⟩
      go_loopw [6, 27] (fun v i wx => OAt wo n m F G i v wx ∧ Below wo.heap.size wo wx) (fun _ i _ => 2 - (intOf i).toNat)
      case atStart => exact ⟨.inl ⟨rfl, hown⟩, hb1⟩
      case round =>
        clear z0 z1
        obtain ⟨ho, hB⟩ := hrel
        have z0 := (bx.below hB).at_ 0
        have z1 := (bx.below hB).at_ 1
        simp only [List.getElem?_toArray] at z0 z1
        have hF := HF.out.below hB
        have hG := HG.out.below hB
        have hs := hB.size
        rcases ho with ⟨rfl, ho⟩ | ⟨rfl, ho⟩ | ⟨rfl, ho⟩
        · obtain ⟨A', c', rfl, -, -⟩ := ho.form
          go_wp2_with (at_builtin; refine wpList_append_ints _ rfl (.tmp 31) (.tmp 32) rfl wo.heap.size 0 (.slice A' 0 c') 0 (fun _ => 0) rfl ho A n c F rfl hF (by omega) hs ?_; intro v' w' h1 hb2)
          go_roundw
          case rel => exact ⟨.inr (.inl ⟨rfl, by rw [Nat.zero_add] at h1; exact h1.congr fun j _ => by simp [catF]⟩), hB.trans hb2⟩
          case measure => simp [intOf]
        · obtain ⟨A', c', rfl, -, -⟩ := ho.form
          go_wp2_with (at_builtin; refine wpList_append_ints _ rfl (.tmp 31) (.tmp 32) rfl wo.heap.size 0 (.slice A' n c') n F rfl ho C m d G rfl hG (by omega) hs ?_; intro v' w' h1 hb2)
          go_roundw
          case rel => exact ⟨.inr (.inr ⟨rfl, h1⟩), hB.trans hb2⟩
          case measure => simp [intOf]
        · go_wp2_with fail
          go_ret
          exact ⟨_, rfl, ho, hB⟩
set_option maxHeartbeats 1000000 in
theorem checked_own (d t : Nat) (A : Option Addr) (n c : Nat) (F : Nat → Int) (w : World) (h0 : 1 ≤ d) (h1 : d ≤ 16) (t1 : t < 2 ^ d) (hn : n ≤ 100000) (hI : IntsAt w 0 A n F) (hb : ∀ k, k < n → IsBit (F k)) :
    Calls Try.prog 46 #[.agg #[.int .i64 (d : Int), .int .i64 (t : Int)], .slice A n c] w fun e w' => ∃ A' c', e = .returned (.slice A' (n + d) c') ∧ n + d ≤ c' ∧ c' ≤ 9223372036854775807 ∧ IntsAt w' w.heap.size A' (n + d) (catF n F (remB d t n F)) ∧ Below w.heap.size w w' := by
  have HI := hide hI
  have HB := hide hb
  clear hI hb
  go_enter Try.func46, Try.ntmps46
  go_wp2_with fail
  refine (remainder_any d t A n c F _ h0 h1 t1 hn (HI.out.alloc _) HB.out).mono ?_
  rintro e w1 ⟨v, rfl, A1, c1, rfl, hc1, hI1, hb1⟩
  have hB1 := below_of_alloc hb1
  have hI0 := HI.out.below hB1
  have hs1 := hB1.size
  go_wp2_with fail
  refine (concat_own w1.heap.size 24 A A1 n d c c1 2 F (remB d t n F) _ (by omega) (by omega) (Box.made rfl) (hI0.alloc _) ((hI1.weak (Nat.zero_le _)).alloc _)).mono ?_
  rintro e w2 ⟨v, rfl, hown2, hb2⟩
  obtain ⟨A2, c2, rfl, hc2, hI2⟩ := hown2.form
  have hc29 := hown2.cap_any.2
  have hB2 := hB1.trans ((below_of_alloc hb2).mono hs1)
  go_wp2_with fail
  go_ret
  exact ⟨A2, c2, rfl, hc2, hc29, hI2.weak (by simp; omega), hB2⟩
end Go.Proofs.Ytnglmfdcnoglhaa
/- A region whose last operation stores, inside a round of a range over a function: its orders come to one end. -/
namespace Go.Proofs.Ytnglmfdcnoglhaa
open Go
/-- An operation that is about no function. -/
def plainOp (o : Oper) : Bool := match o.op with
  | .move .. | .assign .. | .load .. | .store .. | .binOp .. | .fieldAddr .. | .indexAddr .. => true
  | _ => false
theorem run_val {P : Program} {s : Sem Value} {w : World} {r : Result Next} (h : ((do pure (.value (← s))) : Sem Next).run P w = r) : (∃ v w', r = .ok (.value v) w') ∨ (∃ w', r = .ok .skip w') ∨ ∃ x w', r = .halt x w' := by
  rw [Sem.run_bind] at h
  cases hs : s.run P w with
  | ok v w' => rw [hs] at h; exact .inl ⟨v, w', h.symm⟩
  | halt x w' => rw [hs] at h; exact .inr (.inr ⟨x, w', h.symm⟩)
theorem run_unit {P : Program} {s : Sem Unit} {w : World} {r : Result Next} (h : ((do s; pure .skip) : Sem Next).run P w = r) : (∃ v w', r = .ok (.value v) w') ∨ (∃ w', r = .ok .skip w') ∨ ∃ x w', r = .halt x w' := by
  rw [Sem.run_bind] at h
  cases hs : s.run P w with
  | ok v w' => rw [hs] at h; exact .inr (.inl ⟨w', h.symm⟩)
  | halt x w' => rw [hs] at h; exact .inr (.inr ⟨x, w', h.symm⟩)
theorem plain_result {P : Program} {o : Oper} (hp : plainOp o = true) (ρ : Operand → Value) (w : World) {r : Result Next} (h : (execOp ρ o).run P w = r) : (∃ v w', r = .ok (.value v) w') ∨ (∃ w', r = .ok .skip w') ∨ ∃ x w', r = .halt x w' := by
  unfold plainOp at hp
  unfold execOp at h
  cases ho : o.op <;> rw [ho] at hp h <;> first | (simp at hp; done) | exact run_val h | exact run_unit h | (exact .inl ⟨_, _, h.symm⟩)
theorem plain_wpIn {F : Fence} {n : Nat} {P : Program} {o : Oper} (hp : plainOp o = true) {a : Act} {w : World} {K : Act → World → Prop} {Q : Exit → Act → World → Prop} (h : o.wp P a w K Q) : o.wpIn F n P a w K Q := by
  have hd : ∀ c, o.op ≠ .defer c := fun c e => by unfold plainOp at hp; rw [e] at hp; cases hp
  refine ⟨fun f hf => ?_, ?_⟩
  · exfalso
    unfold Oper.about at hf
    unfold plainOp at hp
    cases ho : o.op <;> rw [ho] at hp hf <;> first | cases hf | cases hp
  · rw [Oper.semAt_eq _ _ _ hd]
    unfold Oper.wp at h
    rcases plain_result hp a.eval w (rfl : (execOp a.eval o).run P w = _) with ⟨v, w', e⟩ | ⟨w', e⟩ | ⟨x, w', e⟩
    · rw [e] at h ⊢; exact h
    · rw [e] at h ⊢; exact h
    · rw [e] at h ⊢; cases x <;> first | exact h | exact h.elim
theorem plain_about {P : Program} {o : Oper} (hp : plainOp o = true) (w : World) (ρ : Operand → Value) {f : FuncId} (hf : o.about P w ρ = some f) : False := by
  unfold Oper.about at hf
  unfold plainOp at hp
  cases ho : o.op <;> rw [ho] at hp hf <;> first | cases hf | cases hp
theorem wpAnyIn_of_plain {F : Fence} {n : Nat} {P : Program} {md : Region.Mode} {ops : Array Oper} {Q : Exit → Act → World → Prop} (hQ : ¬ LetsOut Q) (hp : ∀ (i : Nat) o, ops[i]? = some o → plainOp o = true) : ∀ (fuel : Nat) (listed : Array Bool) (a : Act) (w : World), wpAny P md ops Q fuel listed a w → wpAnyIn F n P md ops Q fuel listed a w
  | 0, _, _, _, h => h
  | fuel + 1, listed, a, w, h => by
    refine ⟨h.1, fun i hi => ?_⟩
    have h2 := h.2 i hi
    unfold wpOp at h2
    unfold wpOpIn
    cases ho : ops[i]? with
    | none =>
      rw [ho] at h2
      exact wpAnyIn_of_plain hQ hp fuel _ a w h2
    | some o =>
      rw [ho] at h2
      simp only at h2 ⊢
      by_cases hw : Region.wanted o (yielded ops a.tmps) = true
      · rw [if_pos hw] at h2 ⊢
        exact plain_wpIn (hp i o ho) (Oper.wp_mono (fun a' w' h' => wpAnyIn_of_plain hQ hp fuel _ a' w' h') (h2.resolve_right fun h => hQ h.2))
      · rw [if_neg hw] at h2 ⊢
        exact ⟨fun f hf => (plain_about (hp i o ho) _ _ hf).elim, wpAnyIn_of_plain hQ hp fuel _ _ w h2⟩
theorem wpIn_region_tail {F : Fence} {g : Nat} {P : Program} {id : Nat} {Q : Exit → Act → World → Prop} {a : Act} {w : World} {l : List Oper} (n : Nat) (hm : P.follows .mixedOrders = true) (hB : Region.lexTailB .any l.toArray n = true) (hp : l.all plainOp = true) (hQ : ¬ LetsOut Q)
    (h : wpStill P l.toArray { w with drawn := w.drawn + 1 } (fun a' => wpList P l.toArray Q (l.drop n) a' { w with drawn := w.drawn + 1 }) (l.take n) a) : (Code.region id l.toArray true).wpIn F g P Q a w := by
  simp only [Region.lexTailB, Bool.and_eq_true, decide_eq_true_eq] at hB
  obtain ⟨⟨⟨⟨hsel, hn⟩, hs⟩, hc⟩, hlex⟩ := hB
  have hn' : n < l.length := by simpa using hn
  have htl : (l.take n).length = n := by simp; omega
  have hdl : (l.drop n).length = l.toArray.size - n := by simp
  have inv0 : HeadInv .any l.toArray n (Array.replicate l.toArray.size false) :=
    ⟨by simp, fun j oj _ hl => (by rw [getD_replicate_false] at hl; cases hl), fun t _ ht => getD_in (by simpa using ht) (getD_replicate_false _ _)⟩
  have H := wpAnyL_lex (md := .any) (g := l.toArray.size - n) hsel hs hc hn (l.take n) 0 _ a (fun j hj => by
    have hj' : j < n := by rw [htl] at hj; exact hj
    simp [hj']) (by simpa using htl) inv0 (by rw [htl]; exact hlex) h
  refine wpIn_region_any hm (wpAnyIn_of_plain hQ (fun i o ho => ?_) _ _ _ _ ?_)
  · have hmem : o ∈ l := by
      rw [List.getElem?_toArray] at ho
      exact List.mem_of_getElem? ho
    exact List.all_eq_true.1 hp o hmem
  · have := wpAny_of_head (Q' := Q) (g := l.toArray.size - n) (fun listed a' hL => by
      have := wpAny_of_seq (md := .any) (Q' := Q) (l.drop n) n listed a' { w with drawn := w.drawn + 1 } (fun j => by simp [List.getElem?_drop]) (by rw [hdl]; exact hL.1) hL.2
      rwa [hdl] at this) _ _ _ H
    rw [htl, show n + (l.toArray.size - n) = l.toArray.size by omega] at this
    exact this
end Go.Proofs.Ytnglmfdcnoglhaa
/- Segments of the code. -/
namespace Go.Proofs.Ytnglmfdcnoglhaa
open Go.RowKit Go.Shelf
attribute [local go_sem] Oper.semAt_some
def idx {C : Nat} (pre : List (Fin C)) (i : Nat) : Nat := ((pre[i]?).map fun x => x.1).getD 0
theorem idx_left {C : Nat} {pre : List (Fin C)} {x : Fin C} {i : Nat} (h : i < pre.length) : idx (pre ++ [x]) i = idx pre i := by unfold idx; rw [List.getElem?_append_left h]
theorem idx_last {C : Nat} {pre : List (Fin C)} {x : Fin C} : idx (pre ++ [x]) pre.length = x.1 := by unfold idx; simp
theorem seqTo_length {C : Nat} : ∀ {j : Nat}, j ≤ C → (seqTo C j).length = j
  | 0, _ => rfl
  | j + 1, h => by rw [seqTo_succ (show j < C by omega), List.length_append, seqTo_length (by omega)]; rfl
theorem idx_seq {C : Nat} : ∀ {j : Nat}, j ≤ C → ∀ i, i < j → idx (seqTo C j) i = i
  | 0, _, i, hi => absurd hi (Nat.not_lt_zero _)
  | j + 1, h, i, hi => by
    rw [seqTo_succ (show j < C by omega)]
    rcases Nat.lt_or_ge i j with h1 | h1
    · rw [idx_left (by rw [seqTo_length (by omega)]; exact h1)]
      exact idx_seq (by omega) i h1
    · obtain rfl : i = j := by omega
      have := idx_last (pre := seqTo C i) (x := ⟨i, by omega⟩)
      rwa [seqTo_length (by omega)] at this
section
variable {W Y : World} {row : Option Nat}
theorem IntsAt.own {lo n : Nat} {A : Option Addr} {F : Nat → Int} (h : IntsAt W lo A n F) (hg : W.grownBy Y row) (hr : ∀ r, row = some r → ∃ o : Obj, W.heap[r]? = some o ∧ o.isCells = false) : IntsAt Y lo A n F := fun k hk => by
  obtain ⟨b, o, e, h1, h2, h3⟩ := h k hk
  exact ⟨b, o, e, h1, Nat.lt_of_lt_of_le h2 hg.size, cell_kept h3 hg hr⟩
theorem Box.own {b : Nat} {t : TypeId} {cs : Array Value} (h : Box W b t cs) (hg : W.grownBy Y row) (hr : ∀ r, row = some r → ∃ o : Obj, W.heap[r]? = some o ∧ o.isCells = false) : Box Y b t cs :=
  (hg.block b h.lt (fun e => by
    obtain ⟨o, h1, h2⟩ := hr b e.symm
    have : W.heap[b]? = some (.cells cs t (0, 0)) := h
    rw [this] at h1
    injection h1 with h1
    subst h1
    cases h2)).trans h
theorem OwnLists.own {base n : Nat} {v : Value} {L : Nat → Nat} {F : Nat → Nat → Int} (h : OwnLists W base v n L F) (hg : W.grownBy Y row) (hr : ∀ r, row = some r → ∃ o : Obj, W.heap[r]? = some o ∧ o.isCells = false) : OwnLists Y base v n L F := by
  obtain ⟨xs, h1, h2⟩ := h
  refine ⟨xs, World.ownsRow.kept h1 hg ?_, fun i hi => ?_⟩
  · rcases h1.2 with ⟨rfl, -⟩ | ⟨g, cap, cur, rfl, -, hgg, -⟩
    · exact .inl rfl
    · refine .inr fun e => ?_
      obtain ⟨o, h3, h4⟩ := hr g e.symm
      rw [hgg] at h3
      injection h3 with h3
      subst h3
      cases h4
  · obtain ⟨Ai, ci, e, h3, h4, h5, h6⟩ := h2 i hi
    exact ⟨Ai, ci, e, h3, h4, h5.own hg hr, fun b o e => ⟨(h6 b o e).1, Nat.lt_of_lt_of_le (h6 b o e).2 hg.size⟩⟩
end
/-- What holds between two rounds: the variable parts, in the block p, has the segments so far; nothing else has turned. -/
structure SInv (w5 W : World) (p x y a f cnt : Nat) (B : Nat → Int) (pre : List (Fin cnt)) (v : Value) : Prop where
  box : Box W p 58 #[v]
  own : OwnLists W w5.heap.size v pre.length (fun _ => a + x) (fun i => segF x y a f B (idx pre i))
  only : Only p w5 W
theorem SInv.grown {w5 W Y : World} {p x y a f cnt : Nat} {B : Nat → Int} {pre : List (Fin cnt)} {v : Value} {row : Option Nat} (h : SInv w5 W p x y a f cnt B pre v) (hg : W.grownBy Y row) (hr : ∀ r, row = some r → w5.heap.size ≤ r ∧ ∃ o : Obj, W.heap[r]? = some o ∧ o.isCells = false) : SInv w5 Y p x y a f cnt B pre v :=
  ⟨h.box.own hg (fun r e => (hr r e).2), h.own.own hg (fun r e => (hr r e).2), ⟨hg.os.trans h.only.os, hg.tape.trans h.only.tape, hg.output.trans h.only.output, Nat.le_trans h.only.size hg.size, fun i hi hn => (hg.block i (Nat.lt_of_lt_of_le hi h.only.size) (fun e => by have := (hr i e.symm).1; omega)).trans (h.only.block i hi hn)⟩⟩
theorem OwnLists.other {w : World} {base n p : Nat} {v : Value} {L : Nat → Nat} {F : Nat → Nat → Int} (h : OwnLists w base v n L F) (hp : p < base) (o : Nat) (u : Value) : OwnLists (w.setCell ⟨p, o, none⟩ u) base v n L F := by
  obtain ⟨xs, h1, h2⟩ := h
  refine ⟨xs, World.ownsRow.kept h1 ((Only.refl p w).set_ o u) ?_, fun i hi => ?_⟩
  · cases e : v.ownBlock with
    | none => exact .inl rfl
    | some g => exact .inr (fun e2 => by injection e2 with e2; have := (World.ownsRow.lt h1 g e).1; omega)
  · obtain ⟨Ai, ci, e, h3, h4, h5, h6⟩ := h2 i hi
    exact ⟨Ai, ci, e, h3, h4, h5.other hp _, fun b o e => ⟨(h6 b o e).1, by simpa [World.setCell] using (h6 b o e).2⟩⟩
theorem step_append_listIn {Fc : Fence} {fu : Nat} {ops : Array Oper} {o : Oper} {a : Act} {K : Act → World → Prop} {Q : Exit → Act → World → Prop} {E : Prop} (w : World) (hgd : o.guard = none) (s x : Operand)
    (ho : o.op = .call { callee := .builtin .append, args := #[s, x], argTypes := #[58, 58] })
    (base : Nat) (v : Value) (n : Nat) (L : Nat → Nat) (F : Nat → Nat → Int) (hs : a.eval s = v) (hown : OwnLists w base v n L F)
    (g1 : Nat) (A : Option Addr) (m c : Nat) (G : Nat → Int) (hx : a.eval x = .slice (some ⟨g1, 0, none⟩) 1 1) (hc : w.cell? ⟨g1, 0, none⟩ = some (.slice A m c)) (hmc : m ≤ c) (hc9 : c ≤ 9223372036854775807) (hr : IntsAt w base A m G) (ha : ∀ b o, A = some ⟨b, o, none⟩ → v.ownBlock ≠ some b ∧ b < w.heap.size) (hn : n ≤ 1000000) (hbase : base ≤ w.heap.size)
    (h : ∀ v' w', OwnLists w' base v' (n + 1) (snocN n L m) (snocF n F G) → Below base w w' → w.grownBy w' v.ownBlock → K (a.put o.dst v') w') :
    if Region.wanted o (yielded ops a.tmps) = true then Oper.wpIn Fc fu Try.prog o a w K Q else E := by
  have hw : Region.wanted o (yielded ops a.tmps) = true := by simp [Region.wanted, hgd]
  rw [if_pos hw]
  obtain ⟨v', w', hrun, h1, h2, h3⟩ := run_append_list w o.type base v n L F hown g1 A m c G hc hmc hc9 hr ha hn hbase
  unfold Oper.wpIn
  refine ⟨?_, ?_⟩
  · simp [Oper.about, ho, resolve, Target.leads, Sem.run_pure]
  · rw [Oper.semAt_plain Fc _ _ (by rw [ho]; intro c hc'; cases hc')]
    simp [execOp, ho, resolve, invoke, builtin, hs, hx, hrun, Result.andThen]
    exact h v' w' h1 h2 h3
theorem OwnLists.weak {w : World} {base base' n : Nat} {v : Value} {L : Nat → Nat} {F : Nat → Nat → Int} (h : OwnLists w base v n L F) (hb : base' ≤ base) : OwnLists w base' v n L F := by
  obtain ⟨xs, h1, h2⟩ := h
  exact ⟨xs, ⟨h1.1, h1.2.elim Or.inl (fun ⟨g, cap, cur, hv, hg, r⟩ => Or.inr ⟨g, cap, cur, hv, Nat.le_trans hb hg, r⟩)⟩, fun i hi => by obtain ⟨Ai, ci, e, h3, h4, h5, h6⟩ := h2 i hi; exact ⟨Ai, ci, e, h3, h4, h5.weak hb, h6⟩⟩
theorem seg_fin {w6 W w7 w8 : World} {p x y a f cnt u c7 : Nat} {B : Nat → Int} {pre : List (Fin cnt)} {xx : Fin cnt} {v v' : Value} {A7 : Option Addr} (hp : p + 2 < w6.heap.size) (hM : SInv w6 W p x y a f cnt B pre v) (hb7 : Below W.heap.size W w7)
    (h8 : OwnLists w8 w6.heap.size v' (pre.length + 1) (snocN pre.length (fun _ => a + x) (a + x)) (snocF pre.length (fun i => segF x y a f B (idx pre i)) (catF a (fun j => fillF f B (u + j)) (remB x y a fun j => fillF f B (u + j)))))
    (hb8 : Below w6.heap.size (w7.alloc (.cells #[.slice A7 (a + x) c7] 24)) w8) (hg8 : (w7.alloc (.cells #[.slice A7 (a + x) c7] 24)).grownBy w8 v.ownBlock) (hU : (fun j => fillF f B (u + j)) = (fun j => fillF f B (xx.1 * a + j))) :
    KeepsFrom w6.heap.size W (w8.setCell ⟨p, 0, none⟩ v') ∧ K2 (p + 1) W (w8.setCell ⟨p, 0, none⟩ v') ∧ ∃ v2, SInv w6 (w8.setCell ⟨p, 0, none⟩ v') p x y a f cnt B (pre ++ [xx]) v2 := by
  have s1 := hM.only.size
  have s2 := hb7.size
  have s3 := hb8.size
  rw [World.size_alloc] at s3
  have hb7a : Below W.heap.size W (w7.alloc (.cells #[.slice A7 (a + x) c7] 24)) := hb7.alloc s2 _
  have hW8 : Below w6.heap.size W w8 := (hb7a.mono s1).trans hb8
  have hsz : (w8.setCell ⟨p, 0, none⟩ v').heap.size = w8.heap.size := by simp [World.setCell]
  have hset : ∀ q, q ≠ p → (w8.setCell ⟨p, 0, none⟩ v').heap[q]? = w8.heap[q]? := fun q hq => Below.heap_setCell _ _ _ _ hq
  refine ⟨⟨by rw [hsz]; omega, fun q o hq hk ho => ?_⟩, ⟨by rw [hsz]; omega, ?_, ?_⟩, v', ?_, ?_, ?_⟩
  · rw [hset q (by omega)]
    have hqW : q < W.heap.size := (Array.getElem?_eq_some_iff.1 hk).1
    have h1 := (hb7a.block q hqW).trans hk
    refine (hg8.block q (by simp; omega) (fun e => ?_)).trans h1
    obtain ⟨xs, g1, -⟩ := hM.own
    rcases g1.2 with ⟨rfl, -⟩ | ⟨g, cap, cur, rfl, -, hgg, -⟩
    · cases e
    · have e' : q = g := by injection e
      subst e'
      rw [hgg] at hk
      injection hk with hk
      subst hk
      cases ho
  · rw [hset _ (by omega)]; exact hW8.block _ (by omega)
  · rw [hset _ (by omega)]; exact hW8.block _ (by omega)
  · have := ((hM.box.below hb7).alloc (.cells #[.slice A7 (a + x) c7] 24)).kept hb8 (by omega)
    exact this.set_ 0 v'
  · rw [List.length_append, List.length_singleton]
    refine (h8.other (by omega) 0 v').congr fun i hi => ?_
    unfold snocN snocF
    by_cases e : i < pre.length
    · rw [if_pos e, if_pos e, idx_left e]; exact ⟨rfl, fun _ _ => rfl⟩
    · obtain rfl : i = pre.length := by omega
      rw [if_neg e, if_neg e, idx_last, hU]; exact ⟨rfl, fun _ _ => rfl⟩
  · refine Only.set_ ⟨hW8.os.trans hM.only.os, hW8.tape.trans hM.only.tape, hW8.output.trans hM.only.output, Nat.le_trans s1 (by omega), fun i hi hn => (hW8.block i hi).trans (hM.only.block i hi hn)⟩ 0 v'
end Go.Proofs.Ytnglmfdcnoglhaa
/- Joined and Segments of the code where the rule, the length or the bits are wrong; mathematics of segments (what is cut is joined again); both, any input. -/
namespace Go.Proofs.Ytnglmfdcnoglhaa
theorem firstBad_none {g : Nat → Int} : ∀ {n : Nat}, (∀ k, k < n → g k = 0) → firstBad g n = 0
  | 0, _ => rfl
  | n + 1, h => by
    unfold firstBad
    rw [if_pos (firstBad_none fun k hk => h k (by omega))]
    exact h n (by omega)
theorem segF_at {x y a f i k : Nat} {B : Nat → Int} (hk : k < a) : segF x y a f B i k = fillF f B (i * a + k) := if_pos hk
theorem segF_check {x y a f i k : Nat} {B : Nat → Int} : segF x y a f B i (a + k) = remB x y a (fun k => fillF f B (i * a + k)) k := by
  unfold segF catF
  rw [if_neg (by omega), Nat.add_sub_cancel_left]
theorem allF_seg {x y a f : Nat} {B : Nat → Int} (ha : 0 < a) (j : Nat) : allF a (segF x y a f B) j = fillF f B j := by
  unfold allF
  rw [segF_at (Nat.mod_lt _ ha), Nat.mul_comm, Nat.div_add_mod]
theorem segErr_seg {x y a f s i : Nat} {B : Nat → Int} (hb : ∀ k, k < s → IsBit (fillF f B k)) (hi : (i + 1) * a ≤ s) : segErrI x y a (a + x) (segF x y a f B i) = 0 := by
  rw [Nat.add_mul, Nat.one_mul] at hi
  unfold segErrI
  have h1 : bitsB (a + x) (segF x y a f B i) = true := bitsB_iff.2 fun k hk => by
    rcases Nat.lt_or_ge k a with h | h
    · rw [segF_at h]; exact hb _ (by omega)
    · obtain ⟨j, rfl⟩ := Nat.exists_eq_add_of_le h
      rw [segF_check]; exact remB_bit _ _ _ _ _
  have h2 : rightB x y (a + x) (segF x y a f B i) = true := by
    unfold rightB
    rw [Nat.add_sub_cancel]
    refine intsB_iff.2 ⟨rfl, fun j _ => ?_⟩
    rw [segF_check]
    unfold remB
    rw [remF_congr fun k hk => segF_at hk]
  rw [if_pos rfl, if_pos h1, if_pos h2]
theorem join_back {x y m n : Nat} {B : Nat → Int} (hx : x < m) (hm : m ≤ 100) (n0 : 0 < n) (n9 : n ≤ 200) (hb : ∀ k, k < n → IsBit (B k)) :
    joinErrI x y m n (cntN x m n) (fun _ => aheadN x m n + x) (segF x y (aheadN x m n) (cntN x m n * aheadN x m n - n) B) = 0 ∧
    joinNum x y m n (cntN x m n) (fun _ => aheadN x m n + x) (segF x y (aheadN x m n) (cntN x m n * aheadN x m n - n) B) = 0 ∧
    ∀ k, joinF x m n (segF x y (aheadN x m n) (cntN x m n * aheadN x m n - n) B) k = B k := by
  obtain ⟨c1, c2, c3, c4, c5, c6⟩ := cut_facts hx hm n0 n9
  have hz : firstBad (fun i => segErrI x y (aheadN x m n) (aheadN x m n + x) (segF x y (aheadN x m n) (cntN x m n * aheadN x m n - n) B i)) (cntN x m n) = 0 :=
    firstBad_none fun i hi => segErr_seg (s := cntN x m n * aheadN x m n) (fun k hk => fillF_bit hb k (by omega)) (Nat.mul_le_mul_right _ hi)
  have hh : hasB (cntN x m n * aheadN x m n - n) (allF (aheadN x m n) (segF x y (aheadN x m n) (cntN x m n * aheadN x m n - n) B)) 1 = false := by
    rw [← Bool.not_eq_true, hasB_iff]
    rintro ⟨j, hj, e⟩
    rw [allF_seg c3] at e
    unfold fillF catF at e
    rw [if_pos hj] at e
    exact absurd e (show ¬((0 : Int) = 1) by decide)
  refine ⟨?_, ?_, fun k => ?_⟩
  · rw [joinErr_def, if_pos rfl, if_pos hz, if_neg (by rw [hh]; decide)]
  · rw [joinNum_def, if_pos rfl, if_pos hz]
  · rw [joinF_def]
    show allF _ _ _ = _
    rw [allF_seg c3]
    unfold fillF catF
    rw [if_neg (by omega), Nat.add_sub_cancel_left]
open Go.RowKit Go.Shelf
/-- The error ahead of joining: the rule's, then the length's. -/
def preErrI (d t M len : Int) : Int := firstE [ruleErrI d t M, unI (withinB len 1 200) 2]
def jErrI (d t M len : Int) (n : Nat) (L : Nat → Nat) (F : Nat → Nat → Int) : Int := if preErrI d t M len = 0 then joinErrI d.toNat t.toNat M.toNat len.toNat n L F else preErrI d t M len
def jNumI (d t M len : Int) (n : Nat) (L : Nat → Nat) (F : Nat → Nat → Int) : Nat := if preErrI d t M len = 0 then joinNum d.toNat t.toNat M.toNat len.toNat n L F else 0
def jF (d M len : Int) (F : Nat → Nat → Int) : Nat → Int := joinF d.toNat M.toNat len.toNat F
theorem preErr_zero {d t M len : Int} (h : preErrI d t M len = 0) : ruleErrI d t M = 0 ∧ ∃ l : Nat, len = l ∧ 0 < l ∧ l ≤ 200 := by
  obtain ⟨h1, h⟩ := firstE_zero_cons h
  obtain ⟨h2, -⟩ := firstE_zero_cons h
  have h2 := withinB_of (unI_zero (by decide) h2)
  obtain ⟨l, rfl⟩ := Int.eq_ofNat_of_zero_le (show 0 ≤ len by omega)
  exact ⟨h1, l, rfl, by omega, by omega⟩
/-- The error ahead of cutting: the rule's, then that of the bits. -/
def segPreI (d t M : Int) (n : Nat) (B : Nat → Int) : Int := firstE [ruleErrI d t M, firstE [firstE [unI (decide (0 < n)) 10, unI (decide (n ≤ 200)) 8], unI (bitsB n B) 15]]
def GaveSegs (d t M : Int) (n : Nat) (B : Nat → Int) (w : World) (e : Ending) (w' : World) : Prop :=
  (∃ v, e = .returned (.tuple #[v, .int .i64 (segPreI d t M n B)]) ∧ ((segPreI d t M n B ≠ 0 ∧ v = .slice none 0 0) ∨ (segPreI d t M n B = 0 ∧ OwnLists w' w.heap.size v (cntN d.toNat M.toNat n) (fun _ => aheadN d.toNat M.toNat n + d.toNat) (segF d.toNat t.toNat (aheadN d.toNat M.toNat n) (cntN d.toNat M.toNat n * aheadN d.toNat M.toNat n - n) B)))) ∧ Below w.heap.size w w'
theorem segPre_zero {d t M : Int} {n : Nat} {B : Nat → Int} (h : segPreI d t M n B = 0) : ruleErrI d t M = 0 ∧ 0 < n ∧ n ≤ 200 ∧ ∀ k, k < n → IsBit (B k) := by
  obtain ⟨h1, h⟩ := firstE_zero_cons h
  obtain ⟨h2, -⟩ := firstE_zero_cons h
  obtain ⟨h3, h4⟩ := firstE_zero_cons h2
  obtain ⟨h4, -⟩ := firstE_zero_cons h4
  obtain ⟨h5, h6⟩ := firstE_zero_cons h3
  obtain ⟨h6, -⟩ := firstE_zero_cons h6
  exact ⟨h1, of_decide_eq_true (unI_zero (by decide) h5), of_decide_eq_true (unI_zero (by decide) h6), bitsB_iff.1 (unI_zero (by decide) h4)⟩
/-- What is cut is joined again: no error, the number 0, the same bits. -/
theorem cut_joined {d t M : Int} {n : Nat} {B : Nat → Int} (h : segPreI d t M n B = 0) :
    jErrI d t M n (cntN d.toNat M.toNat n) (fun _ => aheadN d.toNat M.toNat n + d.toNat) (segF d.toNat t.toNat (aheadN d.toNat M.toNat n) (cntN d.toNat M.toNat n * aheadN d.toNat M.toNat n - n) B) = 0 ∧
    jNumI d t M n (cntN d.toNat M.toNat n) (fun _ => aheadN d.toNat M.toNat n + d.toNat) (segF d.toNat t.toNat (aheadN d.toNat M.toNat n) (cntN d.toNat M.toNat n * aheadN d.toNat M.toNat n - n) B) = 0 ∧
    ∀ k, jF d M n (segF d.toNat t.toNat (aheadN d.toNat M.toNat n) (cntN d.toNat M.toNat n * aheadN d.toNat M.toNat n - n) B) k = B k := by
  obtain ⟨hr, n0, n9, hb⟩ := segPre_zero h
  have hp : preErrI d t M n = 0 := by
    unfold preErrI
    rw [hr, withinB_yes (by omega)]
    rfl
  obtain ⟨x, y, m, ho⟩ := ruleErr_zero hr
  obtain ⟨rfl, rfl, rfl, d0, d1, t1, m0, m9⟩ := ho
  unfold jErrI jNumI jF
  rw [if_pos hp, if_pos hp]
  simp only [Int.toNat_natCast]
  exact join_back m0 m9 n0 n9 hb
end Go.Proofs.Ytnglmfdcnoglhaa
