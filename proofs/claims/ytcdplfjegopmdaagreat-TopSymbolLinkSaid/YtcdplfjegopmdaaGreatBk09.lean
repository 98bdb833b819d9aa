/- Lemmas: S1, S2, S3, S4, S5. -/
import Derived.Laws.IdiomCopy
import Derived.Deep.RegionHeld3
import Derived.StillTailTactics
import Derived.Test.YtcdplfjegopmdaaGreatBk01
import Derived.Test.YtcdplfjegopmdaaGreatBk06
import Derived.Test.YtcdplfjegopmdaaGreatBk07
set_option linter.unusedVariables false
set_option linter.unusedSimpArgs false
/- Mathematics of registers (without a walk): a step, several steps, that a step can be undone, and the period. -/
namespace Go.Proofs.YtcdplfjegopmdaaGreat
/-- The sum of the bits at the first k taps. -/
def regSum (S T : Nat → Int) : Nat → Int
  | 0 => 0
  | k + 1 => regSum S T k + S (T k).toNat
/-- The state behind a step. -/
def nextS (L n : Nat) (T S : Nat → Int) (j : Nat) : Int := if j + 1 < L then S (j + 1) else regSum S T n % 2
/-- The state behind k steps. -/
def itS (L n : Nat) (T S : Nat → Int) : Nat → Nat → Int
  | 0 => S
  | k + 1 => nextS L n T (itS L n T S k)
theorem regSum_step {S T : Nat → Int} {k : Nat} {b : Int} (hb : IsBit b) (h : S (T k).toNat = b) : xor1 (regSum S T k % 2) b = regSum S T (k + 1) % 2 := by
  show (regSum S T k % 2 + b) % 2 = (regSum S T k + S (T k).toNat) % 2
  rw [h]
  omega
theorem mod_bit (s : Int) : IsBit (s % 2) := by unfold IsBit; omega
theorem nextS_bit {L n : Nat} {T S : Nat → Int} (hS : ∀ j, j < L → IsBit (S j)) (j : Nat) : IsBit (nextS L n T S j) := by
  unfold nextS
  split
  · exact hS _ (by assumption)
  · exact mod_bit _
theorem itS_bit {L n : Nat} {T S : Nat → Int} (hS : ∀ j, j < L → IsBit (S j)) : ∀ k j, j < L → IsBit (itS L n T S k j)
  | 0, j, hj => hS j hj
  | k + 1, j, _ => nextS_bit (itS_bit hS k) j
theorem regSum_congr {S S' T : Nat → Int} {L : Nat} : ∀ {n : Nat}, (∀ i, i < n → (T i).toNat < L) → (∀ j, j < L → S j = S' j) → regSum S T n = regSum S' T n
  | 0, _, _ => rfl
  | n + 1, hT, h => by
    show regSum S T n + S (T n).toNat = regSum S' T n + S' (T n).toNat
    rw [regSum_congr (fun i hi => hT i (by omega)) h, h _ (hT n (Nat.lt_succ_self n))]
theorem nextS_congr {L n : Nat} {T S S' : Nat → Int} (hT : ∀ i, i < n → (T i).toNat < L) (h : ∀ j, j < L → S j = S' j) (j : Nat) : nextS L n T S j = nextS L n T S' j := by
  unfold nextS
  split
  · exact h _ (by assumption)
  · rw [regSum_congr hT h]
theorem itS_congr {L n : Nat} {T S S' : Nat → Int} (hT : ∀ i, i < n → (T i).toNat < L) (h : ∀ j, j < L → S j = S' j) : ∀ k j, j < L → itS L n T S k j = itS L n T S' k j
  | 0, j, hj => h j hj
  | k + 1, j, _ => nextS_congr hT (itS_congr hT h k) j
theorem itS_add {L n : Nat} {T S : Nat → Int} (a : Nat) : ∀ b, itS L n T S (a + b) = itS L n T (itS L n T S a) b
  | 0 => rfl
  | b + 1 => by
    show nextS L n T (itS L n T S (a + b)) = nextS L n T (itS L n T (itS L n T S a) b)
    rw [itS_add a b]
/-- Taps that rise from 0 on: the first bit counts once. -/
theorem regSum_first {S S' T : Nat → Int} {L : Nat} (h0 : T 0 = 0) : ∀ {n : Nat}, (∀ i, i < n + 1 → 0 ≤ T i ∧ (T i).toNat < L) → (∀ i, i < n → T i < T (i + 1)) → (∀ j, 0 < j → j < L → S j = S' j) →
    regSum S T (n + 1) - S 0 = regSum S' T (n + 1) - S' 0
  | 0, _, _, _ => by
    show (0 : Int) + S (T 0).toNat - S 0 = 0 + S' (T 0).toNat - S' 0
    rw [h0]
    show (0 : Int) + S 0 - S 0 = 0 + S' 0 - S' 0
    omega
  | n + 1, hT, hr, h => by
    have ih := regSum_first h0 (n := n) (fun i hi => hT i (by omega)) (fun i hi => hr i (by omega)) h
    have h1 := hT (n + 1) (by omega)
    have h2 := hT n (by omega)
    have h3 := hr n (by omega)
    have h4 := h (T (n + 1)).toNat (by omega) h1.2
    show regSum S T (n + 1) + S (T (n + 1)).toNat - S 0 = regSum S' T (n + 1) + S' (T (n + 1)).toNat - S' 0
    rw [h4]
    omega
/-- A register that is right: its length, taps and bits. -/
structure RegOk (L n : Nat) (T S : Nat → Int) : Prop where
  two : 2 ≤ L
  most : L ≤ 10
  some_ : 0 < n
  taps : ∀ i, i < n → 0 ≤ T i ∧ T i < (L : Int)
  rise : ∀ i, i + 1 < n → T i < T (i + 1)
  zero : T 0 = 0
  bits : ∀ j, j < L → IsBit (S j)
theorem RegOk.low {L n : Nat} {T S : Nat → Int} (h : RegOk L n T S) (i : Nat) (hi : i < n) : (T i).toNat < L := by have := h.taps i hi; omega
theorem RegOk.next {L n : Nat} {T S : Nat → Int} (h : RegOk L n T S) : RegOk L n T (nextS L n T S) := ⟨h.two, h.most, h.some_, h.taps, h.rise, h.zero, fun j _ => nextS_bit h.bits j⟩
theorem RegOk.it {L n : Nat} {T S : Nat → Int} (h : RegOk L n T S) : ∀ k, RegOk L n T (itS L n T S k)
  | 0 => h
  | k + 1 => (h.it k).next
theorem RegOk.count {L n : Nat} {T S : Nat → Int} (h : RegOk L n T S) : n ≤ L := by
  have h1 : ∀ i, i < n → (i : Int) ≤ T i := fun i => by
    induction i with
    | zero => intro _; rw [h.zero]; exact Int.le_refl _
    | succ i ih => intro hi; have h2 := ih (by omega); have h3 := h.rise i hi; omega
  have h2 := h.some_
  have h3 := h1 (n - 1) (by omega)
  have h4 := h.taps (n - 1) (by omega)
  omega
/-- A step can be undone. -/
theorem nextS_inj {L n : Nat} {T S S' : Nat → Int} (h : RegOk L n T S) (h' : ∀ j, j < L → IsBit (S' j)) (e : ∀ j, j < L → nextS L n T S j = nextS L n T S' j) (j : Nat) (hj : j < L) : S j = S' j := by
  have h1 : ∀ j, 0 < j → j < L → S j = S' j := fun j h0 hj => by
    have := e (j - 1) (by omega)
    unfold nextS at this
    rw [if_pos (by omega), if_pos (by omega), show j - 1 + 1 = j by omega] at this
    exact this
  rcases Nat.eq_zero_or_pos j with rfl | h0
  · have h2 := e (L - 1) (by omega)
    unfold nextS at h2
    rw [if_neg (by omega), if_neg (by omega)] at h2
    obtain ⟨m, hm⟩ : ∃ m, n = m + 1 := ⟨n - 1, by have := h.some_; omega⟩
    subst hm
    have h3 := regSum_first (S := S) (S' := S') h.zero (L := L) (n := m) (fun i hi => ⟨(h.taps i hi).1, h.low i hi⟩) (fun i hi => h.rise i (by omega)) h1
    have h4 := h.bits 0 hj
    have h5 := h' 0 hj
    unfold IsBit at h4 h5
    omega
  · exact h1 j h0 hj
theorem itS_inj {L n : Nat} {T S : Nat → Int} (h : RegOk L n T S) : ∀ {a b : Nat}, (∀ j, j < L → itS L n T S (a + b) j = itS L n T S a j) → ∀ j, j < L → itS L n T S b j = S j
  | 0, b, e => fun j hj => by have := e j hj; rw [Nat.zero_add] at this; exact this
  | a + 1, b, e => by
    refine itS_inj h (a := a) (b := b) (nextS_inj (h.it (a + b)) (itS_bit h.bits a) fun j hj => ?_)
    have := e j hj
    rw [show a + 1 + b = a + b + 1 by omega] at this
    exact this
theorem pigeon : ∀ (m : Nat) (f : Nat → Nat), (∀ i, i ≤ m → f i < m) → ∃ i j, i < j ∧ j ≤ m ∧ f i = f j
  | 0, f, h => absurd (h 0 (Nat.le_refl _)) (Nat.not_lt_zero _)
  | m + 1, f, h => by
    by_cases hx : ∃ i, i ≤ m ∧ f i = f (m + 1)
    · obtain ⟨i, hi, e⟩ := hx
      exact ⟨i, m + 1, by omega, Nat.le_refl _, e⟩
    · have hn : ∀ i, i ≤ m → f i ≠ f (m + 1) := fun i hi e => hx ⟨i, hi, e⟩
      obtain ⟨i, j, hij, hj, e⟩ := pigeon m (fun i => if f (m + 1) < f i then f i - 1 else f i) (fun i hi => by
        have h1 := h i (by omega)
        have h2 := h (m + 1) (Nat.le_refl _)
        have h3 := hn i hi
        show (if f (m + 1) < f i then f i - 1 else f i) < m
        split <;> omega)
      refine ⟨i, j, hij, by omega, ?_⟩
      have h1 := hn i (by omega)
      have h2 := hn j hj
      replace e : (if f (m + 1) < f i then f i - 1 else f i) = (if f (m + 1) < f j then f j - 1 else f j) := e
      split at e <;> split at e <;> omega
/-- The number that bits are. -/
def codN (S : Nat → Int) : Nat → Nat
  | 0 => 0
  | k + 1 => 2 * codN S k + (S k).toNat
theorem codN_lt {S : Nat → Int} : ∀ {k : Nat}, (∀ j, j < k → IsBit (S j)) → codN S k < 2 ^ k
  | 0, _ => Nat.zero_lt_one
  | k + 1, h => by
    have h1 := codN_lt (k := k) fun j hj => h j (by omega)
    have h2 := h k (Nat.lt_succ_self k)
    unfold IsBit at h2
    show 2 * codN S k + (S k).toNat < 2 ^ (k + 1)
    rw [Nat.pow_succ]
    omega
theorem codN_inj {S S' : Nat → Int} : ∀ {k : Nat}, (∀ j, j < k → IsBit (S j)) → (∀ j, j < k → IsBit (S' j)) → codN S k = codN S' k → ∀ j, j < k → S j = S' j
  | 0, _, _, _, j, hj => absurd hj (Nat.not_lt_zero j)
  | k + 1, h, h', e, j, hj => by
    have h1 := h k (Nat.lt_succ_self k)
    have h2 := h' k (Nat.lt_succ_self k)
    unfold IsBit at h1 h2
    replace e : 2 * codN S k + (S k).toNat = 2 * codN S' k + (S' k).toNat := e
    by_cases hjk : j = k
    · subst hjk; omega
    · exact codN_inj (k := k) (fun j hj => h j (by omega)) (fun j hj => h' j (by omega)) (by omega) j (by omega)
/-- Behind so many steps it is the same, and behind no fewer. -/
structure IsPer (L n : Nat) (T S : Nat → Int) (p : Nat) : Prop where
  pos : 1 ≤ p
  most : p ≤ 1024
  back : ∀ j, j < L → itS L n T S p j = S j
  first : ∀ q, 1 ≤ q → q < p → ∃ j, j < L ∧ itS L n T S q j ≠ S j
theorem least_of {P : Nat → Prop} : ∀ m, P m → 1 ≤ m → ∃ p, 1 ≤ p ∧ p ≤ m ∧ P p ∧ ∀ q, 1 ≤ q → q < p → ¬ P q := fun m => by
  induction m using Nat.strongRecOn with
  | ind m ih =>
    intro hm h1
    by_cases hx : ∃ q, 1 ≤ q ∧ q < m ∧ P q
    · obtain ⟨q, hq1, hqm, hq⟩ := hx
      obtain ⟨p, a, b, c, d⟩ := ih q hqm hq hq1
      exact ⟨p, a, by omega, c, d⟩
    · exact ⟨m, h1, Nat.le_refl _, hm, fun q hq1 hqm hq => hx ⟨q, hq1, hqm, hq⟩⟩
theorem per_ex {L n : Nat} {T S : Nat → Int} (h : RegOk L n T S) : ∃ p, IsPer L n T S p := by
  obtain ⟨i, j, hij, hj, e⟩ := pigeon (2 ^ L) (fun k => codN (itS L n T S k) L) (fun k _ => codN_lt (itS_bit h.bits k))
  have h1 := codN_inj (itS_bit h.bits i) (itS_bit h.bits j) e
  have h2 : ∀ q, q < L → itS L n T S (j - i) q = S q := itS_inj h (a := i) fun q hq => by rw [show i + (j - i) = j by omega]; exact (h1 q hq).symm
  obtain ⟨p, p1, p2, p3, p4⟩ := least_of (P := fun p => ∀ q, q < L → itS L n T S p q = S q) (j - i) h2 (by omega)
  have h3 : 2 ^ L ≤ 2 ^ 10 := Nat.pow_le_pow_right (by decide) h.most
  refine ⟨p, p1, by omega, p3, fun q hq1 hqp => ?_⟩
  have h4 := p4 q hq1 hqp
  by_cases hx : ∃ j, j < L ∧ itS L n T S q j ≠ S j
  · exact hx
  · exact absurd (fun j hj => Classical.byContradiction fun hn => hx ⟨j, hj, hn⟩) h4
theorem IsPer.one {L n : Nat} {T S : Nat → Int} {p q : Nat} (h : IsPer L n T S p) (k : IsPer L n T S q) : p = q := by
  rcases Nat.lt_trichotomy p q with e | e | e
  · obtain ⟨j, hj, hne⟩ := k.first p h.pos e; exact absurd (h.back j hj) hne
  · exact e
  · obtain ⟨j, hj, hne⟩ := h.first q k.pos e; exact absurd (k.back j hj) hne
end Go.Proofs.YtcdplfjegopmdaaGreat
/- Errors of bits, taps and registers of the code. -/
namespace Go.Proofs.YtcdplfjegopmdaaGreat
open Go.RowKit
def bitE (n : Nat) (F : Nat → Int) (most : Int) : Int := if n = 0 then 10 else if most < (n : Int) then 8 else unI (bitsB n F) 15
set_option maxHeartbeats 1000000 in
theorem bitsError_any (A : Option Addr) (n c : Nat) (F : Nat → Int) (most : Int) (w : World) (hn : n ≤ 100000) (hI : IntsAt w 0 A n F) :
    Calls Tryz.prog 58 #[.slice A n c, .int .i64 most] w fun e w' => e = .returned (.int .i64 (bitE n F most)) ∧ ∃ q, w' = w.drewN q := by
  have HX := hide (areBits_any A n c F w hn hI)
  have HE := hide (show bitE n F most = if n = 0 then 10 else if most < (n : Int) then 8 else unI (bitsB n F) 15 from rfl)
  obtain ⟨v, hv⟩ : ∃ z, bitE n F most = z := ⟨_, rfl⟩
  rw [hv]
  rw [hv] at HE
  clear hI hv
  by_cases h0 : n = 0
  · have e := HE.out.trans (if_pos h0)
    have t0 : (n : Int) = 0 := by omega
    subst e
    clear HX HE
    go_enter Tryz.func58, Tryz.ntmps58
    go_wp2_with fail
    go_ret
    exact ⟨rfl, 0, rfl⟩
  have h1 := HE.out.trans (if_neg h0)
  have t0 : ¬ (n : Int) = 0 := by omega
  by_cases h2 : most < (n : Int)
  · have e := h1.trans (if_pos h2)
    subst e
    clear HX HE h1
    go_enter Tryz.func58, Tryz.ntmps58
    go_wp2_with fail
    go_ret
    exact ⟨rfl, 0, rfl⟩
  have h3 := h1.trans (if_neg h2)
  have t1 : ¬ (n : Int) > most := by omega
  clear HE h1 h2 h0
  cases hb : bitsB n F
  · rw [hb] at h3 HX
    have e : v = 15 := h3
    subst e
    clear h3 hb
    go_enter Tryz.func58, Tryz.ntmps58
    go_wp2_with (go_at_call 93; refine HX.out.mono ?_; rintro e_ w' ⟨rfl, q, rfl⟩)
    go_ret
    exact ⟨rfl, q, rfl⟩
  · rw [hb] at h3 HX
    have e : v = 0 := h3
    subst e
    clear h3 hb
    go_enter Tryz.func58, Tryz.ntmps58
    go_wp2_with (go_at_call 93; refine HX.out.mono ?_; rintro e_ w' ⟨rfl, q, rfl⟩)
    go_ret
    exact ⟨rfl, q, rfl⟩
/-- The tap ahead of the tap k. -/
def prevT (T : Nat → Int) : Nat → Int
  | 0 => -1
  | k + 1 => T k
/-- The first error among the first k taps. -/
def tapF (L : Int) (T : Nat → Int) : Nat → Int
  | 0 => 0
  | k + 1 => if tapF L T k = 0 then (if withinB (T k) 0 (L - 1) = true then (if T k ≤ prevT T k then 9 else 0) else 2) else tapF L T k
def tapE (L : Int) (n : Nat) (T : Nat → Int) : Int := if n = 0 then 10 else if tapF L T n = 0 then (if T 0 = 0 then 0 else 3) else tapF L T n
theorem tapF_stays {L : Int} {T : Nat → Int} {k : Nat} (h : tapF L T k ≠ 0) : ∀ {n : Nat}, k ≤ n → tapF L T n = tapF L T k
  | 0, hk => by obtain rfl : k = 0 := by omega
                rfl
  | n + 1, hk => by
    by_cases e : k = n + 1
    · rw [e]
    · have ih := tapF_stays h (n := n) (by omega)
      show (if tapF L T n = 0 then _ else tapF L T n) = _
      rw [ih, if_neg h]
set_option maxHeartbeats 2000000 in
set_option maxRecDepth 100000 in
theorem tapsError_any (A : Option Addr) (n c : Nat) (T : Nat → Int) (L : Int) (w : World) (hL : -1000 ≤ L ∧ L ≤ 1000) (hn : n ≤ 100000) (hI : IntsAt w 0 A n T) :
    Calls Tryz.prog 92 #[.slice A n c, .int .i64 L] w fun e w' => e = .returned (.int .i64 (tapE L n T)) ∧ w = w' := by
  have HI := hide hI
  clear hI
  by_cases h0 : n = 0
  · have e : tapE L n T = 10 := if_pos h0
    rw [e]
    have t0 : (n : Int) = 0 := by omega
    clear HI e
    go_enter Tryz.func92, Tryz.ntmps92
    go_wp2_with fail
    go_ret
    exact ⟨rfl, rfl⟩
  have tb : ((n : Int) == 0) = false := by simpa using h0
  have hn0 : 0 < n := by omega
  have HE := hide (show tapE L n T = if tapF L T n = 0 then (if T 0 = 0 then 0 else 3) else tapF L T n from if_neg h0)
  obtain ⟨v, hv⟩ : ∃ z, tapE L n T = z := ⟨_, rfl⟩
  rw [hv]
  rw [hv] at HE
  have qL : IntKind.i64.wrap (L - 1) = L - 1 := IntWalk.i64_in _ (by omega)
  clear hv h0
  have HS := hide (fun k => (show tapF L T (k + 1) = if tapF L T k = 0 then (if withinB (T k) 0 (L - 1) = true then (if T k ≤ prevT T k then 9 else 0) else 2) else tapF L T k from rfl))
  have HV := hide (fun k e (hk : k < n) (h : tapF L T (k + 1) = e) (he : e ≠ 0) => (show v = e from by
    have h1 : tapF L T n = e := (tapF_stays (k := k + 1) (by rw [h]; exact he) hk).trans h
    have h2 := HE.out
    rw [h1, if_neg he] at h2
    exact h2))
  go_enter Tryz.func92, Tryz.ntmps92
  go_wp2_with fail
  go_loopw [5, 13] (fun b s wr => ∃ k : Nat, k ≤ n ∧ s = .int .i64 (k : Int) ∧ b = .int .i64 (prevT T k) ∧ Hid (tapF L T k = 0) ∧ w = wr) (fun _ s _ => n - (Go.RowKit.intOf s).toNat)
  case atStart => exact ⟨0, Nat.zero_le _, rfl, rfl, hide rfl, rfl⟩
  case round =>
    obtain ⟨k, hk, rfl, rfl, HF, rfl⟩ := hrel
    by_cases hlt : k < n
    case neg =>
      obtain rfl : n = k := by omega
      have hltz : ¬ (n : Int) < (n : Int) := by omega
      have h1 := HE.out.trans (if_pos HF.out)
      obtain ⟨bl, ol, hbe, -, -, c0⟩ := HI.out 0 hn0
      subst hbe
      rw [Nat.add_zero] at c0
      obtain ⟨x, hx⟩ : ∃ z, T 0 = z := ⟨_, rfl⟩
      rw [hx] at h1 c0
      clear HE HS HV HF HI hx
      by_cases hx0 : x = 0
      · have e : v = 0 := h1.trans (if_pos hx0)
        clear h1
        subst e hx0
        go_wp2_with fail
        go_ret
        exact ⟨rfl, rfl⟩
      · have e : v = 3 := h1.trans (if_neg hx0)
        clear h1
        subst e
        go_wp2_with fail
        go_ret
        exact ⟨rfl, rfl⟩
    have hltz : (k : Int) < (n : Int) := by omega
    obtain ⟨bl, ol, hbe, -, -, c0⟩ := HI.out k hlt
    subst hbe
    have h1 := (HS.out k).trans (if_pos HF.out)
    have HVk := hide (fun e => HV.out k e hlt)
    have HP := hide (show T k = prevT T (k + 1) from rfl)
    obtain ⟨p, hp⟩ : ∃ z, prevT T k = z := ⟨_, rfl⟩
    obtain ⟨x, hx⟩ : ∃ z, T k = z := ⟨_, rfl⟩
    rw [hx] at h1 c0 HP
    rw [hp] at h1
    rw [hp]
    have HWI := hide (fun W => isWithin_any x 0 (L - 1) W)
    clear HF hp hx
    by_cases hw : withinB x 0 (L - 1) = true
    case neg =>
      have e0 : withinB x 0 (L - 1) = false := by simpa using hw
      rw [if_neg hw] at h1
      have hv := HVk.out 2 h1 (by decide)
      subst hv
      rw [e0] at HWI
      clear HE HS HV HVk HP HI h1 hw e0
      go_wp2_with (go_at_call 63; refine (HWI.out _).mono ?_; rintro e_ w' ⟨rfl, rfl⟩)
      go_ret
      exact ⟨rfl, rfl⟩
    rw [if_pos hw] at h1
    rw [hw] at HWI
    by_cases hpx : x ≤ p
    case pos =>
      rw [if_pos hpx] at h1
      have hv := HVk.out 9 h1 (by decide)
      subst hv
      clear HE HS HV HVk HP HI h1 hw
      go_wp2_with (go_at_call 63; refine (HWI.out _).mono ?_; rintro e_ w' ⟨rfl, rfl⟩)
      go_ret
      exact ⟨rfl, rfl⟩
    rw [if_neg hpx] at h1
    have HF1 := hide h1
    clear HVk h1 hw HE HS HV HI
    go_wp2_with (go_at_call 63; refine (HWI.out _).mono ?_; rintro e_ w' ⟨rfl, rfl⟩)
    go_roundw
    case rel => exact ⟨k + 1, by omega, by go_num, by rw [HP.out], HF1, trivial⟩
    case measure => simp [Go.RowKit.intOf]; omega
theorem Box.r3 {w : World} {b : Nat} {t : TypeId} {p0 p1 p2 : Value} (h : Box w b t #[p0, p1, p2]) : w.cell? ⟨b, 0, none⟩ = some p0 ∧ w.cell? ⟨b, 1, none⟩ = some p1 ∧ w.cell? ⟨b, 2, none⟩ = some p2 ∧ w.frozen? ⟨b, 0, none⟩ = false ∧ w.frozen? ⟨b, 1, none⟩ = false ∧ w.frozen? ⟨b, 2, none⟩ = false ∧ b < w.heap.size :=
  ⟨h.at_ 0, h.at_ 1, h.at_ 2, h.free 0, h.free 1, h.free 2, h.lt⟩
end Go.Proofs.YtcdplfjegopmdaaGreat
/- A copy of a register of the code, and what a slice of a call's own holds behind a copy of itself, moved on by one. -/
namespace Go.Proofs.YtcdplfjegopmdaaGreat
open Go.RowKit Go.Lib
theorem ownS_weak {w : World} {base base' n : Nat} {v : Value} {F : Nat → Int} (h : OwnInts w base v n F) (hb : base' ≤ base) : OwnInts w base' v n F :=
  ⟨h.1, h.2.elim Or.inl (fun ⟨g, cap, cur, hv, hg, r⟩ => Or.inr ⟨g, cap, cur, hv, Nat.le_trans hb hg, r⟩)⟩
theorem ownS_other {w : World} {base n g c b o : Nat} {F : Nat → Int} (h : OwnInts w base (.slice (some ⟨g, 0, none⟩) n c) n F) (hb : g ≠ b) (u : Value) : OwnInts (w.setCell ⟨b, o, none⟩ u) base (.slice (some ⟨g, 0, none⟩) n c) n F :=
  ownsRow_setCell_other h (a := ⟨b, o, none⟩) (by intro e; injection e with e; exact hb e) u
theorem Box.r3put1 {w : World} {b : Nat} {t : TypeId} {p0 p1 p2 : Value} (h : Box w b t #[p0, p1, p2]) (u : Value) : Box (w.setCell ⟨b, 1, none⟩ u) b t #[p0, u, p2] := by
  have := h.set_ 1 u
  simpa using this
theorem Box.r3put2 {w : World} {b : Nat} {t : TypeId} {p0 p1 p2 : Value} (h : Box w b t #[p0, p1, p2]) (u : Value) : Box (w.setCell ⟨b, 2, none⟩ u) b t #[p0, p1, u] := by
  have := h.set_ 2 u
  simpa using this
theorem Box.r3putAll {w : World} {b : Nat} {t : TypeId} {p0 p1 p2 : Value} (h : Box w b t #[p0, p1, p2]) (u0 u1 u2 : Value) : Box (((w.setCell ⟨b, 0, none⟩ u0).setCell ⟨b, 1, none⟩ u1).setCell ⟨b, 2, none⟩ u2) b t #[u0, u1, u2] := by
  have := ((h.set_ 0 u0).set_ 1 u1).set_ 2 u2
  simpa using this
theorem ownInts_empty0 (w : World) (g : Nat) (hg : g = w.heap.size) (F : Nat → Int) : OwnInts (w.alloc (.cells #[] 3)) w.heap.size (.slice (some ⟨g, 0, none⟩) 0 0) 0 F := by
  subst hg
  exact World.ownsRow_made w #[] 0 (Nat.le_refl _) (by decide) rfl
set_option maxHeartbeats 1000000 in
set_option maxRecDepth 100000 in
theorem cloneS_any (b o n c : Nat) (F : Nat → Int) (w : World) (hn : n ≤ 100000) (hI : IntsAt w 0 (some ⟨b, o, none⟩) n F) :
    Calls Tryz.prog 118 #[.slice (some ⟨b, o, none⟩) n c] w fun r w' => ∃ v, r = .returned v ∧ OwnInts w' w.heap.size v n F ∧ Below w.heap.size w w' := by
  have HI := hide (hI.alloc (.cells #[] 3))
  have HE := hide (ownInts_empty0 w _ rfl F)
  clear hI
  have hnil := fun (W : World) (b o n c : Nat) => Lib.run_eql_slice_nil (P := Tryz.prog) W 24 3 (some ⟨b, o, none⟩) n c 0 0 Tryz.underlying24
  simp only [Option.isNone_some] at hnil
  go_enter Tryz.func118, Tryz.ntmps118
  go_wp2_with (at_builtin; refine wpList_append_ints _ rfl (.tmp 5) (.tmp 6) rfl w.heap.size 0 (.slice (some ⟨w.heap.size, 0, none⟩) 0 0) 0 F rfl HE.out (some ⟨b, o, none⟩) n c F rfl HI.out (by omega) (by simp) ?_; intro v' w' h1 hb2)
  go_ret
  refine ⟨_, rfl, ?_, ((Below.refl _ _).alloc (Nat.le_refl _) _).trans hb2⟩
  rw [Nat.zero_add] at h1
  exact h1.congr fun j hj => by unfold catF; rw [if_neg (Nat.not_lt_zero j), Nat.sub_zero]
set_option maxHeartbeats 4000000 in
set_option maxRecDepth 100000 in
theorem copyOf_any (L : Int) (b o n c b2 o2 m d : Nat) (T S : Nat → Int) (w : World) (hn0 : 0 < n) (hn : n ≤ 100000) (hm0 : 0 < m) (hm : m ≤ 100000) (hT : IntsAt w 0 (some ⟨b, o, none⟩) n T) (hS : IntsAt w 0 (some ⟨b2, o2, none⟩) m S) :
    Calls Tryz.prog 94 #[.agg #[.int .i64 L, .slice (some ⟨b, o, none⟩) n c, .slice (some ⟨b2, o2, none⟩) m d]] w fun e w' => ∃ gT cT gS cS, e = .returned (.agg #[.int .i64 L, .slice (some ⟨gT, 0, none⟩) n cT, .slice (some ⟨gS, 0, none⟩) m cS]) ∧ w.heap.size ≤ gT ∧ gT < gS ∧
      OwnInts w' w.heap.size (.slice (some ⟨gT, 0, none⟩) n cT) n T ∧ OwnInts w' w.heap.size (.slice (some ⟨gS, 0, none⟩) m cS) m S ∧ Below w.heap.size w w' := by
  have HI := hide hT
  have HJ := hide hS
  have HCT := hide (fun W (h : IntsAt W 0 (some ⟨b, o, none⟩) n T) => cloneS_any b o n c T W hn h)
  have HCS := hide (fun W (h : IntsAt W 0 (some ⟨b2, o2, none⟩) m S) => cloneS_any b2 o2 m d S W hm h)
  clear hT hS
  go_enter Tryz.func94, Tryz.ntmps94
  go_upto_region 1 with fail
  obtain ⟨W, hW⟩ : ∃ q : World, q = (w.alloc (.cells #[.int .i64 L, .slice (some ⟨b, o, none⟩) n c, .slice (some ⟨b2, o2, none⟩) m d] 30)).alloc (.cells #[.int .i64 0, .slice none 0 0, .slice none 0 0] 30) := ⟨_, rfl⟩
  try rw [← hW]
  have HX := hide (show Box W w.heap.size 30 #[.int .i64 L, .slice (some ⟨b, o, none⟩) n c, .slice (some ⟨b2, o2, none⟩) m d] by rw [hW]; exact (Box.made rfl).alloc _)
  have HY := hide (show Box W (w.heap.size + 1) 30 #[.int .i64 0, .slice none 0 0, .slice none 0 0] by rw [hW]; exact Box.made (by simp))
  have HB := hide (show Below w.heap.size w W by rw [hW]; (repeat (first | (with_reducible exact Below.refl _ _) | (with_reducible refine Go.below_drewN ?_ _) | (with_reducible refine Below.drew ?_) | (with_reducible refine Below.alloc ?_ (by first | exact Nat.le_refl _ | (simp; done) | (simp; omega) | omega) _) | (with_reducible refine Below.setCell ?_ (by first | exact Nat.le_refl _ | (simp; done) | (simp; omega) | omega) _))))
  clear hW
  obtain ⟨x0, x1, x2, f0, f1, f2, hlx⟩ := HX.out.r3
  go_wp2_with fail
  refine (HCT.out _ (HI.out.below HB.out)).mono ?_
  rintro e w1 ⟨v1, rfl, ho1, hb1⟩
  obtain ⟨gT, cT, rfl, hgT, hgT1⟩ := ho1.row hn0
  have HO1 := hide (ownS_weak ho1 (base' := w.heap.size) HB.out.size)
  have hg2 : w.heap.size + 1 < gT := Nat.lt_of_lt_of_le HY.out.lt hgT
  replace HX := hide (HX.out.below hb1)
  replace HY := hide (HY.out.below hb1)
  replace HB := hide (HB.out.trans (hb1.mono HB.out.size))
  clear hb1 ho1 hgT x0 x1 x2 f0 f1 f2 hlx
  obtain ⟨x0, x1, x2, f0, f1, f2, hlx⟩ := HX.out.r3
  have HX2 := hide (HX.out.r3put1 (.slice (some ⟨gT, 0, none⟩) n cT))
  have HY2 := hide (HY.out.other (p := ⟨w.heap.size, 1, none⟩) (by show w.heap.size + 1 ≠ w.heap.size; omega) (.slice (some ⟨gT, 0, none⟩) n cT))
  have HO2 := hide (ownS_other (b := w.heap.size) (o := 1) HO1.out (by omega) (.slice (some ⟨gT, 0, none⟩) n cT))
  have HB2 := hide (HB.out.setCell (p := ⟨w.heap.size, 1, none⟩) (Nat.le_refl _) (.slice (some ⟨gT, 0, none⟩) n cT))
  have hs1 : gT < w1.heap.size := hgT1
  clear HX HY HO1 HB
  go_upto_region 2 with fail
  obtain ⟨w2, hw2⟩ : ∃ q : World, q = w1.setCell ⟨w.heap.size, 1, none⟩ (.slice (some ⟨gT, 0, none⟩) n cT) := ⟨_, rfl⟩
  rw [← hw2] at HX2 HY2 HO2 HB2 ⊢
  have hs2 : gT < w2.heap.size := by rw [hw2]; simpa using hs1
  clear hw2 x0 x1 x2 f0 f1 f2 hlx hs1 hgT1
  obtain ⟨x0, x1, x2, f0, f1, f2, hlx⟩ := HX2.out.r3
  go_wp2_with fail
  refine (HCS.out _ (HJ.out.below HB2.out)).mono ?_
  rintro e w3 ⟨v3, rfl, ho3, hb3⟩
  obtain ⟨gS, cS, rfl, hgS, hgS1⟩ := ho3.row hm0
  have hTS : gT < gS := Nat.lt_of_lt_of_le hs2 hgS
  have HO3 := hide (ownS_weak ho3 (base' := w.heap.size) HB2.out.size)
  replace HX2 := hide (HX2.out.below hb3)
  replace HY2 := hide (HY2.out.below hb3)
  replace HO2 := hide (HO2.out.below hb3)
  replace HB2 := hide (HB2.out.trans (hb3.mono HB2.out.size))
  clear hb3 ho3 x0 x1 x2 f0 f1 f2 hlx hs2
  obtain ⟨x0, x1, x2, f0, f1, f2, hlx⟩ := HX2.out.r3
  have u := Value.slice (some ⟨gS, 0, none⟩) m cS
  have HX4 := hide (HX2.out.r3put2 (.slice (some ⟨gS, 0, none⟩) m cS))
  have HY4 := hide (HY2.out.other (p := ⟨w.heap.size, 2, none⟩) (by show w.heap.size + 1 ≠ w.heap.size; omega) (.slice (some ⟨gS, 0, none⟩) m cS))
  have HO4 := hide (ownS_other (b := w.heap.size) (o := 2) HO2.out (by omega) (.slice (some ⟨gS, 0, none⟩) m cS))
  have HO5 := hide (ownS_other (b := w.heap.size) (o := 2) HO3.out (by omega) (.slice (some ⟨gS, 0, none⟩) m cS))
  have HB4 := hide (HB2.out.setCell (p := ⟨w.heap.size, 2, none⟩) (Nat.le_refl _) (.slice (some ⟨gS, 0, none⟩) m cS))
  clear HX2 HY2 HO2 HO3 HB2 u
  go_upto_region 3 with fail
  obtain ⟨w4, hw4⟩ : ∃ q : World, q = w3.setCell ⟨w.heap.size, 2, none⟩ (.slice (some ⟨gS, 0, none⟩) m cS) := ⟨_, rfl⟩
  rw [← hw4] at HX4 HY4 HO4 HO5 HB4 ⊢
  clear hw4 x0 x1 x2 f0 f1 f2 hlx hgS1
  obtain ⟨x0, x1, x2, f0, f1, f2, hlx⟩ := HX4.out.r3
  obtain ⟨y0, y1, y2, k0, k1, k2, hly⟩ := HY4.out.r3
  have HY5 := hide (HY4.out.r3putAll (.int .i64 L) (.slice (some ⟨gT, 0, none⟩) n cT) (.slice (some ⟨gS, 0, none⟩) m cS))
  have HO6 := hide (ownS_other (b := w.heap.size + 1) (o := 2) (ownS_other (b := w.heap.size + 1) (o := 1) (ownS_other (b := w.heap.size + 1) (o := 0) HO4.out (by omega) (.int .i64 L)) (by omega) (.slice (some ⟨gT, 0, none⟩) n cT)) (by omega) (.slice (some ⟨gS, 0, none⟩) m cS))
  have HO7 := hide (ownS_other (b := w.heap.size + 1) (o := 2) (ownS_other (b := w.heap.size + 1) (o := 1) (ownS_other (b := w.heap.size + 1) (o := 0) HO5.out (by omega) (.int .i64 L)) (by omega) (.slice (some ⟨gT, 0, none⟩) n cT)) (by omega) (.slice (some ⟨gS, 0, none⟩) m cS))
  have HB5 := hide (((HB4.out.setCell (p := ⟨w.heap.size + 1, 0, none⟩) (Nat.le_succ _) (.int .i64 L)).setCell (p := ⟨w.heap.size + 1, 1, none⟩) (Nat.le_succ _) (.slice (some ⟨gT, 0, none⟩) n cT)).setCell (p := ⟨w.heap.size + 1, 2, none⟩) (Nat.le_succ _) (.slice (some ⟨gS, 0, none⟩) m cS))
  clear HX4 HY4 HO4 HO5 HB4
  go_wp2_with fail
  clear x0 x1 x2 y0 y1 y2
  obtain ⟨y0, y1, y2, -⟩ := HY5.out.r3
  refine bodyPost_ret (v := .agg #[.int .i64 L, .slice (some ⟨gT, 0, none⟩) n cT, .slice (some ⟨gS, 0, none⟩) m cS]) ?_ rfl ⟨gT, cT, gS, cS, rfl, by omega, hTS, HO6.out, HO7.out, HB5.out⟩
  simp [results, Tryz.results94, go_sem, y0, y1, y2]
end Go.Proofs.YtcdplfjegopmdaaGreat
/- A step of a register of the code. -/
namespace Go.Proofs.YtcdplfjegopmdaaGreat
open Go.RowKit Go.Lib
/-- The k numbers behind place i. -/
def shL (S : Nat → Int) (i : Nat) : Nat → List Int
  | 0 => []
  | k + 1 => S (i + 1) :: shL S (i + 1) k
theorem shL_len (S : Nat → Int) : ∀ (k i : Nat), (shL S i k).length = k
  | 0, _ => rfl
  | k + 1, i => by show (shL S (i + 1) k).length + 1 = k + 1; rw [shL_len S k (i + 1)]
theorem shL_get (S : Nat → Int) : ∀ (k i j : Nat), (shL S i k)[j]? = if j < k then some (S (i + j + 1)) else none
  | 0, _, _ => by simp [shL]
  | k + 1, i, 0 => by simp [shL]
  | k + 1, i, j + 1 => by
    show (shL S (i + 1) k)[j]? = _
    rw [shL_get S k (i + 1) j]
    by_cases h : j < k
    · rw [if_pos h, if_pos (by omega), show i + 1 + j + 1 = i + (j + 1) + 1 by omega]
    · rw [if_neg h, if_neg (by omega)]
def putL (F : Nat → Int) (i : Nat) : List Int → Nat → Int
  | [] => F
  | x :: r => putL (setF F i x) (i + 1) r
theorem putL_sh (S : Nat → Int) : ∀ (k i : Nat) (F : Nat → Int) (j : Nat), putL F i (shL S i k) j = if i ≤ j ∧ j < i + k then S (j + 1) else F j
  | 0, i, F, j => by rw [if_neg (by omega)]; rfl
  | k + 1, i, F, j => by
    show putL (setF F i (S (i + 1))) (i + 1) (shL S (i + 1) k) j = _
    rw [putL_sh S k (i + 1) _ j]
    by_cases e : j = i
    · subst e
      rw [if_neg (by omega), if_pos (by omega)]
      unfold setF
      rw [if_pos rfl]
    · by_cases h : i + 1 ≤ j ∧ j < i + 1 + k
      · rw [if_pos h, if_pos (by omega)]
      · rw [if_neg h, if_neg (by omega)]
        unfold setF
        rw [if_neg e]
theorem setCells_own {base n g c : Nat} : ∀ (xs : List Int) (i : Nat) (F : Nat → Int) (w : World), OwnInts w base (.slice (some ⟨g, 0, none⟩) n c) n F → OwnInts (w.setCells g i (xs.map (Value.int .i64))) base (.slice (some ⟨g, 0, none⟩) n c) n (putL F i xs)
  | [], _, _, _, h => h
  | x :: r, i, F, w, h => setCells_own r (i + 1) (setF F i x) _ (h.set_ i x)
theorem setCells_grown {g : Nat} : ∀ (vs : List Value) (i : Nat) (w W : World), w.grownBy W (some g) → w.grownBy (W.setCells g i vs) (some g)
  | [], _, _, _, h => h
  | v :: r, i, w, W, h => setCells_grown r (i + 1) w _ (h.trans ⟨rfl, rfl, rfl, by simp, fun j _ hj => heap_setCell_other W ⟨g, i, none⟩ j v (fun e => hj (by simp [e]))⟩)
theorem grown_below {w w1 w2 : World} {row : Option Nat} (h : w.grownBy w1 row) (hb : Below w1.heap.size w1 w2) : w.grownBy w2 row :=
  h.trans ⟨hb.os, hb.tape, hb.output, hb.size, fun j hj _ => hb.block j hj⟩
theorem setCells_box {b g : Nat} {t : TypeId} {cs : Array Value} (hn : b ≠ g) : ∀ (vs : List Value) (i : Nat) (w : World), Box w b t cs → Box (w.setCells g i vs) b t cs
  | [], _, _, h => h
  | v :: r, i, w, h => setCells_box hn r (i + 1) _ (h.other (p := ⟨g, i, none⟩) hn v)
theorem setCells_below {B g : Nat} (hg : B ≤ g) : ∀ (vs : List Value) (i : Nat) (w W : World), Below B w W → Below B w (W.setCells g i vs)
  | [], _, _, _, h => h
  | v :: r, i, w, W, h => setCells_below hg r (i + 1) w _ (h.setCell hg v)
theorem shL_next {n m : Nat} {T S : Nat → Int} (j : Nat) (hj : j < m + 1) : setF (putL S 0 (shL S 0 m)) m (regSum S T n % 2) j = nextS (m + 1) n T S j := by
  unfold setF nextS
  by_cases e : j = m
  · rw [if_pos e, if_neg (by omega)]
  · rw [if_neg e, if_pos (by omega), putL_sh, if_pos (by omega)]
set_option maxHeartbeats 8000000 in
set_option maxRecDepth 100000 in
theorem step_any (A : Option Addr) (g n c m cS B : Nat) (T S : Nat → Int) (w : World) (hok : RegOk (m + 1) n T S) (hT : IntsAt w 0 A n T) (hS : OwnInts w B (.slice (some ⟨g, 0, none⟩) (m + 1) cS) (m + 1) S) :
    Calls Tryz.prog 95 #[.agg #[.int .i64 ((m : Int) + 1), .slice A n c, .slice (some ⟨g, 0, none⟩) (m + 1) cS]] w fun e w' => e = .returned (.int .i64 (S 0)) ∧ OwnInts w' B (.slice (some ⟨g, 0, none⟩) (m + 1) cS) (m + 1) (nextS (m + 1) n T S) ∧ w.grownBy w' (some g) := by
  have hm9 := hok.most
  have hm2 := hok.two
  have hm1 : 1 ≤ m := by omega
  have hn10 : n ≤ m + 1 := hok.count
  have hcap := hS.cap_any
  have hcm : m + 1 ≤ cS := hcap.1
  have hc9 := hcap.2
  have HK := hide hok
  have HI := hide hT
  have HS := hide hS
  have hgw : g < w.heap.size := (hS.row (by omega)).elim fun g' h => h.elim fun c' h => by
    obtain ⟨e, -, h⟩ := h
    injection e with e1
    injection e1 with e1
    injection e1 with e1
    rw [e1]; exact h
  clear hcap hok hT hS
  have q1 : IntKind.i64.wrap ((m : Int) + 1 - 1) = (m : Int) := by rw [IntWalk.i64_in _ (by omega)]; omega
  go_enter Tryz.func95, Tryz.ntmps95
  go_upto_region 1 with fail
  obtain ⟨W, hW⟩ : ∃ q : World, q = w.alloc (.cells #[.int .i64 ((m : Int) + 1), .slice A n c, .slice (some ⟨g, 0, none⟩) (m + 1) cS] 30) := ⟨_, rfl⟩
  try rw [← hW]
  have HX := hide (show Box W w.heap.size 30 #[.int .i64 ((m : Int) + 1), .slice A n c, .slice (some ⟨g, 0, none⟩) (m + 1) cS] by rw [hW]; exact Box.made rfl)
  have HO := hide (show OwnInts W B (.slice (some ⟨g, 0, none⟩) (m + 1) cS) (m + 1) S by rw [hW]; exact HS.out.alloc _)
  have HT := hide (show IntsAt W 0 A n T by rw [hW]; exact HI.out.alloc _)
  have HG := hide (show w.grownBy W (some g) by rw [hW]; exact World.grownBy_alloc w _ _)
  clear hW HS HI
  obtain ⟨x0, x1, x2, f0, f1, f2, hlx⟩ := HX.out.r3
  have c0 := HO.out.cellAt (k := 0) (by omega)
  have hnz : ((0 : Int) < (m : Int) + 1) := by omega
  go_wp2_with fail
  clear x0 x1 x2 f0 f1 f2 hlx c0 hnz
  go_loopw [4, 14] (fun s i wr => ∃ k : Nat, k ≤ n ∧ i = .int .i64 (k : Int) ∧ s = .int .i64 (regSum S T k % 2) ∧ W = wr) (fun _ i _ => n - (Go.RowKit.intOf i).toNat)
  case atStart => exact ⟨0, Nat.zero_le _, rfl, rfl, rfl⟩
  case round =>
    obtain ⟨k, hk, rfl, rfl, rfl⟩ := hrel
    by_cases hlt : k < n
    case pos =>
      have hltz : (k : Int) < (n : Int) := by omega
      obtain ⟨bl, ol, hbe, -, -, c0⟩ := HT.out k hlt
      subst hbe
      obtain ⟨t, ht⟩ : ∃ t : Nat, T k = (t : Int) := ⟨(T k).toNat, by have := (HK.out.taps k hlt).1; omega⟩
      have htl : t < m + 1 := by have := HK.out.low k hlt; rw [ht] at this; simpa using this
      rw [ht] at c0
      have htz : (t : Int) < (m : Int) + 1 := by omega
      have c1 := HO.out.cellAt (k := t) htl
      obtain ⟨b, hb⟩ : ∃ z, S t = z := ⟨_, rfl⟩
      rw [hb] at c1
      have hbit : IsBit b := by rw [← hb]; exact HK.out.bits t htl
      have qx : bits .xor .i64 (regSum S T k % 2) b = regSum S T (k + 1) % 2 := by rw [xor1_bits (mod_bit _) hbit]; exact regSum_step hbit (by rw [ht]; exact hb)
      obtain ⟨s0, hs0⟩ : ∃ z, regSum S T k % 2 = z := ⟨_, rfl⟩
      obtain ⟨s1, hs1⟩ : ∃ z, regSum S T (k + 1) % 2 = z := ⟨_, rfl⟩
      rw [hs0, hs1] at qx
      rw [hs0]
      have HS1 := hide hs1
      clear ht hb hbit hs0 hs1 HG HK
      obtain ⟨x0, x1, x2, f0, f1, f2, hlx⟩ := HX.out.r3
      go_wp2_with fail
      go_roundw
      case rel => exact ⟨k + 1, by omega, by go_num, by rw [HS1.out], trivial⟩
      case measure => simp [Go.RowKit.intOf]; omega
    obtain rfl : n = k := by omega
    clear hlt hk
    obtain ⟨s0, hs0⟩ : ∃ z, regSum S T n % 2 = z := ⟨_, rfl⟩
    rw [hs0]
    have HS0 := hide hs0
    clear hs0 HK HT
    have hltz : ¬ (n : Int) < (n : Int) := by omega
    have hle1 : (1 : Int) ≤ (m : Int) + 1 := by omega
    have hcne : ¬ cS = 1 := by omega
    have hle2 : (m : Int) + 1 ≤ (cS : Int) := by omega
    obtain ⟨x0, x1, x2, f0, f1, f2, hlx⟩ := HX.out.r3
    go_upto_region 7 with fail
    clear x0 x1 x2 f0 f1 f2 hlx
    refine wp_region_held_drew (S := fun w' => w'.cell? ⟨w.heap.size, 2, none⟩ = some (.slice (some ⟨g, 0, none⟩) (m + 1) cS)) (by kernel_rfl) (show (W.drew).cell? ⟨w.heap.size, 2, none⟩ = _ from HX.out.r3.2.2.1) (fun hHeld => ?_)
    obtain ⟨w_1, hw_1⟩ : ∃ q : World, q = W.drew := ⟨_, rfl⟩
    rw [← hw_1] at hHeld ⊢
    have hc_1 : Below W.heap.size W w_1 := by rw [hw_1]; exact (Below.refl _ _).drew
    clear hw_1
    replace HG := hide (grown_below HG.out hc_1)
    replace HX := hide (HX.out.below hc_1)
    replace HO := hide (HO.out.below hc_1)
    clear hc_1
    refine wpAnyH_take (i := 0) (oi := ⟨some 26, _, _, _, _, _⟩) (v := ?_) rfl (by kernel_rfl) (by kernel_rfl) (by kernel_rfl) (fun _ _ _ h => h) (Or.inl ⟨by rfl, ?_⟩) (by assumption) ?_
    rotate_left
    · (intro w' hSw; (try dsimp only at hSw); go_simp <;> (with_reducible rfl))
    try simp only [Act.put, List.setIfInBounds_toArray, List.set_cons_zero, List.set_cons_succ]
    refine wpAnyH_take (i := 1) (oi := ⟨some 27, _, _, _, _, _⟩) (v := ?_) rfl (by kernel_rfl) (by kernel_rfl) (by kernel_rfl) (fun _ _ _ h => h) (Or.inl ⟨by rfl, ?_⟩) (by assumption) ?_
    rotate_left
    · (intro w' hSw; (try dsimp only at hSw); go_simp <;> (with_reducible rfl))
    try simp only [Act.put, List.setIfInBounds_toArray, List.set_cons_zero, List.set_cons_succ]
    refine wpAnyH_take (i := 2) (oi := ⟨some 28, _, _, _, _, _⟩) (v := ?_) rfl (by kernel_rfl) (by kernel_rfl) (by kernel_rfl) (fun _ _ _ h => h) (Or.inl ⟨by rfl, ?_⟩) (by assumption) ?_
    rotate_left
    · (intro w' hSw; (try dsimp only at hSw); go_simp <;> (with_reducible rfl))
    try simp only [Act.put, List.setIfInBounds_toArray, List.set_cons_zero, List.set_cons_succ]
    refine wpAnyH_take (i := 3) (oi := ⟨some 29, _, _, _, _, _⟩) (v := ?_) rfl (by kernel_rfl) (by kernel_rfl) (by kernel_rfl) (fun _ _ _ h => h) (Or.inl ⟨by rfl, ?_⟩) (by assumption) ?_
    rotate_left
    · (intro w' hSw; (try dsimp only at hSw); go_simp <;> (with_reducible rfl))
    try simp only [Act.put, List.setIfInBounds_toArray, List.set_cons_zero, List.set_cons_succ]
    refine wpAnyH_take (i := 4) (oi := ⟨some 30, _, _, _, _, _⟩) (v := ?_) rfl (by kernel_rfl) (by kernel_rfl) (by kernel_rfl) (fun _ _ _ h => h) (Or.inl ⟨by rfl, ?_⟩) (by assumption) ?_
    rotate_left
    · (intro w' hSw; (try dsimp only at hSw); go_simp <;> (with_reducible rfl))
    try simp only [Act.put, List.setIfInBounds_toArray, List.set_cons_zero, List.set_cons_succ]
    refine wpAnyH_ready (rs := [5]) (by kernel_rfl) (by simp) ?_
    refine AllReadyH.cons (o := ⟨some 31, _, _, _, _, _⟩) rfl (fun K' hK => ?_) AllReadyH.nil
    have hcp := run_copy_cells (P := Tryz.prog) w_1 24 24 3 3 g 0 (m + 1) cS ⟨g, 1, none⟩ m (cS - 1) ((shL S 0 m).map (Value.int .i64)) Tryz.underlying24 (by kernel_rfl) (by rw [List.length_map, shL_len]; exact (Nat.min_eq_left (Nat.le_succ m)).symm)
      (fun j v hv => by
        rw [List.getElem?_map, shL_get] at hv
        by_cases hj : j < m
        · rw [if_pos hj] at hv
          simp only [Option.map_some, Option.some.injEq] at hv
          subst hv
          have := HO.out.cellAt (k := j + 1) (by omega)
          rw [show 0 + j + 1 = j + 1 by omega]
          rw [show (⟨g, 1, none⟩ : Addr).add j = ⟨g, j + 1, none⟩ by simp [Addr.add, Nat.add_comm]]; exact this
        · rw [if_neg hj] at hv; cases hv)
      (fun j hj => by rw [List.length_map, shL_len] at hj; rw [Nat.zero_add, HO.out.cellAt (k := j) (by omega)]; rfl)
      (fun j _ => HO.out.frozen _)
      (fun v hv => by obtain ⟨x, -, rfl⟩ := List.mem_map.1 hv; rfl)
    go_simp
    clear hcp
    replace HO := hide (setCells_own (shL S 0 m) 0 S _ HO.out)
    replace HG := hide (setCells_grown ((shL S 0 m).map (Value.int .i64)) 0 _ _ HG.out)
    replace HX := hide (show Box (w_1.setCells g 0 ((shL S 0 m).map (Value.int .i64))) w.heap.size 30 #[.int .i64 ((m : Int) + 1), .slice A n c, .slice (some ⟨g, 0, none⟩) (m + 1) cS] from setCells_box (by omega) _ 0 _ HX.out)
    obtain ⟨w_2, hw_2⟩ : ∃ q : World, w_1.setCells g 0 ((shL S 0 m).map (Value.int .i64)) = q := ⟨_, rfl⟩
    rw [hw_2] at HO HG HX ⊢
    clear hw_2
    refine hK.out _ _ HX.out.r3.2.2.1 (fun hHeld => ?_)
    clear hK K'
    try simp only [Act.put, List.setIfInBounds_toArray, List.set_cons_zero, List.set_cons_succ]
    refine wpAnyH_done (by kernel_rfl) ?_ _
    clear hHeld
    obtain ⟨S2, hS2⟩ : ∃ z, putL S 0 (shL S 0 m) = z := ⟨_, rfl⟩
    rw [hS2] at HO
    have c0 := HO.out.cellAt (k := m) (by omega)
    have k0 := HO.out.frozen m
    have hmz : (m : Int) < (m : Int) + 1 := by omega
    obtain ⟨x0, x1, x2, f0, f1, f2, hlx⟩ := HX.out.r3
    have HO2 := hide (HO.out.set_ m s0)
    have HG2 := hide (setCells_grown [.int .i64 s0] m _ _ HG.out)
    clear HO HG
    go_wp2_with fail
    go_ret
    refine ⟨rfl, HO2.out.congr fun j hj => ?_, HG2.out⟩
    rw [← hS2, ← HS0.out]
    exact shL_next j hj
end Go.Proofs.YtcdplfjegopmdaaGreat
/- A register of a call's own that steps are done on; sequence of the code. -/
namespace Go.Proofs.YtcdplfjegopmdaaGreat
open Go.RowKit Go.Lib
theorem box_grown {w w' : World} {b : Nat} {t : TypeId} {cs : Array Value} {row : Nat} (h : Box w b t cs) (hg : w.grownBy w' (some row)) (hn : b ≠ row) : Box w' b t cs :=
  (hg.block b h.lt (fun e => hn (by injection e))).trans h
theorem ownS_grown {w w' : World} {base n g c row : Nat} {F : Nat → Int} (h : OwnInts w base (.slice (some ⟨g, 0, none⟩) n c) n F) (hg : w.grownBy w' (some row)) (hn : g ≠ row) : OwnInts w' base (.slice (some ⟨g, 0, none⟩) n c) n F :=
  World.ownsRow.kept h hg (.inr (by intro e; injection e with e; exact hn e))
theorem grown_to_below {w0 w w' : World} {B g : Nat} (h : Below B w0 w) (hg : w.grownBy w' (some g)) (hB : B ≤ g) (hs : B ≤ w.heap.size) : Below B w0 w' :=
  h.trans ⟨hg.os, hg.tape, hg.output, hg.size, fun k hk => hg.block k (by omega) (by intro e; injection e with e; omega)⟩
/-- A register of a call's own: its box, its taps and its state, each in a block of its own. -/
structure Behind (w : World) (B gb gT gS cT cS n m : Nat) (T S : Nat → Int) : Prop where
  box : Box w gb 30 #[.int .i64 ((m : Int) + 1), .slice (some ⟨gT, 0, none⟩) n cT, .slice (some ⟨gS, 0, none⟩) (m + 1) cS]
  taps : OwnInts w B (.slice (some ⟨gT, 0, none⟩) n cT) n T
  state : OwnInts w B (.slice (some ⟨gS, 0, none⟩) (m + 1) cS) (m + 1) S
  low : B ≤ gT
  ts : gT < gS
  sb : gS < gb
theorem Behind.below {w w' : World} {B gb gT gS cT cS n m : Nat} {T S : Nat → Int} (h : Behind w B gb gT gS cT cS n m T S) (hb : Below w.heap.size w w') : Behind w' B gb gT gS cT cS n m T S :=
  ⟨h.box.below hb, h.taps.below hb, h.state.below hb, h.low, h.ts, h.sb⟩
theorem Behind.step {w w' : World} {B gb gT gS cT cS n m : Nat} {T S S' : Nat → Int} (h : Behind w B gb gT gS cT cS n m T S) (hg : w.grownBy w' (some gS)) (ho : OwnInts w' B (.slice (some ⟨gS, 0, none⟩) (m + 1) cS) (m + 1) S') : Behind w' B gb gT gS cT cS n m T S' :=
  ⟨box_grown h.box hg (by have := h.sb; omega), ownS_grown h.taps hg (by have := h.ts; omega), ho, h.low, h.ts, h.sb⟩
theorem Behind.other {w : World} {B gb gT gS cT cS n m b o : Nat} {T S : Nat → Int} (h : Behind w B gb gT gS cT cS n m T S) (hb : gb < b) (u : Value) : Behind (w.setCell ⟨b, o, none⟩ u) B gb gT gS cT cS n m T S :=
  ⟨h.box.other (p := ⟨b, o, none⟩) (by show gb ≠ b; omega) u, ownS_other h.taps (by have := h.ts; have := h.sb; omega) u, ownS_other h.state (by have := h.sb; omega) u, h.low, h.ts, h.sb⟩
theorem Behind.next {w : World} {B gb gT gS cT cS n m k : Nat} {T S : Nat → Int} (hok : RegOk (m + 1) n T S) (h : Behind w B gb gT gS cT cS n m T (itS (m + 1) n T S k)) :
    Calls Tryz.prog 95 #[.agg #[.int .i64 ((m : Int) + 1), .slice (some ⟨gT, 0, none⟩) n cT, .slice (some ⟨gS, 0, none⟩) (m + 1) cS]] w fun e w' => e = .returned (.int .i64 (itS (m + 1) n T S k 0)) ∧ Behind w' B gb gT gS cT cS n m T (itS (m + 1) n T S (k + 1)) ∧ w.grownBy w' (some gS) :=
  (step_any (some ⟨gT, 0, none⟩) gS n cT m cS B T (itS (m + 1) n T S k) w (hok.it k) ((h.taps.form.elim fun A hA => hA.elim fun c hA => by
    obtain ⟨e, -, hI⟩ := hA
    injection e with e1
    subst e1
    exact hI.weak (Nat.zero_le _))) h.state).mono fun e w' ⟨h1, h2, h3⟩ => ⟨h1, h.step h3 h2, h3⟩
end Go.Proofs.YtcdplfjegopmdaaGreat
