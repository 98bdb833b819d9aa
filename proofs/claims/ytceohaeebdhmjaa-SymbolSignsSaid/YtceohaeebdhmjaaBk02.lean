/- Lemmas: S1, S2, Ej, Fg, Eh, Ga, Hc, Hm, He. -/
import Derived.Lib.AppendZeros
import Derived.Laws.OwnMore
import Derived.Test.YtceohaeebdhmjaaBk01
set_option linter.unusedVariables false
set_option linter.unusedSimpArgs false
/- Mathematics of registers (without a walk): a step, several steps, that a step can be undone, and the period. -/
namespace Go.Proofs.Ytceohaeebdhmjaa
/-- The sum of the bits at the first k taps. -/
def regSum (S T : Nat → Int) : Nat → Int
  | 0 => 0
  | k + 1 => regSum S T k + S (T k).toNat
/-- The state behind a step. -/
def nextS (L n : Nat) (T S : Nat → Int) (j : Nat) : Int := if j + 1 < L then S (j + 1) else regSum S T n % 2
/-- The state behind k steps. -/
def itS (L n : Nat) (T S : Nat → Int) : Nat → Nat → Int
  | 0 => S
  | k + 1 => nextS L n T (itS L n T S k)
theorem regSum_step {S T : Nat → Int} {k : Nat} {b : Int} (hb : IsBit b) (h : S (T k).toNat = b) : xor1 (regSum S T k % 2) b = regSum S T (k + 1) % 2 := by
  show (regSum S T k % 2 + b) % 2 = (regSum S T k + S (T k).toNat) % 2
  rw [h]
  omega
theorem mod_bit (s : Int) : IsBit (s % 2) := by unfold IsBit; omega
theorem nextS_bit {L n : Nat} {T S : Nat → Int} (hS : ∀ j, j < L → IsBit (S j)) (j : Nat) : IsBit (nextS L n T S j) := by
  unfold nextS
  split
  · exact hS _ (by assumption)
  · exact mod_bit _
theorem itS_bit {L n : Nat} {T S : Nat → Int} (hS : ∀ j, j < L → IsBit (S j)) : ∀ k j, j < L → IsBit (itS L n T S k j)
  | 0, j, hj => hS j hj
  | k + 1, j, _ => nextS_bit (itS_bit hS k) j
theorem regSum_congr {S S' T : Nat → Int} {L : Nat} : ∀ {n : Nat}, (∀ i, i < n → (T i).toNat < L) → (∀ j, j < L → S j = S' j) → regSum S T n = regSum S' T n
  | 0, _, _ => rfl
  | n + 1, hT, h => by
    show regSum S T n + S (T n).toNat = regSum S' T n + S' (T n).toNat
    rw [regSum_congr (fun i hi => hT i (by omega)) h, h _ (hT n (Nat.lt_succ_self n))]
theorem nextS_congr {L n : Nat} {T S S' : Nat → Int} (hT : ∀ i, i < n → (T i).toNat < L) (h : ∀ j, j < L → S j = S' j) (j : Nat) : nextS L n T S j = nextS L n T S' j := by
  unfold nextS
  split
  · exact h _ (by assumption)
  · rw [regSum_congr hT h]
theorem itS_congr {L n : Nat} {T S S' : Nat → Int} (hT : ∀ i, i < n → (T i).toNat < L) (h : ∀ j, j < L → S j = S' j) : ∀ k j, j < L → itS L n T S k j = itS L n T S' k j
  | 0, j, hj => h j hj
  | k + 1, j, _ => nextS_congr hT (itS_congr hT h k) j
theorem itS_add {L n : Nat} {T S : Nat → Int} (a : Nat) : ∀ b, itS L n T S (a + b) = itS L n T (itS L n T S a) b
  | 0 => rfl
  | b + 1 => by
    show nextS L n T (itS L n T S (a + b)) = nextS L n T (itS L n T (itS L n T S a) b)
    rw [itS_add a b]
/-- Taps that rise from 0 on: the first bit counts once. -/
theorem regSum_first {S S' T : Nat → Int} {L : Nat} (h0 : T 0 = 0) : ∀ {n : Nat}, (∀ i, i < n + 1 → 0 ≤ T i ∧ (T i).toNat < L) → (∀ i, i < n → T i < T (i + 1)) → (∀ j, 0 < j → j < L → S j = S' j) →
    regSum S T (n + 1) - S 0 = regSum S' T (n + 1) - S' 0
  | 0, _, _, _ => by
    show (0 : Int) + S (T 0).toNat - S 0 = 0 + S' (T 0).toNat - S' 0
    rw [h0]
    show (0 : Int) + S 0 - S 0 = 0 + S' 0 - S' 0
    omega
  | n + 1, hT, hr, h => by
    have ih := regSum_first h0 (n := n) (fun i hi => hT i (by omega)) (fun i hi => hr i (by omega)) h
    have h1 := hT (n + 1) (by omega)
    have h2 := hT n (by omega)
    have h3 := hr n (by omega)
    have h4 := h (T (n + 1)).toNat (by omega) h1.2
    show regSum S T (n + 1) + S (T (n + 1)).toNat - S 0 = regSum S' T (n + 1) + S' (T (n + 1)).toNat - S' 0
    rw [h4]
    omega
/-- A register that is right: its length, taps and bits. -/
structure RegOk (L n : Nat) (T S : Nat → Int) : Prop where
  two : 2 ≤ L
  most : L ≤ 10
  some_ : 0 < n
  taps : ∀ i, i < n → 0 ≤ T i ∧ T i < (L : Int)
  rise : ∀ i, i + 1 < n → T i < T (i + 1)
  zero : T 0 = 0
  bits : ∀ j, j < L → IsBit (S j)
theorem RegOk.low {L n : Nat} {T S : Nat → Int} (h : RegOk L n T S) (i : Nat) (hi : i < n) : (T i).toNat < L := by have := h.taps i hi; omega
theorem RegOk.next {L n : Nat} {T S : Nat → Int} (h : RegOk L n T S) : RegOk L n T (nextS L n T S) := ⟨h.two, h.most, h.some_, h.taps, h.rise, h.zero, fun j _ => nextS_bit h.bits j⟩
theorem RegOk.it {L n : Nat} {T S : Nat → Int} (h : RegOk L n T S) : ∀ k, RegOk L n T (itS L n T S k)
  | 0 => h
  | k + 1 => (h.it k).next
theorem RegOk.count {L n : Nat} {T S : Nat → Int} (h : RegOk L n T S) : n ≤ L := by
  have h1 : ∀ i, i < n → (i : Int) ≤ T i := fun i => by
    induction i with
    | zero => intro _; rw [h.zero]; exact Int.le_refl _
    | succ i ih => intro hi; have h2 := ih (by omega); have h3 := h.rise i hi; omega
  have h2 := h.some_
  have h3 := h1 (n - 1) (by omega)
  have h4 := h.taps (n - 1) (by omega)
  omega
/-- A step can be undone. -/
theorem nextS_inj {L n : Nat} {T S S' : Nat → Int} (h : RegOk L n T S) (h' : ∀ j, j < L → IsBit (S' j)) (e : ∀ j, j < L → nextS L n T S j = nextS L n T S' j) (j : Nat) (hj : j < L) : S j = S' j := by
  have h1 : ∀ j, 0 < j → j < L → S j = S' j := fun j h0 hj => by
    have := e (j - 1) (by omega)
    unfold nextS at this
    rw [if_pos (by omega), if_pos (by omega), show j - 1 + 1 = j by omega] at this
    exact this
  rcases Nat.eq_zero_or_pos j with rfl | h0
  · have h2 := e (L - 1) (by omega)
    unfold nextS at h2
    rw [if_neg (by omega), if_neg (by omega)] at h2
    obtain ⟨m, hm⟩ : ∃ m, n = m + 1 := ⟨n - 1, by have := h.some_; omega⟩
    subst hm
    have h3 := regSum_first (S := S) (S' := S') h.zero (L := L) (n := m) (fun i hi => ⟨(h.taps i hi).1, h.low i hi⟩) (fun i hi => h.rise i (by omega)) h1
    have h4 := h.bits 0 hj
    have h5 := h' 0 hj
    unfold IsBit at h4 h5
    omega
  · exact h1 j h0 hj
theorem itS_inj {L n : Nat} {T S : Nat → Int} (h : RegOk L n T S) : ∀ {a b : Nat}, (∀ j, j < L → itS L n T S (a + b) j = itS L n T S a j) → ∀ j, j < L → itS L n T S b j = S j
  | 0, b, e => fun j hj => by have := e j hj; rw [Nat.zero_add] at this; exact this
  | a + 1, b, e => by
    refine itS_inj h (a := a) (b := b) (nextS_inj (h.it (a + b)) (itS_bit h.bits a) fun j hj => ?_)
    have := e j hj
    rw [show a + 1 + b = a + b + 1 by omega] at this
    exact this
theorem pigeon : ∀ (m : Nat) (f : Nat → Nat), (∀ i, i ≤ m → f i < m) → ∃ i j, i < j ∧ j ≤ m ∧ f i = f j
  | 0, f, h => absurd (h 0 (Nat.le_refl _)) (Nat.not_lt_zero _)
  | m + 1, f, h => by
    by_cases hx : ∃ i, i ≤ m ∧ f i = f (m + 1)
    · obtain ⟨i, hi, e⟩ := hx
      exact ⟨i, m + 1, by omega, Nat.le_refl _, e⟩
    · have hn : ∀ i, i ≤ m → f i ≠ f (m + 1) := fun i hi e => hx ⟨i, hi, e⟩
      obtain ⟨i, j, hij, hj, e⟩ := pigeon m (fun i => if f (m + 1) < f i then f i - 1 else f i) (fun i hi => by
        have h1 := h i (by omega)
        have h2 := h (m + 1) (Nat.le_refl _)
        have h3 := hn i hi
        show (if f (m + 1) < f i then f i - 1 else f i) < m
        split <;> omega)
      refine ⟨i, j, hij, by omega, ?_⟩
      have h1 := hn i (by omega)
      have h2 := hn j hj
      replace e : (if f (m + 1) < f i then f i - 1 else f i) = (if f (m + 1) < f j then f j - 1 else f j) := e
      split at e <;> split at e <;> omega
/-- The number that bits are. -/
def codN (S : Nat → Int) : Nat → Nat
  | 0 => 0
  | k + 1 => 2 * codN S k + (S k).toNat
theorem codN_lt {S : Nat → Int} : ∀ {k : Nat}, (∀ j, j < k → IsBit (S j)) → codN S k < 2 ^ k
  | 0, _ => Nat.zero_lt_one
  | k + 1, h => by
    have h1 := codN_lt (k := k) fun j hj => h j (by omega)
    have h2 := h k (Nat.lt_succ_self k)
    unfold IsBit at h2
    show 2 * codN S k + (S k).toNat < 2 ^ (k + 1)
    rw [Nat.pow_succ]
    omega
theorem codN_inj {S S' : Nat → Int} : ∀ {k : Nat}, (∀ j, j < k → IsBit (S j)) → (∀ j, j < k → IsBit (S' j)) → codN S k = codN S' k → ∀ j, j < k → S j = S' j
  | 0, _, _, _, j, hj => absurd hj (Nat.not_lt_zero j)
  | k + 1, h, h', e, j, hj => by
    have h1 := h k (Nat.lt_succ_self k)
    have h2 := h' k (Nat.lt_succ_self k)
    unfold IsBit at h1 h2
    replace e : 2 * codN S k + (S k).toNat = 2 * codN S' k + (S' k).toNat := e
    by_cases hjk : j = k
    · subst hjk; omega
    · exact codN_inj (k := k) (fun j hj => h j (by omega)) (fun j hj => h' j (by omega)) (by omega) j (by omega)
/-- Behind so many steps it is the same, and behind no fewer. -/
structure IsPer (L n : Nat) (T S : Nat → Int) (p : Nat) : Prop where
  pos : 1 ≤ p
  most : p ≤ 1024
  back : ∀ j, j < L → itS L n T S p j = S j
  first : ∀ q, 1 ≤ q → q < p → ∃ j, j < L ∧ itS L n T S q j ≠ S j
theorem least_of {P : Nat → Prop} : ∀ m, P m → 1 ≤ m → ∃ p, 1 ≤ p ∧ p ≤ m ∧ P p ∧ ∀ q, 1 ≤ q → q < p → ¬ P q := fun m => by
  induction m using Nat.strongRecOn with
  | ind m ih =>
    intro hm h1
    by_cases hx : ∃ q, 1 ≤ q ∧ q < m ∧ P q
    · obtain ⟨q, hq1, hqm, hq⟩ := hx
      obtain ⟨p, a, b, c, d⟩ := ih q hqm hq hq1
      exact ⟨p, a, by omega, c, d⟩
    · exact ⟨m, h1, Nat.le_refl _, hm, fun q hq1 hqm hq => hx ⟨q, hq1, hqm, hq⟩⟩
theorem per_ex {L n : Nat} {T S : Nat → Int} (h : RegOk L n T S) : ∃ p, IsPer L n T S p := by
  obtain ⟨i, j, hij, hj, e⟩ := pigeon (2 ^ L) (fun k => codN (itS L n T S k) L) (fun k _ => codN_lt (itS_bit h.bits k))
  have h1 := codN_inj (itS_bit h.bits i) (itS_bit h.bits j) e
  have h2 : ∀ q, q < L → itS L n T S (j - i) q = S q := itS_inj h (a := i) fun q hq => by rw [show i + (j - i) = j by omega]; exact (h1 q hq).symm
  obtain ⟨p, p1, p2, p3, p4⟩ := least_of (P := fun p => ∀ q, q < L → itS L n T S p q = S q) (j - i) h2 (by omega)
  have h3 : 2 ^ L ≤ 2 ^ 10 := Nat.pow_le_pow_right (by decide) h.most
  refine ⟨p, p1, by omega, p3, fun q hq1 hqp => ?_⟩
  have h4 := p4 q hq1 hqp
  by_cases hx : ∃ j, j < L ∧ itS L n T S q j ≠ S j
  · exact hx
  · exact absurd (fun j hj => Classical.byContradiction fun hn => hx ⟨j, hj, hn⟩) h4
theorem IsPer.one {L n : Nat} {T S : Nat → Int} {p q : Nat} (h : IsPer L n T S p) (k : IsPer L n T S q) : p = q := by
  rcases Nat.lt_trichotomy p q with e | e | e
  · obtain ⟨j, hj, hne⟩ := k.first p h.pos e; exact absurd (h.back j hj) hne
  · exact e
  · obtain ⟨j, hj, hne⟩ := h.first q k.pos e; exact absurd (k.back j hj) hne
end Go.Proofs.Ytceohaeebdhmjaa
/- Errors of bits, taps and registers of the code. -/
namespace Go.Proofs.Ytceohaeebdhmjaa
open Go.RowKit
def bitE (n : Nat) (F : Nat → Int) (most : Int) : Int := if n = 0 then 10 else if most < (n : Int) then 8 else unI (bitsB n F) 15
set_option maxHeartbeats 1000000 in
theorem bitsError_any (A : Option Addr) (n c : Nat) (F : Nat → Int) (most : Int) (w : World) (hn : n ≤ 100000) (hI : IntsAt w 0 A n F) :
    Calls Try.prog 84 #[.slice A n c, .int .i64 most] w fun e w' => e = .returned (.int .i64 (bitE n F most)) ∧ ∃ q, w' = w.drewN q := by
  have HX := hide (areBits_any A n c F w hn hI)
  have HE := hide (show bitE n F most = if n = 0 then 10 else if most < (n : Int) then 8 else unI (bitsB n F) 15 from rfl)
  obtain ⟨v, hv⟩ : ∃ z, bitE n F most = z := ⟨_, rfl⟩
  rw [hv]
  rw [hv] at HE
  clear hI hv
  by_cases h0 : n = 0
  · have e := HE.out.trans (if_pos h0)
    have t0 : (n : Int) = 0 := by omega
    subst e
    clear HX HE
    go_enter Try.func84, Try.ntmps84
    go_wp2_with fail
    go_ret
    exact ⟨rfl, 0, rfl⟩
  have h1 := HE.out.trans (if_neg h0)
  have t0 : ¬ (n : Int) = 0 := by omega
  by_cases h2 : most < (n : Int)
  · have e := h1.trans (if_pos h2)
    subst e
    clear HX HE h1
    go_enter Try.func84, Try.ntmps84
    go_wp2_with fail
    go_ret
    exact ⟨rfl, 0, rfl⟩
  have h3 := h1.trans (if_neg h2)
  have t1 : ¬ (n : Int) > most := by omega
  clear HE h1 h2 h0
  cases hb : bitsB n F
  · rw [hb] at h3 HX
    have e : v = 15 := h3
    subst e
    clear h3 hb
    go_enter Try.func84, Try.ntmps84
    go_wp2_with (go_at_call 107; refine HX.out.mono ?_; rintro e_ w' ⟨rfl, q, rfl⟩)
    go_ret
    exact ⟨rfl, q, rfl⟩
  · rw [hb] at h3 HX
    have e : v = 0 := h3
    subst e
    clear h3 hb
    go_enter Try.func84, Try.ntmps84
    go_wp2_with (go_at_call 107; refine HX.out.mono ?_; rintro e_ w' ⟨rfl, q, rfl⟩)
    go_ret
    exact ⟨rfl, q, rfl⟩
/-- The tap ahead of the tap k. -/
def prevT (T : Nat → Int) : Nat → Int
  | 0 => -1
  | k + 1 => T k
/-- The first error among the first k taps. -/
def tapF (L : Int) (T : Nat → Int) : Nat → Int
  | 0 => 0
  | k + 1 => if tapF L T k = 0 then (if withinB (T k) 0 (L - 1) = true then (if T k ≤ prevT T k then 9 else 0) else 2) else tapF L T k
def tapE (L : Int) (n : Nat) (T : Nat → Int) : Int := if n = 0 then 10 else if tapF L T n = 0 then (if T 0 = 0 then 0 else 3) else tapF L T n
theorem tapF_stays {L : Int} {T : Nat → Int} {k : Nat} (h : tapF L T k ≠ 0) : ∀ {n : Nat}, k ≤ n → tapF L T n = tapF L T k
  | 0, hk => by obtain rfl : k = 0 := by omega
                rfl
  | n + 1, hk => by
    by_cases e : k = n + 1
    · rw [e]
    · have ih := tapF_stays h (n := n) (by omega)
      show (if tapF L T n = 0 then _ else tapF L T n) = _
      rw [ih, if_neg h]
set_option maxHeartbeats 2000000 in
set_option maxRecDepth 100000 in
theorem tapsError_any (A : Option Addr) (n c : Nat) (T : Nat → Int) (L : Int) (w : World) (hL : -1000 ≤ L ∧ L ≤ 1000) (hn : n ≤ 100000) (hI : IntsAt w 0 A n T) :
    Calls Try.prog 109 #[.slice A n c, .int .i64 L] w fun e w' => e = .returned (.int .i64 (tapE L n T)) ∧ w = w' := by
  have HI := hide hI
  clear hI
  by_cases h0 : n = 0
  · have e : tapE L n T = 10 := if_pos h0
    rw [e]
    have t0 : (n : Int) = 0 := by omega
    clear HI e
    go_enter Try.func109, Try.ntmps109
    go_wp2_with fail
    go_ret
    exact ⟨rfl, rfl⟩
  have tb : ((n : Int) == 0) = false := by simpa using h0
  have hn0 : 0 < n := by omega
  have HE := hide (show tapE L n T = if tapF L T n = 0 then (if T 0 = 0 then 0 else 3) else tapF L T n from if_neg h0)
  obtain ⟨v, hv⟩ : ∃ z, tapE L n T = z := ⟨_, rfl⟩
  rw [hv]
  rw [hv] at HE
  have qL : IntKind.i64.wrap (L - 1) = L - 1 := IntWalk.i64_in _ (by omega)
  clear hv h0
  have HS := hide (fun k => (show tapF L T (k + 1) = if tapF L T k = 0 then (if withinB (T k) 0 (L - 1) = true then (if T k ≤ prevT T k then 9 else 0) else 2) else tapF L T k from rfl))
  have HV := hide (fun k e (hk : k < n) (h : tapF L T (k + 1) = e) (he : e ≠ 0) => (show v = e from by
    have h1 : tapF L T n = e := (tapF_stays (k := k + 1) (by rw [h]; exact he) hk).trans h
    have h2 := HE.out
    rw [h1, if_neg he] at h2
    exact h2))
  go_enter Try.func109, Try.ntmps109
  go_wp2_with fail
  go_loopw [5, 13] (fun b s wr => ∃ k : Nat, k ≤ n ∧ s = .int .i64 (k : Int) ∧ b = .int .i64 (prevT T k) ∧ Hid (tapF L T k = 0) ∧ w = wr) (fun _ s _ => n - (Go.RowKit.intOf s).toNat)
  case atStart => exact ⟨0, Nat.zero_le _, rfl, rfl, hide rfl, rfl⟩
  case round =>
    obtain ⟨k, hk, rfl, rfl, HF, rfl⟩ := hrel
    by_cases hlt : k < n
    case neg =>
      obtain rfl : n = k := by omega
      have hltz : ¬ (n : Int) < (n : Int) := by omega
      have h1 := HE.out.trans (if_pos HF.out)
      obtain ⟨bl, ol, hbe, -, -, c0⟩ := HI.out 0 hn0
      subst hbe
      rw [Nat.add_zero] at c0
      obtain ⟨x, hx⟩ : ∃ z, T 0 = z := ⟨_, rfl⟩
      rw [hx] at h1 c0
      clear HE HS HV HF HI hx
      by_cases hx0 : x = 0
      · have e : v = 0 := h1.trans (if_pos hx0)
        clear h1
        subst e hx0
        go_wp2_with fail
        go_ret
        exact ⟨rfl, rfl⟩
      · have e : v = 3 := h1.trans (if_neg hx0)
        clear h1
        subst e
        go_wp2_with fail
        go_ret
        exact ⟨rfl, rfl⟩
    have hltz : (k : Int) < (n : Int) := by omega
    obtain ⟨bl, ol, hbe, -, -, c0⟩ := HI.out k hlt
    subst hbe
    have h1 := (HS.out k).trans (if_pos HF.out)
    have HVk := hide (fun e => HV.out k e hlt)
    have HP := hide (show T k = prevT T (k + 1) from rfl)
    obtain ⟨p, hp⟩ : ∃ z, prevT T k = z := ⟨_, rfl⟩
    obtain ⟨x, hx⟩ : ∃ z, T k = z := ⟨_, rfl⟩
    rw [hx] at h1 c0 HP
    rw [hp] at h1
    rw [hp]
    have HWI := hide (fun W => isWithin_any x 0 (L - 1) W)
    clear HF hp hx
    by_cases hw : withinB x 0 (L - 1) = true
    case neg =>
      have e0 : withinB x 0 (L - 1) = false := by simpa using hw
      rw [if_neg hw] at h1
      have hv := HVk.out 2 h1 (by decide)
      subst hv
      rw [e0] at HWI
      clear HE HS HV HVk HP HI h1 hw e0
      go_wp2_with (go_at_call 58; refine (HWI.out _).mono ?_; rintro e_ w' ⟨rfl, rfl⟩)
      go_ret
      exact ⟨rfl, rfl⟩
    rw [if_pos hw] at h1
    rw [hw] at HWI
    by_cases hpx : x ≤ p
    case pos =>
      rw [if_pos hpx] at h1
      have hv := HVk.out 9 h1 (by decide)
      subst hv
      clear HE HS HV HVk HP HI h1 hw
      go_wp2_with (go_at_call 58; refine (HWI.out _).mono ?_; rintro e_ w' ⟨rfl, rfl⟩)
      go_ret
      exact ⟨rfl, rfl⟩
    rw [if_neg hpx] at h1
    have HF1 := hide h1
    clear HVk h1 hw HE HS HV HI
    go_wp2_with (go_at_call 58; refine (HWI.out _).mono ?_; rintro e_ w' ⟨rfl, rfl⟩)
    go_roundw
    case rel => exact ⟨k + 1, by omega, by go_num, by rw [HP.out], HF1, trivial⟩
    case measure => simp [Go.RowKit.intOf]; omega
theorem Box.r3 {w : World} {b : Nat} {t : TypeId} {p0 p1 p2 : Value} (h : Box w b t #[p0, p1, p2]) : w.cell? ⟨b, 0, none⟩ = some p0 ∧ w.cell? ⟨b, 1, none⟩ = some p1 ∧ w.cell? ⟨b, 2, none⟩ = some p2 ∧ w.frozen? ⟨b, 0, none⟩ = false ∧ w.frozen? ⟨b, 1, none⟩ = false ∧ w.frozen? ⟨b, 2, none⟩ = false ∧ b < w.heap.size :=
  ⟨h.at_ 0, h.at_ 1, h.at_ 2, h.free 0, h.free 1, h.free 2, h.lt⟩
end Go.Proofs.Ytceohaeebdhmjaa
/- exploring: Grow, Concat, CopyInts -/
namespace Go.Proofs.Ytceohaeebdhmjaa
open Go.RowKit Go.Lib
set_option maxHeartbeats 1000000 in
theorem copyInts_any (A : Option Addr) (n c : Nat) (F : Nat → Int) (w : World) (hn : n ≤ 100000000) (hI : IntsAt w 0 A n F) :
    Calls Try.prog 48 #[.slice A n c] w fun e w' => ∃ v, e = .returned v ∧ GaveInts w n F v w' := by
  go_enter Try.func48, Try.ntmps48
  go_wp2_with (at_builtin; refine wpList_append_ints _ rfl (.tmp 3) (.tmp 4) rfl w.heap.size 0 (.slice (some ⟨w.heap.size, 0, none⟩) 0 0) 0 F rfl (World.ownsRow_made w #[] 0 (Nat.le_refl _) (by unfold maxLen; omega) rfl) A n c F rfl (hI.alloc _) (by omega) (by simp) ?_; intro v' w' h1 hb1)
  go_ret
  have hB : Below w.heap.size w w' := ((Below.refl _ _).alloc (Nat.le_refl _) _).trans hb1
  rw [Nat.zero_add] at h1
  exact ⟨_, rfl, (h1.congr fun j _ => by simp [catF]).gave hB⟩
theorem wpList_grow_ints {ops : Array Oper} {rest : List Oper} {o : Oper} {a : Act} {Q : Exit → Act → World → Prop} (w : World) (hgd : o.guard = none) (s x : Operand)
    (ho : o.op = .call { callee := .builtin .append, args := #[s, x], argTypes := #[59, 3] })
    (n : Nat) (h0 : 0 < n) (hn : n ≤ 1000000000) (hs : a.eval s = .slice none 0 0) (hx : a.eval x = .int .i64 (n : Int))
    (h : ∀ cap w', n ≤ cap → cap ≤ maxLen → OwnInts w' w.heap.size (.slice (some ⟨w.heap.size, 0, none⟩) 0 cap) 0 (fun _ => 0) → Below w.heap.size w w' →
      wpList Try.prog ops Q rest (a.put o.dst (.slice (some ⟨w.heap.size, 0, none⟩) n cap)) w') : wpList Try.prog ops Q (o :: rest) a w := by
  obtain ⟨i0, hi, hz0, hz1, hz2⟩ := info_parts intInfo
  have hrun := fun ty => run_append_nil_zeros (P := Try.prog) w 59 3 ty 3 i0 (.int .i64 0) .i64 .i64 Try.underlying59 Try.underlying3 hi hz0 n h0 (by omega) (by omega) (by rw [hz2]; omega)
  refine wpList_plain hgd fun K hK => ?_
  unfold Oper.wp execOp
  simp only [ho, resolve, invoke, builtin, Sem.run_bind, Sem.run_pure, Result.andThen_ok, List.map_toArray, List.map_cons, List.map_nil, hs, hx, hrun]
  have hge := grownCap_ge w n 0 3
  have hle := grownCap_le_maxLen w n 0 3 (by unfold maxLen; omega)
  refine hK _ _ (h _ _ hge hle ?_ ?_)
  · exact World.ownsRow_made w.drew _ (grownCap w n 0 3) (Nat.le_refl _) hle (by
      rw [Array.size_append, size_zeroCells, size_zeroCells]
      show n * 1 + (grownCap w n 0 3 - n) * 1 = _
      omega)
  · exact (Below.refl _ _).drew.alloc (Nat.le_refl _) _

end Go.Proofs.Ytceohaeebdhmjaa
/- base.AreBits -/
namespace Go.Proofs.Ytceohaeebdhmjaa
open Go.RowKit
set_option maxHeartbeats 1000000 in
theorem areBitsB_any (A : Option Addr) (n c : Nat) (F : Nat → Int) (w : World) (hn : n ≤ 100000) (hI : IntsAt w 0 A n F) :
    Calls Try.prog 82 #[.slice A n c] w fun e w' => e = .returned (.bool (bitsB n F)) ∧ ∃ q, w' = w.drewN q := by
  have HI := hide hI
  clear hI
  go_enter Try.func82, Try.ntmps82
  go_wp2_with fail
  go_loopw [3] (fun i wr => ∃ k q : Nat, k ≤ n ∧ i = .int .i64 k ∧ wr = w.drewN q ∧ Hid (∀ j, j < k → IsBit (F j))) (fun i _ => n - (Go.RowKit.intOf i).toNat)
  case atStart => exact ⟨0, 0, Nat.zero_le _, rfl, rfl, hide fun j h => absurd h (Nat.not_lt_zero _)⟩
  case round =>
    obtain ⟨k, q, hk, rfl, rfl, HZ⟩ := hrel
    by_cases hlt : k < n
    · have hltz : (k : Int) < (n : Int) := by omega
      obtain ⟨b, o, rfl, -, hb, hcell⟩ := HI.out k hlt
      by_cases h0 : F k = 0
      · have t1 : (F k != 0) = false := by simpa using h0
        have HB := hide (show IsBit (F k) from .inl h0)
        clear h0
        go_wp2_with fail
        go_roundw
        case rel => exact ⟨k + 1, q, by omega, by go_num, rfl, hide fun j hj => (by
          rcases Nat.lt_or_ge j k with h | h
          · exact HZ.out j h
          · obtain rfl : j = k := by omega
            exact HB.out)⟩
        case measure => simp [Go.RowKit.intOf]; omega
      · have t1 : (F k != 0) = true := by simpa using h0
        by_cases h1 : F k = 1
        · have t2 : (F k != 1) = false := by simpa using h1
          have HB := hide (show IsBit (F k) from .inr h1)
          clear h0 h1
          go_wp2_with fail
          go_roundw
          case rel => exact ⟨k + 1, q, by omega, by go_num, rfl, hide fun j hj => (by
            rcases Nat.lt_or_ge j k with h | h
            · exact HZ.out j h
            · obtain rfl : j = k := by omega
              exact HB.out)⟩
          case measure => simp [Go.RowKit.intOf]; omega
        · have t2 : (F k != 1) = true := by simpa using h1
          have HB := hide (show bitsB n F = false from by
            rw [← Bool.not_eq_true, bitsB_iff]
            intro h
            have := h k hlt
            unfold IsBit at this
            omega)
          clear h0 h1
          go_wp2_with fail
          go_ret
          exact ⟨ret_bool HB.out.symm, q, rfl⟩
    · obtain rfl : k = n := by omega
      go_wp2_with fail
      go_ret
      exact ⟨ret_bool (bitsB_iff.2 HZ.out).symm, q, rfl⟩
end Go.Proofs.Ytceohaeebdhmjaa
/- exploring: CheckPolar -/
namespace Go.Proofs.Ytceohaeebdhmjaa
open Go.RowKit
/-- A right polar code: n positions F, ascending, below 2 to the power p. -/
structure PolarOk (p n : Nat) (F : Nat → Int) : Prop where
  power : p ≤ 6
  some_ : 0 < n
  range : ∀ k, k < n → 0 ≤ F k ∧ F k ≤ 2 ^ p - 1
  order : ∀ k, k + 1 < n → F k < F (k + 1)
def beforeI (F : Nat → Int) : Nat → Int
  | 0 => -1
  | k + 1 => F k
end Go.Proofs.Ytceohaeebdhmjaa
/- Mod, power, small, kindErr, BitsErr, Length, CopyPolar of the reference and the law. -/
namespace Go.Proofs.Ytceohaeebdhmjaa
open Go.RowKit

set_option maxHeartbeats 400000 in
theorem mod_any (n m : Int) (w : World) (h0 : 0 < m) (h1 : m ≤ 1000000000) :
    Calls Try.prog 49 #[.int .i64 n, .int .i64 m] w fun e w' => e = .returned (.int .i64 (n % m)) ∧ w = w' := by
  have hm0 : ¬ m = 0 := by omega
  by_cases hn : 0 ≤ n
  · have hb := Int.emod_nonneg n (show m ≠ 0 by omega)
    have hb2 := Int.emod_lt_of_pos n h0
    go_enter Try.func49, Try.ntmps49
    go_wp2_with fail
    go_ret
    exact ⟨rfl, rfl⟩
  · have hneg : n < 0 := by omega
    obtain ⟨r, hr⟩ : ∃ r, r = n.tmod m := ⟨_, rfl⟩
    have hr' := hr.symm
    have hle : -m < r ∧ r ≤ 0 := by
      rw [hr]
      have e := Int.neg_tmod (-n) m
      rw [Int.neg_neg] at e
      rw [e]
      have h2 : (-n).tmod m = (-n) % m := Int.tmod_eq_emod_of_nonneg (by omega)
      rw [h2]
      have := Int.emod_nonneg (-n) (show m ≠ 0 by omega)
      have := Int.emod_lt_of_pos (-n) h0
      omega
    have hdm : n % m = if r < 0 then r + m else r := by
      have h3 := Int.mul_tdiv_add_tmod n m
      rw [← hr] at h3
      split
      · have : n = (r + m) + m * (n.tdiv m - 1) := by rw [Int.mul_sub]; omega
        rw [this, Int.add_mul_emod_self_left]
        exact Int.emod_eq_of_lt (by omega) (by omega)
      · have h0r : r = 0 := by omega
        have : n = 0 + m * n.tdiv m := by omega
        rw [this, Int.add_mul_emod_self_left, h0r]
        rfl
    have HD := hide hdm
    obtain ⟨l1, l2⟩ := hle
    have hnn : ¬ 0 ≤ n := hn
    clear hdm hr hn
    by_cases hrz : r < 0
    · go_enter Try.func49, Try.ntmps49
      go_wp2_with fail
      go_ret
      exact ⟨ret_int (by rw [HD.out, if_pos hrz]), rfl⟩
    · have hr0 : 0 ≤ r := by omega
      have HRZ := hide hrz
      clear hrz
      go_enter Try.func49, Try.ntmps49
      go_wp2_with fail
      go_ret
      exact ⟨ret_int (by rw [HD.out, if_neg (Int.not_lt.2 HRZ.out)]), rfl⟩

def bitsErrR (n : Nat) (F : Nat → Int) : Int := if n = 0 then 10 else if 200 < n then 8 else if bitsB n F = true then 0 else 15
theorem bitsErrR_zero {n : Nat} {F : Nat → Int} (h : bitsErrR n F = 0) : 0 < n ∧ n ≤ 200 ∧ ∀ k, k < n → IsBit (F k) := by
  unfold bitsErrR at h
  by_cases h1 : n = 0
  · rw [if_pos h1] at h; exact absurd h (by decide)
  · rw [if_neg h1] at h
    by_cases h2 : 200 < n
    · rw [if_pos h2] at h; exact absurd h (by decide)
    · rw [if_neg h2] at h
      by_cases h3 : bitsB n F = true
      · exact ⟨by omega, by omega, bitsB_iff.1 h3⟩
      · rw [if_neg h3] at h; exact absurd h (by decide)

end Go.Proofs.Ytceohaeebdhmjaa
/- BitsOf. -/
namespace Go.Proofs.Ytceohaeebdhmjaa
open Go.RowKit
/-- The bits of a number, the greatest power first. -/
def bitsOfF (t n : Nat) (j : Nat) : Int := ((t / 2 ^ (n - 1 - j) % 2 : Nat) : Int)
set_option maxHeartbeats 1000000 in
theorem bitsOf_any (t n : Nat) (w : World) (ht : t ≤ 1000000000) (hn : n ≤ 100) :
    Calls Try.prog 104 #[.int .i64 (t : Int), .int .i64 (n : Int)] w fun e w' => ∃ v, e = .returned v ∧ GaveInts w n (bitsOfF t n) v w' := by
  obtain ⟨i0, hi, hz0, hz1, hz2⟩ := info_parts intInfo
  have hmk := fun W => run_make_row (P := Try.prog) 59 3 i0 (.int .i64 0) Try.underlying59 hi hz0 hz1 rfl .i64 .i64 n (by rw [hz2]; omega) (by omega) W
  clear hi hz0 hz1 hz2
  go_enter Try.func104, Try.ntmps104
  go_wp2_with fail
  clear hmk
  go_loopw [0, 6] (fun x i wr => ∃ k : Nat, k ≤ n ∧ i = .int .i64 ((n : Int) - 1 - k) ∧ x = .int .i64 ((t / 2 ^ k : Nat) : Int) ∧ wr.rowIs w.heap.size 3 n (fun j => .int .i64 (if n ≤ j + k then bitsOfF t n j else 0)) ∧ Below w.heap.size w wr) (fun _ i _ => (Go.RowKit.intOf i + 1).toNat)
  case atStart => exact ⟨0, Nat.zero_le _, by simp, by simp, (World.rowIs_made w (.int .i64 0) n 3).congr (fun j hj => by rw [if_neg (by omega)]), by (repeat (first | (with_reducible exact Below.refl _ _) | (with_reducible refine Go.below_drewN ?_ _) | (with_reducible refine Below.drew ?_) | (with_reducible refine Below.alloc ?_ (by first | exact Nat.le_refl _ | (simp; done) | (simp; omega) | omega) _) | (with_reducible refine Below.setCell ?_ (by first | exact Nat.le_refl _ | (simp; done) | (simp; omega) | omega) _)))⟩
  case round =>
    obtain ⟨k, hk, rfl, rfl, hR, hB⟩ := hrel
    have hle : t / 2 ^ k ≤ t := Nat.div_le_self _ _
    have HS := hide (show t / 2 ^ (k + 1) = t / 2 ^ k / 2 from by rw [Nat.pow_succ, Nat.div_div_eq_div_mul])
    by_cases hlt : k < n
    · obtain ⟨x, hx⟩ : ∃ x : Nat, x = n - 1 - k := ⟨_, rfl⟩
      have hxi : (n : Int) - 1 - k = (x : Int) := by omega
      have hxn : x < n := by omega
      rw [hxi]
      have hc := hR.cell hxn
      have hf := hR.frozen x
      have HX := hide hx
      have HV := hide (show bitsOfF t n x = ((t / 2 ^ k % 2 : Nat) : Int) from by unfold bitsOfF; rw [show n - 1 - x = k by omega])
      have hk' : (n : Int) - 1 - (k + 1 : Nat) = (x : Int) - 1 := by omega
      have HK := hide hk'
      clear hx hxi hk'
      generalize t / 2 ^ k = y at *
      go_wp2_with fail
      refine ⟨⟨k + 1, by omega, by rw [HK.out], by rw [HS.out]; simp, (hR.set x _).congr (fun j hj => ?_), hB.setCell (by simp) _⟩, by simp [Go.RowKit.intOf]⟩
      by_cases e : j = x
      · subst e
        rw [if_pos rfl, if_pos (by have := HX.out; omega), HV.out]
        simp
      · rw [if_neg e]
        by_cases e2 : n ≤ j + k
        · rw [if_pos e2, if_pos (by omega)]
        · rw [if_neg e2, if_neg (by have := HX.out; omega)]
    · obtain rfl : k = n := by omega
      rw [show (k : Int) - 1 - k = -1 by omega]
      go_wp2_with fail
      go_ret
      exact ⟨_, rfl, GaveInts.of_row (hR.congr (fun j _ => by rw [if_pos (by omega)])) (Nat.le_refl _) hB⟩
end Go.Proofs.Ytceohaeebdhmjaa
/- A burst is caught: mathematics of remainders. -/
namespace Go.Proofs.Ytceohaeebdhmjaa
/-- The bit that a step of the division carries out. -/
def carryB (d s b : Nat) : Bool := decide ((s >>> (d - 1)) ^^^ b = 1)
theorem carry_bit {d s b : Nat} (h0 : 1 ≤ d) (hs : s < 2 ^ d) (hb : b ≤ 1) : carryB d s b = (s.testBit (d - 1) ^^ decide (b = 1)) := by
  have h1 : s >>> (d - 1) ≤ 1 := by
    rw [Nat.shiftRight_eq_div_pow]
    have : 2 ^ d = 2 ^ (d - 1) * 2 := by rw [← Nat.pow_succ]; congr 1; omega
    have := Nat.div_lt_of_lt_mul (show s < 2 ^ (d - 1) * 2 by omega)
    omega
  have h2 : s.testBit (d - 1) = decide (s >>> (d - 1) = 1) := by
    rw [Nat.testBit, Nat.one_and_eq_mod_two]
    generalize s >>> (d - 1) = x at *
    have : x = 0 ∨ x = 1 := by omega
    rcases this with rfl | rfl <;> rfl
  rw [h2]
  unfold carryB
  generalize s >>> (d - 1) = x at *
  have hx : x = 0 ∨ x = 1 := by omega
  have hy : b = 0 ∨ b = 1 := by omega
  rcases hx with rfl | rfl <;> rcases hy with rfl | rfl <;> rfl
theorem step_bit {d t s b : Nat} (ht : t < 2 ^ d) {i : Nat} (hi : i < d) : (remStep d t s b).testBit i = ((decide (0 < i) && s.testBit (i - 1)) ^^ (carryB d s b && t.testBit i)) := by
  have e : (2 * s % 2 ^ d).testBit i = (decide (0 < i) && s.testBit (i - 1)) := by
    rw [Nat.testBit_mod_two_pow, decide_eq_true hi, Bool.true_and]
    cases i with
    | zero => simp [Nat.testBit_zero]
    | succ j => rw [Nat.testBit_succ, Nat.mul_div_cancel_left _ (by decide)]; simp
  unfold remStep carryB
  by_cases h : (s >>> (d - 1)) ^^^ b = 1
  · rw [if_pos h, decide_eq_true h, Nat.testBit_xor, e, Bool.true_and]
  · rw [if_neg h, decide_eq_false h, e, Bool.false_and, Bool.xor_false]
theorem bxor_cancel : ∀ {a b c : Bool}, (a ^^ c) = (b ^^ c) → a = b := by decide
theorem bxor_cancel' : ∀ {a b c : Bool}, (c ^^ a) = (c ^^ b) → a = b := by decide
/-- Two registers differ at a bit of at most this number. -/
def Far (k s s' : Nat) : Prop := ∃ i, i ≤ k ∧ s.testBit i ≠ s'.testBit i
theorem step_far {d t s s' b b' k : Nat} (h0 : 1 ≤ d) (ht : t < 2 ^ d) (todd : t % 2 = 1) (h : Far k s s') (hk : k + 1 < d) : Far (k + 1) (remStep d t s b) (remStep d t s' b') := by
  obtain ⟨i, hi, hne⟩ := h
  have t0 : t.testBit 0 = true := by rw [Nat.testBit_zero]; simp [todd]
  by_cases hc : carryB d s b = carryB d s' b'
  · refine ⟨i + 1, by omega, ?_⟩
    rw [step_bit ht (by omega), step_bit ht (by omega), hc]
    intro h
    have h := bxor_cancel h
    rw [decide_eq_true (Nat.succ_pos i), Bool.true_and, Bool.true_and] at h
    exact hne h
  · refine ⟨0, by omega, ?_⟩
    rw [step_bit ht (by omega), step_bit ht (by omega), t0]
    intro h
    have h := bxor_cancel' h
    rw [Bool.and_true, Bool.and_true] at h
    exact hc h
/-- A further bit that differs. -/
theorem step_new {d t s b b' : Nat} (h0 : 1 ≤ d) (ht : t < 2 ^ d) (todd : t % 2 = 1) (hs : s < 2 ^ d) (hb : b ≤ 1) (hb' : b' ≤ 1) (hne : b ≠ b') : Far 0 (remStep d t s b) (remStep d t s b') := by
  have t0 : t.testBit 0 = true := by rw [Nat.testBit_zero]; simp [todd]
  refine ⟨0, by omega, ?_⟩
  rw [step_bit ht (by omega), step_bit ht (by omega), t0, carry_bit h0 hs hb, carry_bit h0 hs hb']
  have hx : b = 0 ∨ b = 1 := by omega
  have hy : b' = 0 ∨ b' = 1 := by omega
  rcases hx with rfl | rfl <;> rcases hy with rfl | rfl <;> simp at hne ⊢
/-- The same bit behind different registers: they stay different. -/
theorem step_ne {d t s s' b : Nat} (h0 : 1 ≤ d) (ht : t < 2 ^ d) (todd : t % 2 = 1) (hs : s < 2 ^ d) (hs' : s' < 2 ^ d) (hb : b ≤ 1) (hne : s ≠ s') : remStep d t s b ≠ remStep d t s' b := by
  have t0 : t.testBit 0 = true := by rw [Nat.testBit_zero]; simp [todd]
  intro h
  apply hne
  have hc : carryB d s b = carryB d s' b := by
    have this : (remStep d t s b).testBit 0 = (remStep d t s' b).testBit 0 := by rw [h]
    rw [step_bit ht (by omega), step_bit ht (by omega), t0] at this
    simpa using this
  refine Nat.eq_of_testBit_eq fun i => ?_
  by_cases hi : i < d
  · by_cases hl : i = d - 1
    · have h1 := carry_bit h0 hs hb
      have h2 := carry_bit h0 hs' hb
      rw [hc, h2] at h1
      subst hl
      exact (bxor_cancel h1).symm
    · have this : (remStep d t s b).testBit (i + 1) = (remStep d t s' b).testBit (i + 1) := by rw [h]
      rw [step_bit ht (by omega), step_bit ht (by omega), hc] at this
      have h := bxor_cancel this
      rw [decide_eq_true (Nat.succ_pos i), Bool.true_and, Bool.true_and] at h
      exact h
  · have hle : 2 ^ d ≤ 2 ^ i := Nat.pow_le_pow_right (by decide) (by omega)
    rw [Nat.testBit_lt_two_pow (Nat.lt_of_lt_of_le hs hle), Nat.testBit_lt_two_pow (Nat.lt_of_lt_of_le hs' hle)]
theorem IsBit.nat {x : Int} (h : IsBit x) : x.toNat ≤ 1 := by have := h.le; omega
/-- Behind a burst of at most d bits the registers differ. -/
theorem burst_far {d t : Nat} {F G : Nat → Int} (h0 : 1 ≤ d) (ht : t < 2 ^ d) (todd : t % 2 = 1) (hF : ∀ k, IsBit (F k)) (hG : ∀ k, IsBit (G k)) {a m : Nat} (hs : remF d t F m = remF d t G m) (ham : a ≤ m) (hma : m < a + d) (hne : F m ≠ G m) :
    ∀ k, m + 1 + k ≤ a + d → Far k (remF d t F (m + 1 + k)) (remF d t G (m + 1 + k))
  | 0, _ => by
    show Far 0 (remStep d t (remF d t F m) (F m).toNat) (remStep d t (remF d t G m) (G m).toNat)
    rw [← hs]
    refine step_new h0 ht todd (remF_lt F ht m) (hF m).nat (hG m).nat fun e => hne ?_
    have := (hF m).le
    have := (hG m).le
    omega
  | k + 1, hk => step_far h0 ht todd (burst_far h0 ht todd hF hG hs ham hma hne k (by omega)) (by omega)
theorem remF_congr {d t : Nat} {F G : Nat → Int} : ∀ {n}, (∀ k, k < n → F k = G k) → remF d t F n = remF d t G n
  | 0, _ => rfl
  | n + 1, h => by
    show remStep d t (remF d t F n) (F n).toNat = remStep d t (remF d t G n) (G n).toNat
    rw [remF_congr fun k hk => h k (by omega), h n (by omega)]
/-- The word of n bits and their check ends with a register of 0. -/
theorem right_zero {d t n : Nat} {F : Nat → Int} (h0 : 1 ≤ d) (ht : t < 2 ^ d) (hr : ∀ j, j < d → F (n + j) = remB d t n F j) :
    ∀ j, j ≤ d → ∀ i, i < d → (remF d t F (n + j)).testBit i = (decide (j ≤ i) && (remF d t F n).testBit (i - j))
  | 0, _, i, hi => by simp
  | j + 1, hj, i, hi => by
    have ih := right_zero h0 ht hr j (by omega)
    have hb : (F (n + j)).toNat = remF d t F n >>> (d - 1 - j) &&& 1 := by rw [hr j (by omega)]; unfold remB; omega
    have hb1 : (F (n + j)).toNat ≤ 1 := by rw [hb, Nat.and_one_is_mod]; omega
    have hc : carryB d (remF d t F (n + j)) (F (n + j)).toNat = false := by
      rw [carry_bit h0 (remF_lt F ht _) hb1, ih (d - 1) (by omega), decide_eq_true (show j ≤ d - 1 by omega), Bool.true_and, hb, Nat.testBit, Nat.one_and_eq_mod_two, Nat.and_one_is_mod]
      generalize remF d t F n >>> (d - 1 - j) = x
      have : x % 2 = 0 ∨ x % 2 = 1 := by omega
      rcases this with h | h <;> rw [h] <;> rfl
    show (remStep d t (remF d t F (n + j)) (F (n + j)).toNat).testBit i = _
    rw [step_bit ht hi, hc, Bool.false_and, Bool.xor_false]
    by_cases h : 0 < i
    · rw [ih (i - 1) (by omega), decide_eq_true h, Bool.true_and]
      by_cases h2 : j + 1 ≤ i
      · rw [decide_eq_true h2, decide_eq_true (show j ≤ i - 1 by omega), show i - 1 - j = i - (j + 1) by omega]
      · rw [decide_eq_false h2, decide_eq_false (show ¬ j ≤ i - 1 by omega), Bool.false_and, Bool.false_and]
    · rw [decide_eq_false h, decide_eq_false (show ¬ j + 1 ≤ i by omega), Bool.false_and, Bool.false_and]
theorem right_end {d t n : Nat} {F : Nat → Int} (h0 : 1 ≤ d) (ht : t < 2 ^ d) (hr : ∀ j, j < d → F (n + j) = remB d t n F j) : remF d t F (n + d) = 0 := by
  refine Nat.eq_of_testBit_eq fun i => ?_
  rw [Nat.zero_testBit]
  by_cases hi : i < d
  · rw [right_zero h0 ht hr d (Nat.le_refl _) i hi, decide_eq_false (by omega), Bool.false_and]
  · exact Nat.testBit_lt_two_pow (Nat.lt_of_lt_of_le (remF_lt F ht _) (Nat.pow_le_pow_right (by decide) (by omega)))
/-- A BURST IS CAUGHT. -/
theorem burst_caught {d t n a : Nat} {F G : Nat → Int} (h0 : 1 ≤ d) (ht : t < 2 ^ d) (todd : t % 2 = 1) (hF : ∀ k, IsBit (F k)) (hG : ∀ k, IsBit (G k)) (ha : a ≤ n) (hlo : ∀ k, k < a → F k = G k) (hhi : ∀ k, a + d ≤ k → k < n + d → F k = G k)
    (hne : ∃ k, a ≤ k ∧ k < a + d ∧ F k ≠ G k) (hr : ∀ j, j < d → F (n + j) = remB d t n F j) : ¬ ∀ j, j < d → G (n + j) = remB d t n G j := by
  intro hr'
  have e1 := right_end h0 ht hr
  have e2 := right_end h0 ht hr'
  -- the first place that differs
  have hmin : ∃ m, a ≤ m ∧ m < a + d ∧ F m ≠ G m ∧ ∀ k, k < m → F k = G k := by
    obtain ⟨k, hk⟩ := hne
    induction k using Nat.strongRecOn with
    | ind k ih =>
      by_cases h : ∀ j, j < k → F j = G j
      · exact ⟨k, hk.1, hk.2.1, hk.2.2, h⟩
      · obtain ⟨j, h⟩ := Classical.not_forall.1 h
        obtain ⟨hj, h⟩ := Classical.not_imp.1 h
        exact ih j hj ⟨Nat.le_of_not_lt fun hh => h (hlo j hh), by omega, h⟩
  obtain ⟨m, h1, h2, h3, h4⟩ := hmin
  have hf := burst_far h0 ht todd hF hG (remF_congr h4) h1 h2 h3 (a + d - (m + 1)) (by omega)
  rw [show m + 1 + (a + d - (m + 1)) = a + d by omega] at hf
  have hlast : ∀ k, a + d + k ≤ n + d → remF d t F (a + d + k) ≠ remF d t G (a + d + k) := by
    intro k
    induction k with
    | zero => intro _ e; obtain ⟨i, -, hi⟩ := hf; exact hi (by rw [show a + d + 0 = a + d from rfl] at e; rw [e])
    | succ k ih =>
      intro hk
      have e := hhi (a + d + k) (by omega) (by omega)
      show remStep d t (remF d t F (a + d + k)) (F (a + d + k)).toNat ≠ remStep d t (remF d t G (a + d + k)) (G (a + d + k)).toNat
      rw [← e]
      exact step_ne h0 ht todd (remF_lt F ht _) (remF_lt G ht _) (hF _).nat (ih (by omega))
  have := hlast (n - a) (by omega)
  rw [show a + d + (n - a) = n + d by omega] at this
  exact this (e1.trans e2.symm)
end Go.Proofs.Ytceohaeebdhmjaa
/- A copy that is the law's own: cells read, stored; a pattern that is not 0 has a 1. -/
namespace Go.Proofs.Ytceohaeebdhmjaa
open Go.RowKit Go.Lib
theorem OwnInts.cap_any {w : World} {base n c : Nat} {A : Option Addr} {F : Nat → Int} (h : OwnInts w base (.slice A n c) n F) : n ≤ c ∧ c ≤ 9223372036854775807 := by
  have hm9 : maxLen ≤ 9223372036854775807 := by decide
  rcases h.2 with ⟨h1, h2⟩ | ⟨g, cap, cur, h1, -, -, hn, hm, -⟩
  · injection h1 with _ _ h3
    omega
  · injection h1 with _ _ h3
    omega
theorem OwnInts.row {w : World} {base n : Nat} {v : Value} {F : Nat → Int} (h : OwnInts w base v n F) (hn : 0 < n) : ∃ g cap, v = .slice (some ⟨g, 0, none⟩) n cap ∧ base ≤ g ∧ g < w.heap.size := by
  rcases h.2 with ⟨h1, h2⟩ | ⟨g, cap, cur, h1, hb, hg, -⟩
  · omega
  · exact ⟨g, cap, h1, hb, by
      rcases Nat.lt_or_ge g w.heap.size with h' | h'
      · exact h'
      · rw [Array.getElem?_eq_none h'] at hg; cases hg⟩
theorem OwnInts.cellAt {w : World} {base n g c : Nat} {F : Nat → Int} (h : OwnInts w base (.slice (some ⟨g, 0, none⟩) n c) n F) {k : Nat} (hk : k < n) : w.cell? ⟨g, k, none⟩ = some (.int .i64 (F k)) := by
  rw [World.ownsRow.cellAt h k (by omega), intCells_get, if_pos hk]
theorem OwnInts.frozen {w : World} {base n g c : Nat} {F : Nat → Int} (h : OwnInts w base (.slice (some ⟨g, 0, none⟩) n c) n F) (k : Nat) : w.frozen? ⟨g, k, none⟩ = false := World.ownsRow.frozenAt h k
def setF (F : Nat → Int) (k : Nat) (x : Int) (j : Nat) : Int := if j = k then x else F j
theorem OwnInts.set_ {w : World} {base n g c : Nat} {F : Nat → Int} (h : OwnInts w base (.slice (some ⟨g, 0, none⟩) n c) n F) (k : Nat) (x : Int) : OwnInts (w.setCell ⟨g, k, none⟩ (.int .i64 x)) base (.slice (some ⟨g, 0, none⟩) n c) n (setF F k x) := by
  have h1 := (World.ownsRow.stored h k (.int .i64 x)).1
  have e : (intCells n F).set k (.int .i64 x) = intCells n (setF F k x) := by
    apply List.ext_getElem?
    intro j
    rw [List.getElem?_set, intCells_get, intCells_get, intCells_len]
    unfold setF
    by_cases e : k = j
    · subst e
      by_cases hk : k < n
      · rw [if_pos rfl, if_pos hk, if_pos hk, if_pos rfl]
      · rw [if_pos rfl, if_neg hk, if_neg hk]
    · rw [if_neg e, if_neg (show ¬ j = k from fun h => e h.symm)]
  rw [e] at h1
  exact h1
set_option maxHeartbeats 1000000 in
theorem copyInts_own (A : Option Addr) (n c : Nat) (F : Nat → Int) (w : World) (hn : n ≤ 100000000) (hI : IntsAt w 0 A n F) :
    Calls Try.prog 48 #[.slice A n c] w fun e w' => ∃ v, e = .returned v ∧ OwnInts w' w.heap.size v n F ∧ Below w.heap.size w w' := by
  go_enter Try.func48, Try.ntmps48
  go_wp2_with (at_builtin; refine wpList_append_ints _ rfl (.tmp 3) (.tmp 4) rfl w.heap.size 0 (.slice (some ⟨w.heap.size, 0, none⟩) 0 0) 0 F rfl (World.ownsRow_made w #[] 0 (Nat.le_refl _) (by unfold maxLen; omega) rfl) A n c F rfl (hI.alloc _) (by omega) (by simp) ?_; intro v' w' h1 hb1)
  go_ret
  have hB : Below w.heap.size w w' := ((Below.refl _ _).alloc (Nat.le_refl _) _).trans hb1
  rw [Nat.zero_add] at h1
  exact ⟨_, rfl, h1.congr fun j _ => by simp [catF], hB⟩
theorem bitsOfF_bit (x d j : Nat) : IsBit (bitsOfF x d j) := by
  unfold bitsOfF IsBit
  omega
theorem pat_some {x d : Nat} (h0 : 0 < x) (h1 : x < 2 ^ d) : ∃ j, j < d ∧ bitsOfF x d j = 1 := by
  refine Classical.byContradiction fun hno => ?_
  have hz : x = 0 := by
    refine Nat.eq_of_testBit_eq fun i => ?_
    rw [Nat.zero_testBit]
    by_cases hi : i < d
    · rw [Nat.testBit_eq_decide_div_mod_eq, decide_eq_false]
      intro h
      refine hno ⟨d - 1 - i, by omega, ?_⟩
      unfold bitsOfF
      rw [show d - 1 - (d - 1 - i) = i by omega, h]
      rfl
    · exact Nat.testBit_lt_two_pow (Nat.lt_of_lt_of_le h1 (Nat.pow_le_pow_right (by decide) (by omega)))
  omega
end Go.Proofs.Ytceohaeebdhmjaa
