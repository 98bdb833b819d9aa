/- Lemmas: H1. -/
import Derived.Laws.MakeOwn
import Derived.Test.YtlhbkjgddpelgaaBk09
set_option linter.unusedVariables false
set_option linter.unusedSimpArgs false
/- The first half with the greatest correlation: bestOf of the code. -/
namespace Go.Proofs.Ytlhbkjgddpelgaa
open Go.RowKit Go.Great
/-- The greatest of the numbers K 0 and those below n, and the first place that has it. -/
def bsC (K : Nat → Int) : Nat → Int
  | 0 => K 0
  | i + 1 => if bsC K i < K i then K i else bsC K i
def bsN (K : Nat → Int) : Nat → Nat
  | 0 => 0
  | i + 1 => if bsC K i < K i then i else bsN K i
theorem bsC_le {K : Nat → Int} {M : Int} (h : ∀ i, -M ≤ K i ∧ K i ≤ M) : ∀ n, -M ≤ bsC K n ∧ bsC K n ≤ M
  | 0 => h 0
  | n + 1 => by
    show -M ≤ (if _ then _ else _) ∧ (if _ then _ else _) ≤ M
    split
    · exact h n
    · exact bsC_le h n
theorem bsN_lt {K : Nat → Int} : ∀ n, bsN K n ≤ n
  | 0 => Nat.le_refl _
  | n + 1 => by
    show (if _ then _ else _) ≤ n + 1
    have := bsN_lt (K := K) n
    split <;> omega
theorem bsN_below {K : Nat → Int} : ∀ n, 0 < n → bsN K n < n
  | 0, h => absurd h (Nat.lt_irrefl 0)
  | n + 1, _ => by
    show (if _ then _ else _) < n + 1
    have := bsN_lt (K := K) n
    split <;> omega
set_option maxHeartbeats 2000000 in
set_option maxRecDepth 100000 in
theorem bestOf_any (A B : Option Addr) (n c d : Nat) (F : Nat → Nat → Int) (G : Nat → Int) (w : World) (h0 : 0 < n) (hn : n ≤ 1000) (hL : ListsAt w 0 A n (fun _ => 31) F) (hJ : IntsAt w 0 B 31 G) (hG : ∀ j, j < 31 → -100000 ≤ G j ∧ G j ≤ 100000) (hF : ∀ i, i < n → ∀ j, j < 31 → IsSign (F i j)) :
    Calls Try.prog 53 #[.slice A n c, .slice B 31 d] w fun e w' => e = .returned (.tuple #[.int .i64 (bsN (fun i => corS (F i) G 31) n : Int), .int .i64 (bsC (fun i => corS (F i) G 31) n)]) ∧ w = w' := by
  have HC := hide (fun i (hi : i < n) Ai ci (h : IntsAt w 0 Ai 31 (F i)) => correlation_any Ai B 31 ci 31 d (F i) G w (by decide) (by decide) h hJ (fun j hj => ⟨hF i hi j hj, hG j hj⟩))
  obtain ⟨K, hK⟩ : ∃ z : Nat → Int, (fun i => corS (F i) G 31) = z := ⟨_, rfl⟩
  have hKn := fun i => congrFun hK i
  try simp only at hKn
  simp only [hKn] at HC
  rw [hK]
  have HL := hide hL
  clear hK hKn hJ hG hF hL
  obtain ⟨b, o, A0, c0, hA, -, -, x0, -, -, y0⟩ := HL.out 0 h0
  have HC0 := hide (HC.out 0 h0 A0 c0 y0)
  obtain ⟨s0, hs0⟩ : ∃ z, K 0 = z := ⟨_, rfl⟩
  have HS0 := hide (show bsC K 0 = s0 from hs0)
  rw [hs0] at HC0
  have h0z : (0 : Int) < (n : Int) := by omega
  subst hA
  simp only [Nat.add_zero] at x0
  clear hs0 y0
  go_enter Try.func53, Try.ntmps53
  go_wp2_with fail
  refine HC0.out.mono ?_
  rintro e w1 ⟨rfl, rfl⟩
  go_wp2_with fail
  clear x0 HC0
  go_loopw [6, 7, 18] (fun p q i wr => ∃ k : Nat, k ≤ n ∧ p = .int .i64 (bsN K k : Int) ∧ q = .int .i64 (bsC K k) ∧ i = .int .i64 (k : Int) ∧ w = wr) (fun _ _ i _ => n - (Go.RowKit.intOf i).toNat)
  case atStart => exact ⟨0, Nat.zero_le _, rfl, by rw [HS0.out], rfl, rfl⟩
  case round =>
    clear HS0
    obtain ⟨k, hk, rfl, rfl, rfl, rfl⟩ := hrel
    by_cases hlt : k < n
    · have hltz : (k : Int) < (n : Int) := by omega
      have HN := hide (show bsN K (k + 1) = if bsC K k < K k then k else bsN K k from rfl)
      have HM := hide (show bsC K (k + 1) = if bsC K k < K k then K k else bsC K k from rfl)
      obtain ⟨b', o', Ak, ck, hA, -, -, xk, -, -, yk⟩ := HL.out k hlt
      injection hA with hA
      injection hA with hb ho
      subst hb
      subst ho
      have HCk := hide (HC.out k hlt Ak ck yk)
      obtain ⟨u, hu⟩ : ∃ z, K k = z := ⟨_, rfl⟩
      obtain ⟨v, hv⟩ : ∃ z, bsC K k = z := ⟨_, rfl⟩
      obtain ⟨m, hm⟩ : ∃ z, bsN K k = z := ⟨_, rfl⟩
      rw [hu] at HCk
      simp only [hu, hv, hm] at HN HM
      try simp only [hv, hm]
      clear hu hv hm yk
      go_wp2_with fail
      refine HCk.out.mono ?_
      rintro e w1 ⟨rfl, rfl⟩
      clear xk HCk
      by_cases hvu : v < u
      · have t1 : decide (v < u) = true := by simpa using hvu
        rw [if_pos hvu] at HN HM
        clear hvu
        go_wp2_with fail
        go_roundw
        case rel => exact ⟨k + 1, by omega, by rw [HN.out], by rw [HM.out], by go_num, by first | rfl | trivial⟩
        case measure => simp [Go.RowKit.intOf]; omega
      · have t1 : decide (v < u) = false := by simpa using hvu
        rw [if_neg hvu] at HN HM
        clear hvu
        go_wp2_with fail
        go_roundw
        case rel => exact ⟨k + 1, by omega, by rw [HN.out], by rw [HM.out], by go_num, by first | rfl | trivial⟩
        case measure => simp [Go.RowKit.intOf]; omega
    · obtain rfl : k = n := by omega
      go_wp2_with fail
      refine bodyPost_ret (v := .tuple #[.int .i64 (bsN K k : Int), .int .i64 (bsC K k)]) (by simp [results, Try.results53, go_sem]) rfl ⟨rfl, rfl⟩
end Go.Proofs.Ytlhbkjgddpelgaa
