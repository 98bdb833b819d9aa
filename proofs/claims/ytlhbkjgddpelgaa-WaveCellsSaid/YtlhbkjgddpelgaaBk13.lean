/- Lemmas: H7, Sc. -/
import Derived.Test.YtlhbkjgddpelgaaBk12
set_option linter.unusedVariables false
set_option linter.unusedSimpArgs false
/- Search of the code. -/
namespace Go.Proofs.Ytlhbkjgddpelgaa
open Go.RowKit Go.Great
/-- The error of values that are searched, and what is found. -/
def seE (n : Nat) (X : Nat → Int) : Int := firstE [recE n X, unI (decide ((62 : Int) ≤ (n : Int))) 10]
def sePl (n : Nat) (X : Nat → Int) : Nat := bsN (fCo X) (n - 61)
def seP (n : Nat) (X : Nat → Int) : Int := if seE n X = 0 then (sePl n X : Int) else 0
def seI (n : Nat) (X : Nat → Int) : Int := if seE n X = 0 then (fId X (sePl n X) : Int) else 0
def seC (n : Nat) (X : Nat → Int) : Int := if seE n X = 0 then fCo X (sePl n X) else 0
theorem seE_zero {n : Nat} {X : Nat → Int} (h : seE n X = 0) : n ≤ 120 ∧ (∀ j, j < n → -100000 ≤ X j ∧ X j ≤ 100000) ∧ 62 ≤ n := by
  obtain ⟨h1, h2⟩ := firstE_nil h
  obtain ⟨h3, -⟩ := firstE_nil h2
  obtain ⟨h4, h5⟩ := recE_zero h1
  have h6 := unI_zero (by decide) h3
  simp at h6
  exact ⟨h4, h5, by omega⟩
theorem bsN_next (K : Nat → Int) (k : Nat) : bsN K (k + 1) = if K (bsN K k) < K k then k else bsN K k := by
  show (if bsC K k < K k then k else bsN K k) = _
  rw [bsC_at]
set_option maxHeartbeats 8000000 in
set_option maxRecDepth 100000 in
theorem Search_any (A : Option Addr) (n c : Nat) (X : Nat → Int) (w : World) (hn : n ≤ 100000) (hnc : n ≤ c) (hc9 : c ≤ 9223372036854775807) (hI : IntsAt w 0 A n X) :
    Calls Try.prog 9 #[.slice A n c] w fun e w' => e = .returned (.tuple #[.agg #[.int .i64 (seP n X), .int .i64 (seI n X), .int .i64 (seC n X)], .int .i64 (seE n X)]) ∧ Below w.heap.size w w' := by
  have HE := hide (show firstE [recE n X, unI (decide ((62 : Int) ≤ (n : Int))) 10] = seE n X from rfl)
  have HZ := hide (seE_zero (n := n) (X := X))
  have HP := hide (show seP n X = if seE n X = 0 then (bsN (fCo X) (n - 61) : Int) else 0 from rfl)
  have HQ := hide (show seI n X = if seE n X = 0 then (fId X (bsN (fCo X) (n - 61)) : Int) else 0 from rfl)
  have HR := hide (show seC n X = if seE n X = 0 then fCo X (bsN (fCo X) (n - 61)) else 0 from rfl)
  have HRE := hide (fun W (h : IntsAt W 0 A n X) => receivedError_any A n c X W hn h)
  have HI := hide hI
  generalize seP n X = vp at *
  generalize seI n X = vi at *
  generalize seC n X = vc at *
  generalize seE n X = V at *
  obtain ⟨r, hr⟩ : ∃ z, recE n X = z := ⟨_, rfl⟩
  simp only [hr] at HE HRE
  clear hI hr
  go_enter Try.func9, Try.ntmps9
  go_upto_region 1 with fail
  obtain ⟨W, hW⟩ : ∃ y : World, y = w.alloc (.cells #[.int .i64 0, .int .i64 0, .int .i64 0] 25) := ⟨_, rfl⟩
  rw [← hW]
  have b2 : Box W w.heap.size 25 #[.int .i64 0, .int .i64 0, .int .i64 0] := by rw [hW]; exact Box.made rfl
  have hB : Below w.heap.size w W := by rw [hW]; (repeat (first | (with_reducible exact Below.refl _ _) | (with_reducible refine Go.below_drewN ?_ _) | (with_reducible refine Below.drew ?_) | (with_reducible refine Below.alloc ?_ (by first | exact Nat.le_refl _ | (simp; done) | (simp; omega) | omega) _) | (with_reducible refine Below.setCell ?_ (by first | exact Nat.le_refl _ | (simp; done) | (simp; omega) | omega) _)))
  clear hW
  go_wp2_with fail
  refine (HRE.out _ (HI.out.below hB)).mono ?_
  rintro e w1 ⟨rfl, hb1⟩
  have b21 := b2.below hb1
  have hB1 := hB.trans (hb1.mono hB.size)
  clear hb1 b2 hB HRE
  go_wp2_with (go_at_call 24; refine (unless_any _ _ _).mono ?_; rintro e w' ⟨rfl, rfl⟩)
  refine (firstError_laid [r, unI (decide ((62 : Int) ≤ (n : Int))) 10] 2 _ _ rfl (by decide)).mono ?_
  rintro e w2 ⟨rfl, hw2⟩
  rw [HE.out]
  have b22 : Box w2 w.heap.size 25 #[.int .i64 0, .int .i64 0, .int .i64 0] := by rw [← hw2]; exact b21.alloc _
  have hB2 : Below w.heap.size w w2 := by rw [← hw2]; exact hB1.alloc hB1.size _
  clear hw2 b21 hB1 HE
  by_cases hv : V = 0
  · obtain ⟨hn1, hX, h62⟩ := HZ.out hv
    have HPP := hide (HP.out.trans (if_pos hv))
    have HQQ := hide (HQ.out.trans (if_pos hv))
    have HRR := hide (HR.out.trans (if_pos hv))
    obtain ⟨b, o, rfl, -⟩ := HI.out 0 (by omega)
    have HFO := hide (fun p A1 c1 A2 c2 W (hp : p + 62 ≤ n) (h1 : ListsAt W 0 A1 3 (fun _ => 31) halfA) (h2 : ListsAt W 0 A2 336 (fun _ => 31) (fun g => halfB (3 * g))) (h3 : IntsAt W 0 (some ⟨b, o, none⟩) n X) => found_any A1 A2 c1 c2 b o n c p X W hp (by omega) hnc hc9 h1 h2 h3 (fun j hj => hX (p + j) (by omega)))
    obtain ⟨K, hK⟩ : ∃ z : Nat → Int, fCo X = z := ⟨_, rfl⟩
    obtain ⟨J, hJ⟩ : ∃ z : Nat → Nat, fId X = z := ⟨_, rfl⟩
    simp only [hK, hJ] at HFO HPP HQQ HRR
    have HF0 : Hid (∀ A1 c1 A2 c2 W, ListsAt W 0 A1 3 (fun _ => 31) halfA → ListsAt W 0 A2 336 (fun _ => 31) (fun g => halfB (3 * g)) → IntsAt W 0 (some ⟨b, o, none⟩) n X → Calls Try.prog 27 #[.agg #[.slice A1 3 c1, .slice A2 336 c2], .slice (some ⟨b, o, none⟩) n c, .int .i64 0] W fun e w' => e = .returned (.agg #[.int .i64 0, .int .i64 (J 0 : Int), .int .i64 (K 0)]) ∧ Below W.heap.size W w') :=
      hide (fun A1 c1 A2 c2 W h1 h2 h3 => HFO.out 0 A1 c1 A2 c2 W (by omega) h1 h2 h3)
    have tv : (V != 0) = false := by simpa using hv
    have HB1 := hide (show bsN K 1 = 0 from by show (if _ then _ else _) = _; split <;> rfl)
    have q0 : IntKind.i64.wrap ((n : Int) - 62) = (n : Int) - 62 := IntWalk.i64_in _ (by omega)
    subst hv
    clear HZ HP HQ HR hX hK hJ
    go_wp2_with fail
    refine (allHalves_any _).mono ?_
    rintro e w3 ⟨v1, v2, rfl, ho1, ho2, hb3⟩
    obtain ⟨A1, c1, rfl, hl1⟩ := ho1.at_zero
    obtain ⟨A2, c2, rfl, hl2⟩ := ho2.at_zero
    have b23 := b22.below hb3
    have hB3 := hB2.trans (hb3.mono hB2.size)
    have HI3 := hide (HI.out.below hB3)
    clear hb3 b22 hB2 ho1 ho2
    go_upto_region 5 with fail
    obtain ⟨W5, hW5⟩ : ∃ q : World, q = w3.alloc (.cells #[.slice A1 3 c1, .slice A2 336 c2] 67) := ⟨_, rfl⟩
    try rw [← hW5]
    have b5 : Box W5 w3.heap.size 67 #[.slice A1 3 c1, .slice A2 336 c2] := by rw [hW5]; exact Box.made rfl
    have hb5 : Below w3.heap.size w3 W5 := by rw [hW5]; (repeat (first | (with_reducible exact Below.refl _ _) | (with_reducible refine Go.below_drewN ?_ _) | (with_reducible refine Below.drew ?_) | (with_reducible refine Below.alloc ?_ (by first | exact Nat.le_refl _ | (simp; done) | (simp; omega) | omega) _) | (with_reducible refine Below.setCell ?_ (by first | exact Nat.le_refl _ | (simp; done) | (simp; omega) | omega) _)))
    have b25 := b23.below hb5
    have hB5 := hB3.trans (hb5.mono hB3.size)
    have HI5 := hide (HI3.out.below hb5)
    have HL1 := hide (hl1.below hb5)
    have HL2 := hide (hl2.below hb5)
    obtain ⟨g5, hg5⟩ : ∃ g, w3.heap.size = g := ⟨_, rfl⟩
    try rw [hg5]
    rw [hg5] at b5
    clear hW5 hb5 b23 hB3 hl1 hl2 HI3 hg5
    obtain ⟨x0, x1, f0, f1, hlx⟩ := box_two b5
    go_wp2_with fail
    refine (HF0.out A1 c1 A2 c2 _ HL1.out HL2.out HI5.out).mono ?_
    rintro e w6 ⟨rfl, hb6⟩
    have HBX := hide (b5.below hb6)
    have HB2 := hide (b25.below hb6)
    have HBB := hide (hB5.trans (hb6.mono hB5.size))
    have HI6 := hide (HI5.out.below hb6)
    have HM1 := hide (HL1.out.below hb6)
    have HM2 := hide (HL2.out.below hb6)
    clear x0 x1 f0 f1 hlx b5 b25 hB5 hb6 HF0 HI5 HL1 HL2
    go_upto_region 6 with fail
    obtain ⟨W6, hW6⟩ : ∃ q : World, q = w6.alloc (.cells #[.int .i64 0, .int .i64 (J 0 : Int), .int .i64 (K 0)] 25) := ⟨_, rfl⟩
    try rw [← hW6]
    have b6 : Box W6 w6.heap.size 25 #[.int .i64 0, .int .i64 (J 0 : Int), .int .i64 (K 0)] := by rw [hW6]; exact Box.made rfl
    have hb6 : Below w6.heap.size w6 W6 := by rw [hW6]; (repeat (first | (with_reducible exact Below.refl _ _) | (with_reducible refine Go.below_drewN ?_ _) | (with_reducible refine Below.drew ?_) | (with_reducible refine Below.alloc ?_ (by first | exact Nat.le_refl _ | (simp; done) | (simp; omega) | omega) _) | (with_reducible refine Below.setCell ?_ (by first | exact Nat.le_refl _ | (simp; done) | (simp; omega) | omega) _)))
    obtain ⟨g6, hg6⟩ : ∃ g, w6.heap.size = g := ⟨_, rfl⟩
    try rw [hg6]
    rw [hg6] at b6 hb6
    have HG6 := hide hg6
    clear hW6 hg6
    go_wp2_with fail
    go_loopw [7, 8] (fun i _ wr => ∃ k : Nat, 1 ≤ k ∧ k + 61 ≤ n ∧ i = .int .i64 (k : Int) ∧ Box wr g6 25 #[.int .i64 (bsN K k : Int), .int .i64 (J (bsN K k) : Int), .int .i64 (K (bsN K k))] ∧ Below g6 w6 wr) (fun i _ _ => n - (Go.RowKit.intOf i).toNat)
    case atStart => exact ⟨1, Nat.le_refl _, by omega, rfl, by rw [HB1.out]; exact b6, hb6⟩
    case round =>
      clear b6 hb6 HB1
      obtain ⟨k, hk1, hk2, rfl, hb, hB⟩ := hrel
      obtain ⟨wA, rfl⟩ : ∃ x : World, x = wr := ⟨_, rfl⟩
      have hBB : Below w6.heap.size w6 wA := by rw [HG6.out]; exact hB
      have HN := hide (bsN_next K k)
      obtain ⟨q, hq⟩ : ∃ z, bsN K k = z := ⟨_, rfl⟩
      have HQN := hide hq
      rw [hq] at hb HN
      clear hq
      by_cases hlt : k + 62 ≤ n
      · have hltz : (k : Int) ≤ (n : Int) - 62 := by omega
        obtain ⟨x0, x1, f0, f1, hlx⟩ := box_two (HBX.out.below hBB)
        go_wp2_with fail
        refine (HFO.out k A1 c1 A2 c2 _ hlt (HM1.out.below hBB) (HM2.out.below hBB) (HI6.out.below hBB)).mono ?_
        rintro e w7 ⟨rfl, hb7⟩
        have b7 := hb.below hb7
        have hB7 := hB.trans (hb7.mono (by have := hb.lt; omega))
        clear x0 x1 f0 f1 hlx hb hB hBB hb7
        go_upto_region 10 with fail
        obtain ⟨W8, hW8⟩ : ∃ z : World, z = w7.alloc (.cells #[.int .i64 (k : Int), .int .i64 (J k : Int), .int .i64 (K k)] 25) := ⟨_, rfl⟩
        try rw [← hW8]
        have b8 : Box W8 w7.heap.size 25 #[.int .i64 (k : Int), .int .i64 (J k : Int), .int .i64 (K k)] := by rw [hW8]; exact Box.made rfl
        have b6 : Box W8 g6 25 #[.int .i64 (q : Int), .int .i64 (J q : Int), .int .i64 (K q)] := by rw [hW8]; exact b7.alloc _
        have hB8 : Below g6 w6 W8 := by rw [hW8]; exact hB7.alloc (by have := b7.lt; omega) _
        clear hW8 hB7 b7
        obtain ⟨x0, x1, x2, -, -, -, hlx⟩ := b8.cellsT
        obtain ⟨y0, y1, y2, g0, g1, g2, hly⟩ := b6.cellsT
        have HB6 := hide b6
        have HX6 := hide (b6.putT (.int .i64 (k : Int)) (.int .i64 (J k : Int)) (.int .i64 (K k)))
        have HB8 := hide hB8
        have HY8 := hide (Below.putT hB8 (c := g6) (Nat.le_refl _) (.int .i64 (k : Int)) (.int .i64 (J k : Int)) (.int .i64 (K k)))
        clear b8 b6 hB8
        by_cases hgt : K q < K k
        · have t1 : decide (K q < K k) = true := by simpa using hgt
          rw [if_pos hgt] at HN
          clear hgt
          go_wp2_with fail
          go_roundw
          case rel => exact ⟨k + 1, by omega, by omega, by go_num, by rw [HN.out]; exact HX6.out, HY8.out⟩
          case measure => simp [Go.RowKit.intOf]; omega
        · have t1 : decide (K q < K k) = false := by simpa using hgt
          rw [if_neg hgt] at HN
          clear hgt
          go_wp2_with fail
          go_roundw
          case rel => exact ⟨k + 1, by omega, by omega, by go_num, by rw [HN.out]; exact HB6.out, HB8.out⟩
          case measure => simp [Go.RowKit.intOf]; omega
      · have hkn : n - 61 = k := by omega
        have hltz : ¬ (k : Int) ≤ (n : Int) - 62 := by omega
        rw [hkn, HQN.out] at HPP HQQ HRR
        obtain ⟨x0, x1, x2, -, -, -, hlx⟩ := hb.cellsT
        have b2 := HB2.out.below hBB
        have hBF := HBB.out.trans (hBB.mono HBB.out.size)
        obtain ⟨y0, y1, y2, g0, g1, g2, hly⟩ := b2.cellsT
        have HZ1 := hide (b2.putT (.int .i64 (q : Int)) (.int .i64 (J q : Int)) (.int .i64 (K q))).cellsT
        have HZ2 := hide (Below.putT hBF (c := w.heap.size) (Nat.le_refl _) (.int .i64 (q : Int)) (.int .i64 (J q : Int)) (.int .i64 (K q)))
        clear hb b2 hB hBB hBF hkn hlt
        go_wp2_with fail
        clear x0 x1 x2 y0 y1 y2
        obtain ⟨y0, y1, y2, -⟩ := HZ1.out
        refine bodyPost_ret (v := .tuple #[.agg #[.int .i64 (q : Int), .int .i64 (J q : Int), .int .i64 (K q)], .int .i64 0]) ?_ rfl ⟨by rw [HPP.out, HQQ.out, HRR.out], HZ2.out⟩
        simp [results, Try.results9, go_sem, y0, y1, y2]
  · have tv : (V != 0) = true := by simpa using hv
    have HPP := hide (HP.out.trans (if_neg hv))
    have HQQ := hide (HQ.out.trans (if_neg hv))
    have HRR := hide (HR.out.trans (if_neg hv))
    obtain ⟨y0, y1, y2, g0, g1, g2, hly⟩ := b22.cellsT
    have HBB := hide (b22.putT (.int .i64 0) (.int .i64 0) (.int .i64 0)).cellsT
    have HBL := hide (Below.putT hB2 (c := w.heap.size) (Nat.le_refl _) (.int .i64 0) (.int .i64 0) (.int .i64 0))
    clear hv b22 hB2 HZ HP HQ HR
    go_wp2_with fail
    clear y0 y1 y2
    obtain ⟨y0, y1, y2, -⟩ := HBB.out
    refine bodyPost_ret (v := .tuple #[.agg #[.int .i64 0, .int .i64 0, .int .i64 0], .int .i64 V]) ?_ rfl ⟨by rw [HPP.out, HQQ.out, HRR.out], HBL.out⟩
    simp [results, Try.results9, go_sem, y0, y1, y2]
end Go.Proofs.Ytlhbkjgddpelgaa
/- bits and SequenceOf of the reference. -/
namespace Go.Proofs.Ytlhbkjgddpelgaa
open Go.RowKit
theorem OwnInts.lit5 (w : World) (base g : Nat) (p q r s t : Int) (F : Nat → Int) (hb : base ≤ w.heap.size) (hg : g = w.heap.size) (h0 : F 0 = p) (h1 : F 1 = q) (h2 : F 2 = r) (h3 : F 3 = s) (h4 : F 4 = t) :
    OwnInts (w.alloc (.cells #[.int .i64 p, .int .i64 q, .int .i64 r, .int .i64 s, .int .i64 t] 3)) base (.slice (some ⟨g, 0, none⟩) 5 5) 5 F :=
  hg ▸ ⟨by simp [intCells], .inr ⟨w.heap.size, 5, #[.int .i64 p, .int .i64 q, .int .i64 r, .int .i64 s, .int .i64 t], rfl, hb, heap_alloc_new w _, Nat.le_refl _, by decide, rfl, by simp [intCells, List.range_succ, h0, h1, h2, h3, h4]⟩⟩
/-- The sum of the bits at the first i places, from place k on. -/
def btS (T : Nat → Nat) (B : Nat → Int) (k : Nat) : Nat → Int
  | 0 => 0
  | i + 1 => btS T B k i + B (k + T i)
def btA (T : Nat → Nat) (m : Nat) : Nat → Nat → Int
  | 0, j => if j = 0 then 1 else 0
  | k + 1, j => if j = k + 5 then btS T (btA T m k) k m % 2 else btA T m k j
def Bit (x : Int) : Prop := x = 0 ∨ x = 1
theorem btS_le {T : Nat → Nat} {B : Nat → Int} {k m : Nat} (hT : ∀ i, i < m → T i < 5) (hB : ∀ j, j < k + 5 → Bit (B j)) : ∀ i, i ≤ m → 0 ≤ btS T B k i ∧ btS T B k i ≤ i
  | 0, _ => ⟨Int.le_refl _, Int.le_refl _⟩
  | i + 1, h => by
    have h1 := btS_le hT hB i (by omega)
    have h2 := hB (k + T i) (by have := hT i (by omega); omega)
    show 0 ≤ btS T B k i + B (k + T i) ∧ btS T B k i + B (k + T i) ≤ ((i + 1 : Nat) : Int)
    rcases h2 with e | e <;> rw [e] <;> omega
theorem btA_bit {T : Nat → Nat} {m : Nat} : ∀ k j, Bit (btA T m k j)
  | 0, j => by
    unfold btA
    split
    · exact .inr rfl
    · exact .inl rfl
  | k + 1, j => by
    unfold btA
    split
    · have := Int.emod_nonneg (btS T (btA T m k) k m) (show (2 : Int) ≠ 0 by decide)
      have := Int.emod_lt_of_pos (btS T (btA T m k) k m) (show (0 : Int) < 2 by decide)
      unfold Bit
      omega
    · exact btA_bit k j
/-- Bits and signs. -/
theorem sign_of_sum {T : Nat → Nat} {B S : Nat → Int} {k m : Nat} (hT : ∀ i, i < m → T i < 5) (hB : ∀ j, j < k + 5 → Bit (B j)) (h : ∀ j, j < k + 5 → 1 - 2 * B j = S j) : ∀ i, i ≤ m → 1 - 2 * (btS T B k i % 2) = tapP T S k i
  | 0, _ => rfl
  | i + 1, hi => by
    have h1 := sign_of_sum hT hB h i (by omega)
    have hj : k + T i < k + 5 := by have := hT i (by omega); omega
    have h2 := hB _ hj
    have h3 := h _ hj
    show 1 - 2 * ((btS T B k i + B (k + T i)) % 2) = tapP T S k i * S (k + T i)
    rw [← h1, ← h3]
    have := Int.emod_nonneg (btS T B k i) (show (2 : Int) ≠ 0 by decide)
    have := Int.emod_lt_of_pos (btS T B k i) (show (0 : Int) < 2 by decide)
    rcases h2 with e | e <;> rw [e]
    · rw [Int.add_zero]; omega
    · omega
theorem btA_sign {T : Nat → Nat} {m : Nat} (hT : ∀ i, i < m → T i < 5) : ∀ k j, j < k + 5 → 1 - 2 * btA T m k j = sgA T m k j
  | 0, j, hj => by
    show 1 - 2 * (if j = 0 then (1 : Int) else 0) = if j = 0 then -1 else if j < 5 then 1 else 0
    by_cases h : j = 0
    · rw [if_pos h, if_pos h]; rfl
    · rw [if_neg h, if_neg h, if_pos (by omega)]; rfl
  | k + 1, j, hj => by
    show 1 - 2 * (if j = k + 5 then btS T (btA T m k) k m % 2 else btA T m k j) = if j = k + 5 then tapP T (sgA T m k) k m else sgA T m k j
    by_cases h : j = k + 5
    · rw [if_pos h, if_pos h]
      exact sign_of_sum hT (fun q _ => btA_bit k q) (fun q hq => btA_sign hT k q hq) m (Nat.le_refl m)
    · rw [if_neg h, if_neg h]
      exact btA_sign hT k j (by omega)
def R2 (i : Nat) : Nat := if i = 0 then 0 else 2
def R4 (i : Nat) : Nat := if i = 0 then 0 else if i = 1 then 2 else if i = 2 then 3 else 4
theorem R2_lt (i : Nat) : R2 i < 5 := by unfold R2; split <;> decide
theorem R4_lt (i : Nat) : R4 i < 5 := by unfold R4; (repeat' split) <;> decide
def btR (T : Nat → Nat) (m : Nat) : Nat → Int := btA T m 26
theorem bitS {j : Nat} (hj : j < 31) : 1 - 2 * btR R2 2 j = tS j := by
  unfold btR
  rw [btA_sign (fun i _ => R2_lt i) 26 j (by omega)]
  exact sgF_table R2 2 (fun i _ => R2_lt i) tS (by decide) (by decide) (j + 1) j (Nat.lt_succ_self j) hj
theorem bitV {j : Nat} (hj : j < 31) : 1 - 2 * btR R4 4 j = tV j := by
  unfold btR
  rw [btA_sign (fun i _ => R4_lt i) 26 j (by omega)]
  exact sgF_table R4 4 (fun i _ => R4_lt i) tV (by decide) (by decide) (j + 1) j (Nat.lt_succ_self j) hj
set_option maxHeartbeats 4000000 in
set_option maxRecDepth 100000 in
theorem bitsR_any (A : Option Addr) (m c : Nat) (T : Nat → Nat) (w : World) (hm : m ≤ 31) (hT : ∀ i, i < m → T i < 5) (hI : IntsAt w 0 A m (fun i => (T i : Int))) :
    Calls Try.prog 70 #[.slice A m c] w fun e w' => ∃ v, e = .returned v ∧ GaveInts w 31 (btR T m) v w' := by
  have HI := hide hI
  have HT := hide hT
  have HR := hide (show btR T m = btA T m 26 from rfl)
  clear hI hT
  go_enter Try.func70, Try.ntmps70
  go_upto_region 2 with fail
  obtain ⟨W, hW⟩ : ∃ q : World, q = w.alloc (.cells #[.int .i64 1, .int .i64 0, .int .i64 0, .int .i64 0, .int .i64 0] 3) := ⟨_, rfl⟩
  rw [← hW]
  have ho : OwnInts W w.heap.size (.slice (some ⟨w.heap.size, 0, none⟩) 5 5) 5 (btA T m 0) := by rw [hW]; exact OwnInts.lit5 w _ _ _ _ _ _ _ _ (Nat.le_refl _) rfl rfl rfl rfl rfl rfl
  have hB : Below w.heap.size w W := by rw [hW]; (repeat (first | (with_reducible exact Below.refl _ _) | (with_reducible refine Go.below_drewN ?_ _) | (with_reducible refine Below.drew ?_) | (with_reducible refine Below.alloc ?_ (by first | exact Nat.le_refl _ | (simp; done) | (simp; omega) | omega) _) | (with_reducible refine Below.setCell ?_ (by first | exact Nat.le_refl _ | (simp; done) | (simp; omega) | omega) _)))
  clear hW
  go_wp2_with fail
  go_loopw [3, 4] (fun v x wr => ∃ k : Nat, k ≤ 26 ∧ x = .int .i64 (k : Int) ∧ OwnInts wr w.heap.size v (k + 5) (btA T m k) ∧ Below w.heap.size w wr) (fun _ x _ => 26 - (Go.RowKit.intOf x).toNat)
  case atStart => exact ⟨0, by decide, rfl, ho, hB⟩
  case round =>
    clear ho hB
    obtain ⟨k, hk, rfl, ho, hB⟩ := hrel
    obtain ⟨wA, rfl⟩ : ∃ x : World, x = wr := ⟨_, rfl⟩
    obtain ⟨D, d, rfl, hd, hD⟩ := ho.form
    have q0 : IntKind.i64.wrap ((k : Int) + 5) = (k : Int) + 5 := IntWalk.i64_in _ (by omega)
    have HNX := hide (fun j (hj : j < k + 5 + 1) => (show catF (k + 5) (btA T m k) (fun _ => btS T (btA T m k) k m % 2) j = btA T m (k + 1) j from by
      unfold catF
      show (if j < k + 5 then btA T m k j else btS T (btA T m k) k m % 2) = if j = k + 5 then btS T (btA T m k) k m % 2 else btA T m k j
      by_cases e : j = k + 5
      · rw [if_pos e, if_neg (by omega)]
      · rw [if_neg e, if_pos (by omega)]))
    have HBT := hide (show ∀ j, j < k + 5 → Bit (btA T m k j) from fun j _ => btA_bit k j)
    by_cases hlt : k < 26
    · have hlt2 : (k : Int) + 5 < 31 := by omega
      obtain ⟨B, hBB⟩ : ∃ B, B = btA T m k := ⟨_, rfl⟩
      rw [← hBB] at ho hD HNX HBT
      clear hBB
      have HO := hide ho
      have HDD := hide hD
      have HBW := hide hB
      clear ho hD hB
      go_wp2_with fail
      go_loopw [5, 6] (fun s x wr => ∃ i : Nat, i ≤ m ∧ s = .int .i64 (btS T B k i) ∧ x = .int .i64 (i : Int) ∧ wA = wr) (fun _ x _ => m - (Go.RowKit.intOf x).toNat)
      case atStart => exact ⟨0, Nat.zero_le _, rfl, rfl, rfl⟩
      case round =>
        obtain ⟨i, hi, rfl, rfl, rfl⟩ := hrel
        have hsl := btS_le (T := T) (B := B) (k := k) (m := m) HT.out HBT.out i hi
        have HS := hide (show btS T B k (i + 1) = btS T B k i + B (k + T i) from rfl)
        obtain ⟨s, hs⟩ : ∃ s, s = btS T B k i := ⟨_, rfl⟩
        rw [← hs] at hsl HS
        by_cases hlt3 : i < m
        · rw [← hs]
          have hlz : (i : Int) < (m : Int) := by omega
          obtain ⟨b0, o0, rfl, -, -, c0⟩ := (HI.out.below HBW.out) i hlt3
          replace c0 : wA.cell? ⟨b0, o0 + i, none⟩ = some (.int .i64 (T i : Int)) := c0
          have ht := HT.out i hlt3
          obtain ⟨t, htt⟩ : ∃ t, t = T i := ⟨_, rfl⟩
          rw [← htt] at c0 ht HS
          obtain ⟨p, hp⟩ : ∃ p, p = k + t := ⟨_, rfl⟩
          rw [← hp] at HS
          have hpd : (p : Int) < ((k + 5 : Nat) : Int) := by omega
          have hpd2 : (p : Int) < (k : Int) + 5 := by omega
          have q1 : IntKind.i64.wrap ((k : Int) + (t : Int)) = (p : Int) := by rw [IntWalk.i64_in _ (by omega)]; omega
          obtain ⟨b1, o1, rfl, -, -, c1⟩ := HDD.out p (by omega)
          have hbp := HBT.out p (by omega)
          obtain ⟨x, hx⟩ : ∃ x, x = B p := ⟨_, rfl⟩
          rw [← hx] at c1 hbp HS
          have q2 : IntKind.i64.wrap (s + x) = s + x := IntWalk.i64_in _ (by rcases hbp with e | e <;> rw [e] <;> omega)
          clear hs htt hp hx hbp hsl
          go_wp2_with fail
          go_roundw
          case rel => exact ⟨i + 1, by omega, by rw [HS.out], by go_num, by first | rfl | trivial⟩
          case measure => simp [Go.RowKit.intOf]; omega
        · obtain rfl : i = m := by omega
          have q3 : (btS T B k i).tmod 2 = btS T B k i % 2 := Int.tmod_eq_emod_of_nonneg (by rw [← hs]; exact hsl.1)
          rw [← hs] at q3 HNX
          rw [← hs]
          obtain ⟨r, hr⟩ : ∃ r, r = s % 2 := ⟨_, rfl⟩
          rw [← hr] at q3 HNX
          have hBs := HBW.out.size
          clear hr hs hsl
          go_wp2_with (at_builtin; refine wpList_append_ints _ rfl (.tmp 30) (.tmp 33) rfl w.heap.size 0 (.slice D (k + 5) d) (k + 5) _ rfl (HO.out.alloc _) (some ⟨_, 0, none⟩) 1 1 (fun _ => r) rfl (IntsAt.one _ 0 r 3 (Nat.zero_le _)) (by omega) (by simp; omega) ?_; intro v' w' h1 hb3)
          go_roundw
          case rel => exact ⟨k + 1, by omega, by go_num, by rw [show k + 1 + 5 = k + 5 + 1 by omega]; exact h1.congr HNX.out, (HBW.out.alloc hBs _).trans hb3⟩
          case measure => simp [Go.RowKit.intOf]; omega
    · obtain rfl : k = 26 := by omega
      go_wp2_with fail
      go_ret
      exact ⟨_, rfl, by rw [HR.out]; exact ho.gave hB⟩
end Go.Proofs.Ytlhbkjgddpelgaa
