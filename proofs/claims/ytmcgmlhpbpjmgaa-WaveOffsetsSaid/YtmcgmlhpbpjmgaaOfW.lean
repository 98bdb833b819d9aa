/- Lemmas: Ok, Ol. -/
import Derived.Deep.DeepCutAuto
import Derived.Test.YtmcgmlhpbpjmgaaBk09
import Derived.Test.YtmcgmlhpbpjmgaaBk16
set_option linter.unusedVariables false
set_option linter.unusedSimpArgs false
/- The theorem of offsets without a walk: the offset of samples that are turned on. -/
namespace Go.Proofs.Ytmcgmlhpbpjmgaa
open Go.RowKit
theorem comp_ref (p q r s : Int) : compI (p - r) (s - q) = refC (p - r) (q - s) := by rw [refC_comp, show -(q - s) = s - q by omega]
theorem sumI_ge {g : Nat → Int} : ∀ n, (∀ i, i < n → 0 ≤ g i) → 0 < n → g 0 ≤ sumI g n
  | 0, _, h => absurd h (by decide)
  | n + 1, h, _ => by
    have h1 := h n (Nat.lt_succ_self n)
    rcases Nat.eq_zero_or_pos n with h0 | h0
    · subst h0
      show g 0 ≤ 0 + g 0
      omega
    · have h2 := sumI_ge n (fun i hi => h i (by omega)) h0
      show g 0 ≤ sumI g n + g n
      omega
/-- What turned on samples hand back. -/
theorem offB_shift {F : Nat → Num} {n e : Nat} (hn : 2 ≤ n) (he : e < 8) (h0 : F 0 ≠ Num.zero) (h1 : F 1 ≠ Num.zero) : (offB (offP F (shiftN F e)) n 8).1 = (e : Int) := by
  obtain ⟨P, hP⟩ : ∃ P, P = offP F (shiftN F e) := ⟨_, rfl⟩
  have hS : ∀ f, offS P n f = sumT (fun i => (F i).sqP) (fun i => (F i).sqQ) (offM e f) n := fun f => by rw [hP]; exact offS_shift F e n f
  rw [← hP]
  have hTN : ∀ f i, i < n → TN ((fun i => (F i).sqP) i) ((fun i => (F i).sqQ) i) ∧ offM e f i < 8 := fun f i _ => ⟨sq_TN _, offM_lt _ _ _⟩
  have p0 := sqP_pos h0
  have p1 := sqP_pos h1
  have hreal : offS P n e = realN (sumI (fun i => (F i).sqP) n) (sumI (fun i => (F i).sqQ) n) := by
    rw [hS e]
    refine sumT_plain n fun i _ => ?_
    unfold offM
    rw [Int.sub_self, Int.zero_mul]
    rfl
  have hD : ∀ f : Nat, f < 8 → f ≠ e → TN ((offS P n e).sqP - (offS P n f).sqP) ((offS P n e).sqQ - (offS P n f).sqQ) ∧ 0 < (offS P n e).sqP - (offS P n f).sqP := fun f hf hfe => by
    have h := def_pos (p := fun i => (F i).sqP) (q := fun i => (F i).sqQ) (m := offM e f) hn (hTN f) p0 p1 (by
      unfold offM
      simp only [Int.natCast_zero, Int.natCast_one, Int.mul_zero, Int.mul_one]
      omega)
    rw [hreal, sqP_real, sqQ_real, hS f]
    exact h
  have hpos : 0 < (offS P n e).sqP := by
    rw [hreal, sqP_real]
    have h2 := sumI_ge (g := fun i => (F i).sqP) n (fun i _ => sqP_nonneg _) (by omega)
    have h3 : 0 < sumI (fun i => (F i).sqP) n := by
      have : (fun i => (F i).sqP) 0 = (F 0).sqP := rfl
      omega
    have h4 := Int.mul_pos h3 h3
    have h5 := sq_nonneg (sumI (fun i => (F i).sqQ) n)
    omega
  have hA : ∀ f : Nat, f ≤ e → TN ((offS P n e).sqP - (offB P n f).2.1) ((offS P n e).sqQ - (offB P n f).2.2) ∧ 0 < (offS P n e).sqP - (offB P n f).2.1 := by
    intro f
    induction f with
    | zero =>
      intro _
      have hz : offB P n 0 = (0, 0, 0) := rfl
      rw [hz]
      simp only [Int.sub_zero]
      exact ⟨sq_TN _, hpos⟩
    | succ f ih =>
      intro hf
      unfold offB
      split
      · exact hD f (by omega) (by omega)
      · exact ih (by omega)
  have hE : offB P n (e + 1) = ((e : Int), (offS P n e).sqP, (offS P n e).sqQ) := by
    obtain ⟨k1, k2⟩ := hA e (Nat.le_refl e)
    rw [offB, comp_ref, (refC_pos k1 k2).1, if_pos (by decide)]
  have hB : ∀ d : Nat, e + 1 + d ≤ 8 → offB P n (e + 1 + d) = ((e : Int), (offS P n e).sqP, (offS P n e).sqQ) := by
    intro d
    induction d with
    | zero => intro _; exact hE
    | succ d ih =>
      intro hd
      have ih' := ih (by omega)
      obtain ⟨k1, k2⟩ := hD (e + 1 + d) (by omega) (by omega)
      rw [← Nat.add_assoc, offB, comp_ref, ih']
      have k3 := (refC_pos k1 k2).2
      rw [Int.neg_sub, Int.neg_sub] at k3
      rw [k3, if_neg (by decide)]
  have h8 := hB (8 - (e + 1)) (by omega)
  rw [show e + 1 + (8 - (e + 1)) = 8 by omega] at h8
  rw [h8]
theorem offR_shift {F : Nat → Num} {n : Nat} {e : Int} (hn : 2 ≤ n) (he : 0 ≤ e ∧ e ≤ 7) (h0 : F 0 ≠ Num.zero) (h1 : F 1 ≠ Num.zero) (hE : offE n n F (shiftN F e) = 0) : offR n n F (shiftN F e) = e := by
  obtain ⟨k, rfl⟩ := Int.eq_ofNat_of_zero_le he.1
  unfold offR
  rw [if_pos hE]
  exact offB_shift hn (by omega) h0 h1
theorem isIn_turn (M : Int) (x : Num) (hM : 0 ≤ M) (h : x.Within M) : ∀ k, (x.turns k).err M = 0 := fun k => by
  have h1 := Num.isIn_iff.2 (h.turns k)
  unfold Num.err unI
  rw [h1]
  rfl
/-- Known samples turned on are right, if the known ones are. -/
theorem offE_shift {F : Nat → Num} {n : Nat} {e : Int} (h : offE n n F F = 0) : offE n n F (shiftN F e) = 0 := by
  obtain ⟨h0, -, hn, hF, -⟩ := offE_zero h
  rw [offE_few h0 hn] at h ⊢
  obtain ⟨h1, -⟩ := firstE_nil h
  have h2 : numsE 100 (shiftN F e) n = 0 := by
    have : ∀ m, m ≤ n → badE (fun j => (shiftN F e j).err 100) m = 0 := by
      intro m
      induction m with
      | zero => intro _; rfl
      | succ m ih =>
        intro hm
        rw [badE_succ (ih (by omega))]
        exact isIn_turn 100 (F m) (by decide) (hF m (by omega)) _
    exact this n (Nat.le_refl n)
  rw [firstE, if_pos h1, firstE, if_pos h2]
  rfl
end Go.Proofs.Ytmcgmlhpbpjmgaa
/- The walk of WaveOffsets. -/
namespace Go.Proofs.Ytmcgmlhpbpjmgaa
open Go.RowKit
/-- What a call that gives numbers hands back beside its error V. -/
def GotN (W : World) (V : Int) (v : Value) (m : Nat) (F : Nat → Num) : Prop := (V = 0 ∧ ∃ X x, v = .slice X m x ∧ NumsAt W 0 X m F) ∨ (V ≠ 0 ∧ ∃ X x, v = .slice X 0 x)
theorem GotN.below {W W' : World} {V : Int} {v : Value} {m : Nat} {F : Nat → Num} (h : GotN W V v m F) (hb : Below W.heap.size W W') : GotN W' V v m F := by
  rcases h with ⟨h0, X, x, h1, h2⟩ | h
  · exact .inl ⟨h0, X, x, h1, h2.below hb⟩
  · exact .inr h
theorem GaveShift.got {w' : World} {base n : Nat} {v : Value} {F : Nat → Num} {q V : Int} (h : GaveShift w' base v n F q V) : GotN w' V v n (shiftN F q) := by
  unfold GaveShift at h
  obtain ⟨X, x, h1, -, h2⟩ := ownNums_form h
  by_cases hV : V = 0
  · rw [if_pos hV] at h1 h2
    exact .inl ⟨hV, X, x, h1, h2.weak (Nat.zero_le _)⟩
  · rw [if_neg hV] at h1
    exact .inr ⟨hV, X, x, h1⟩
theorem numsE_all {M : Int} {F : Nat → Num} {n : Nat} (h : ∀ j, j < n → (F j).Within M) : numsE M F n = 0 := by
  unfold numsE
  induction n with
  | zero => rfl
  | succ n ih =>
    rw [badE_succ (ih fun j hj => h j (by omega))]
    show unI ((F n).isIn M) 2 = 0
    rw [Num.isIn_iff.2 (h n (by omega))]
    rfl
theorem shiftE_right {n : Nat} {F : Nat → Num} {q : Int} (hq : 0 ≤ q ∧ q ≤ 7) (h : offE n n F F = 0) : shiftE n F q = 0 := by
  obtain ⟨h0, -, hn, hF, -⟩ := offE_zero h
  unfold shiftE sampE
  rw [if_neg (by omega), numsE_all fun j hj => (hF j hj).more (by decide)]
  have : withinB q 0 7 = true := withinB_iff.2 hq
  rw [this]
  rfl
theorem offR_wrong {n m : Nat} {F G : Nat → Num} (h : offE n m F G ≠ 0) : offR n m F G = 0 := by
  unfold offR
  rw [if_neg h]
theorem num_zero {x : Num} (h : ¬ x = Num.zero) : ¬ (x.a = 0 ∧ x.b = 0 ∧ x.c = 0 ∧ x.d = 0) := fun ⟨h1, h2, h3, h4⟩ => h (Num.same h1 h2 h3 h4)
theorem shiftE_two (m : Nat) (G : Nat → Num) (q : Int) : (if sampE m G = 0 then unI (withinB q 0 7) 2 else sampE m G) = shiftE m G q := rfl
theorem nonzero4 {p q r s : Int} (h : ¬ (p = 0 ∧ q = 0 ∧ r = 0 ∧ s = 0)) : (¬ p = 0) ∨ (p = 0 ∧ ¬ q = 0) ∨ (p = 0 ∧ q = 0 ∧ ¬ r = 0) ∨ (p = 0 ∧ q = 0 ∧ r = 0 ∧ ¬ s = 0) := by omega
set_option maxHeartbeats 16000000 in
set_option maxRecDepth 100000 in
theorem waveOffsets_walk (A B : Option Addr) (n c m d : Nat) (F G : Nat → Num) (q : Int) (w : World) (hn9 : n ≤ 9223372036854775807) (hm9 : m ≤ 9223372036854775807) (hI : NumsAt w 0 A n F) (hJ : NumsAt w 0 B m G) :
    Calls Try.prog 3 #[.slice A n c, .slice B m d, .int .i64 q] w fun e w' => e = .returned (.bool true) ∧ Below w.heap.size w w' := by
  have HAW := hide (fun W => awake_any W)
  have HI := hide hI
  have HJ := hide hJ
  clear hI hJ
  by_cases hn : 18 < n
  · have hnz : (n : Int) > 18 := by omega
    clear hn
    go_enter Try.func3, Try.ntmps3
    go_wp2_with fail
    refine (HAW.out _).mono ?_
    rintro e w1 ⟨rfl, hb1⟩
    go_wp2_with fail
    go_ret
    exact ⟨rfl, hb1⟩
  have hnz : ¬ (n : Int) > 18 := by omega
  by_cases hm : 18 < m
  · have hmz : (m : Int) > 18 := by omega
    clear hn hm
    go_enter Try.func3, Try.ntmps3
    go_wp2_with fail
    refine (HAW.out _).mono ?_
    rintro e w1 ⟨rfl, hb1⟩
    go_wp2_with fail
    go_ret
    exact ⟨rfl, hb1⟩
  have hmz : ¬ (m : Int) > 18 := by omega
  have hn5 : n ≤ 18 := by omega
  have hm5 : m ≤ 18 := by omega
  clear hn hm
  have HCN := hide (fun W (h : NumsAt W 0 A n F) => copyNumbers_own A n c F W (by omega) h)
  have HCM := hide (fun W (h : NumsAt W 0 B m G) => copyNumbers_own B m d G W (by omega) h)
  have HSH := hide (fun X x W (h : NumsAt W 0 X m G) => Shifted_any X m x G q W (by omega) h)
  have HSN := hide (fun X x W (h : NumsAt W 0 X n F) => Shifted_any X n x F q W (by omega) h)
  have HOF := hide (fun X x Y y W (h : NumsAt W 0 X n F) (k : NumsAt W 0 Y m G) => OffsetOf_any X Y n x m y F G W (by omega) (by omega) h k)
  have HOS := hide (fun X x Y y W (h : NumsAt W 0 X n F) (k : NumsAt W 0 Y n (shiftN F q)) => OffsetOf_any X Y n x n y F (shiftN F q) W (by omega) (by omega) h k)
  have HSE := hide (fun W (h : NumsAt W 0 B m G) => samplesErrR_any B m d G W (by omega) h)
  have HEI := hide (fun W => eighthsErr_any q W)
  have HSR := hide (fun W (hq : 0 ≤ q ∧ q ≤ 7) (h : NumsAt W 0 B m G) (k : ∀ j, j < m → (G j).Within 4611686018427387904) => shiftedR_any B m d G q W (by omega) hq h k)
  have HSA := hide (fun X x Y y W (h : NumsAt W 0 X m (shiftN G q)) (k : NumsAt W 0 Y m (shiftN G q)) => same_alike X Y m x y (shiftN G q) (shiftN G q) W (by omega) h k (fun _ _ => rfl))
  have HKE := hide (fun W (h : NumsAt W 0 A n F) (k : NumsAt W 0 B m G) => knownErrR_any A B n c m d F G W h k)
  have HKN := hide (fun W (h : NumsAt W 0 A n F) => knownErrR_any A A n c n c F F W h h)
  have HSZ := hide (shiftE_zero (n := m) (F := G) (q := q))
  have HS2 := hide (shiftE_two m G q)
  have HOZ := hide (offE_zero (n := n) (m := m) (F := F) (G := G))
  have HOW := hide (offR_wrong (n := n) (m := m) (F := F) (G := G))
  have HOR := hide (fun W (h : offE n n F G = 0) (h1 : NumsAt W 0 A n F) (h2 : NumsAt W 0 B n G) => offsetOfR_same A B n c d F G W h h1 h2)
  have HN2 := hide (fun (hq : 0 ≤ q ∧ q ≤ 7) (h : offE n n F F = 0) => shiftE_right hq h)
  have HN3 := hide (fun (h : offE n n F F = 0) => offE_shift (e := q) h)
  have HN4 := hide (fun (hn : 2 ≤ n) (hq : 0 ≤ q ∧ q ≤ 7) (h0 : F 0 ≠ Num.zero) (h1 : F 1 ≠ Num.zero) (h : offE n n F F = 0) => offR_shift (e := q) hn hq h0 h1 (offE_shift h))
  go_enter Try.func3, Try.ntmps3
  go_wp2_with fail
  refine (HAW.out _).mono ?_
  rintro e w1 ⟨rfl, hB1⟩
  clear HAW
  go_wp2_with fail
  refine (HCM.out _ (HJ.out.below hB1)).mono ?_
  rintro e w2 ⟨v2, rfl, ho2, hb2⟩
  obtain ⟨X2, x2, rfl, -, hX2⟩ := ownNums_form ho2
  have hB2 := hB1.trans (hb2.mono hB1.size)
  have HX2 := hide (hX2.weak (Nat.zero_le _))
  clear ho2 hX2 hb2 hB1
  go_wp2_with fail
  refine (HSH.out _ _ _ HX2.out).mono ?_
  rintro e w3 ⟨v3, rfl, hg3, hb3⟩
  have hB3 := hB2.trans (hb3.mono hB2.size)
  have HG3 := hide hg3.got
  obtain ⟨V, hV⟩ : ∃ z, z = shiftE m G q := ⟨_, rfl⟩
  rw [← hV] at HG3 HS2 HSZ ⊢
  clear hg3 hb3 hB2 HX2 HSH
  have HV := hide hV
  clear hV
  go_wp2_with fail
  refine (HCN.out _ (HI.out.below hB3)).mono ?_
  rintro e w4 ⟨v4, rfl, ho4, hb4⟩
  obtain ⟨X4, x4, rfl, -, hX4⟩ := ownNums_form ho4
  have hB4 := hB3.trans (hb4.mono hB3.size)
  have HG4 := hide (HG3.out.below hb4)
  have HX4 := hide (hX4.weak (Nat.zero_le _))
  clear ho4 hX4 hb4 hB3 HG3
  go_wp2_with fail
  refine (HCM.out _ (HJ.out.below hB4)).mono ?_
  rintro e w5 ⟨v5, rfl, ho5, hb5⟩
  obtain ⟨X5, x5, rfl, -, hX5⟩ := ownNums_form ho5
  have hB5 := hB4.trans (hb5.mono hB4.size)
  have HG5 := hide (HG4.out.below hb5)
  have HX5 := hide (hX5.weak (Nat.zero_le _))
  have HX4' := hide (HX4.out.below hb5)
  clear ho5 hX5 hb5 hB4 HG4 HX4 HCM
  go_wp2_with fail
  refine (HOF.out _ _ _ _ _ HX4'.out HX5.out).mono ?_
  rintro e w6 ⟨rfl, hb6⟩
  have hB6 := hB5.trans (hb6.mono hB5.size)
  have HG6 := hide (HG5.out.below hb6)
  obtain ⟨E, hE⟩ : ∃ z, z = offE n m F G := ⟨_, rfl⟩
  obtain ⟨R, hR⟩ : ∃ z, z = offR n m F G := ⟨_, rfl⟩
  rw [← hE] at HKE HOZ HOW ⊢
  rw [← hR] at HOW ⊢
  have HE := hide hE
  have HR := hide hR
  clear hE hR hb6 hB5 HG5 HX4' HX5 HOF
  go_wp2_with fail
  refine (HSE.out _ (HJ.out.below hB6)).mono ?_
  rintro e w7 ⟨rfl, hb7⟩
  have hB7 := hB6.trans (hb7.mono hB6.size)
  have HG7 := hide (HG6.out.below hb7)
  clear hb7 hB6 HG6 HSE
  generalize sampE m G = s at *
  go_upto_if 45 with fail
  go_cut [11] (fun s wx => s = .int .i64 V ∧ Below w7.heap.size w7 wx)
  case first =>
    by_cases hb : s = 0
    · have ts : (s == 0) = true := by simpa using hb
      have HVV := hide (show unI (withinB q 0 7) 2 = V by rw [← HS2.out, if_pos hb])
      clear hb
      go_wp2_with (go_at_call 12; refine (HEI.out _).mono ?_; rintro e w' ⟨rfl, rfl⟩)
      go_meet
      case rel => exact ⟨by rw [HVV.out], Below.refl _ _⟩
    · have ts : (s == 0) = false := by simpa using hb
      have HVV := hide (show s = V by rw [← HS2.out, if_neg hb])
      clear hb
      go_wp2_with fail
      go_meet
      case rel => exact ⟨by rw [HVV.out], Below.refl _ _⟩
  case rest =>
    obtain ⟨rfl, hb8⟩ := hcut
    obtain ⟨w8, rfl⟩ : ∃ x : World, x = wc := ⟨_, rfl⟩
    have hB8 := hB7.trans (hb8.mono hB7.size)
    have HG8 := hide (HG7.out.below hb8)
    clear hb8 hB7 HG7 HS2
    go_upto_region 10 with fail
    go_cut [75] (fun s wx => s = .bool false ∧ Below w8.heap.size w8 wx)
    case first =>
      rcases HG8.out with ⟨hv, X, x, rfl, hX⟩ | ⟨hv, X, x, rfl⟩
      · obtain ⟨-, hGW, hq⟩ := HSZ.out hv
        have HRR := hide (HSR.out w8 hq (HJ.out.below hB8) (fun j hj => (hGW j hj).more (by decide)))
        have HXX := hide hX
        subst hv
        clear hX hq hGW HSZ HSR HG8
        go_wp2_with fail
        refine HRR.out.mono ?_
        rintro e w9 ⟨v9, rfl, ho9, hb9⟩
        obtain ⟨X9, x9, rfl, -, hX9⟩ := ownNums_form ho9
        have HX9 := hide (hX9.weak (Nat.zero_le _))
        have HXX9 := hide (HXX.out.below hb9)
        clear ho9 hX9 HRR HXX
        go_wp2_with fail
        refine (HSA.out _ _ _ _ _ HXX9.out HX9.out).mono ?_
        rintro e w10 ⟨rfl, hb10⟩
        go_wp2_with fail
        go_meet
        case rel => exact ⟨rfl, hb9.trans (hb10.mono hb9.size)⟩
      · have t1 : (V != 0) = true := by simpa using hv
        have t2 : (V != V) = false := by simp
        have t3 : (V == 0) = false := by simpa using hv
        clear hv
        go_wp2_with fail
        go_meet
        case rel => exact ⟨rfl, Below.refl _ _⟩
    case rest =>
      obtain ⟨rfl, hb9⟩ := hcut
      obtain ⟨w9, rfl⟩ : ∃ x : World, x = wc := ⟨_, rfl⟩
      have hB9 := hB8.trans (hb9.mono hB8.size)
      clear hb9 hB8 HG8 HSR HSA HSZ
      go_wp2_with fail
      refine (HKE.out _ (HI.out.below hB9) (HJ.out.below hB9)).mono ?_
      rintro e w10 ⟨rfl, hb10⟩
      have hB10 := hB9.trans (hb10.mono hB9.size)
      clear hb10 hB9 HKE
      go_upto_region 13 with fail
      go_cut [104] (fun s wx => s = .bool false ∧ Below w10.heap.size w10 wx)
      case first =>
        by_cases hE0 : E = 0
        · obtain ⟨h0, rfl, -⟩ := HOZ.out hE0
          have HRR := hide (HOR.out w10 (HE.out.symm.trans hE0) (HI.out.below hB10) (HJ.out.below hB10))
          rw [← HR.out] at HRR
          have t1 : (R != R) = false := by simp
          subst hE0
          clear HOR HOZ HOW h0
          go_wp2_with fail
          refine HRR.out.mono ?_
          rintro e w11 ⟨rfl, hb11⟩
          go_wp2_with fail
          go_meet
          case rel => exact ⟨rfl, hb11⟩
        · have t1 : (E != 0) = true := by simpa using hE0
          have t2 : (E != E) = false := by simp
          have t3 : (E == 0) = false := by simpa using hE0
          have hR0 := HOW.out hE0
          clear HE HR HOW HOR HOZ
          subst hR0
          clear hE0
          go_wp2_with fail
          go_meet
          case rel => exact ⟨rfl, Below.refl _ _⟩
      case rest =>
        obtain ⟨rfl, hb11⟩ := hcut
        obtain ⟨w11, rfl⟩ : ∃ x : World, x = wc := ⟨_, rfl⟩
        have hB11 := hB10.trans (hb11.mono hB10.size)
        clear hb11 hB10 HOR HOZ HOW HE HR
        by_cases hq : 0 ≤ q ∧ q ≤ 7
        case neg =>
          have hw : withinB q 0 7 = false := by
            cases h : withinB q 0 7
            · rfl
            · exact absurd (withinB_iff.1 h) hq
          rw [hw] at HEI
          replace HEI : Hid (∀ W, Calls Try.prog 12 #[.int .i64 q] W fun e w' => e = .returned (.int .i64 2) ∧ W = w') := HEI
          clear hq hw
          go_wp2_with (go_at_call 12; refine (HEI.out _).mono ?_; rintro e w' ⟨rfl, rfl⟩)
          go_ret
          exact ⟨rfl, hB11⟩
        rw [withinB_iff.2 hq] at HEI
        replace HEI : Hid (∀ W, Calls Try.prog 12 #[.int .i64 q] W fun e w' => e = .returned (.int .i64 0) ∧ W = w') := HEI
        by_cases hn2 : n < 2
        · have t1 : (n : Int) < 2 := by omega
          clear hq hn2
          go_wp2_with (go_at_call 12; refine (HEI.out _).mono ?_; rintro e w' ⟨rfl, rfl⟩)
          go_ret
          exact ⟨rfl, hB11⟩
        have t1 : ¬ (n : Int) < 2 := by omega
        obtain ⟨K, hK⟩ : ∃ z, z = offE n n F F := ⟨_, rfl⟩
        rw [← hK] at HKN
        have HK := hide hK
        clear hK
        by_cases hK0 : K = 0
        case neg =>
          have t2 : (K != 0) = true := by simpa using hK0
          clear hq hn2 hK0
          go_wp2_with (go_at_call 12; refine (HEI.out _).mono ?_; rintro e w' ⟨rfl, rfl⟩)
          refine (HKN.out _ (HI.out.below hB11)).mono ?_
          rintro e w12 ⟨rfl, hb12⟩
          go_wp2_with fail
          go_ret
          exact ⟨rfl, hB11.trans (hb12.mono hB11.size)⟩
        subst hK0
        have HB11 := hide hB11
        have hn2' : 2 ≤ n := by omega
        obtain ⟨b, o, rfl, -, hb, c0, c1, c2, c3⟩ := HI.out 0 (by omega)
        obtain ⟨b', o', e', -, hb', d0, d1, d2, d3⟩ := HI.out 1 (by omega)
        injection e' with e'
        injection e' with e1 e2
        subst e1
        subst e2
        have HN5 := hide (fun h0 h1 => HN4.out hn2' hq h0 h1 HK.out.symm)
        have HN6 := hide (HN2.out hq HK.out.symm)
        have HN7 := hide (HN3.out HK.out.symm)
        clear HN2 HN3 HN4
        have HX0 := hide (fun h => num_zero (x := F 0) h)
        have HX1 := hide (fun h => num_zero (x := F 1) h)
        have HZ0 := hide (fun (h : F 0 = Num.zero) => (⟨by rw [h]; rfl, by rw [h]; rfl, by rw [h]; rfl, by rw [h]; rfl⟩ : (F 0).a = 0 ∧ (F 0).b = 0 ∧ (F 0).c = 0 ∧ (F 0).d = 0))
        have HZ1 := hide (fun (h : F 1 = Num.zero) => (⟨by rw [h]; rfl, by rw [h]; rfl, by rw [h]; rfl, by rw [h]; rfl⟩ : (F 1).a = 0 ∧ (F 1).b = 0 ∧ (F 1).c = 0 ∧ (F 1).d = 0))
        simp only [Nat.zero_mul, Nat.one_mul, Nat.add_zero] at c0 c1 c2 c3 d0 d1 d2 d3
        have CL := hide (fun W' (h : Below w.heap.size w W') => (⟨(h.cell (p := ⟨b, o, none⟩) hb).trans c0, (h.cell (p := ⟨b, o + 1, none⟩) hb).trans c1, (h.cell (p := ⟨b, o + 2, none⟩) hb).trans c2, (h.cell (p := ⟨b, o + 3, none⟩) hb).trans c3, (h.cell (p := ⟨b, o + 4, none⟩) hb).trans d0, (h.cell (p := ⟨b, o + 4 + 1, none⟩) hb).trans d1, (h.cell (p := ⟨b, o + 4 + 2, none⟩) hb).trans d2, (h.cell (p := ⟨b, o + 4 + 3, none⟩) hb).trans d3⟩ :
          W'.cell? ⟨b, o, none⟩ = some (.int .i64 (F 0).a) ∧ W'.cell? ⟨b, o + 1, none⟩ = some (.int .i64 (F 0).b) ∧ W'.cell? ⟨b, o + 2, none⟩ = some (.int .i64 (F 0).c) ∧ W'.cell? ⟨b, o + 3, none⟩ = some (.int .i64 (F 0).d) ∧ W'.cell? ⟨b, o + 4, none⟩ = some (.int .i64 (F 1).a) ∧ W'.cell? ⟨b, o + 4 + 1, none⟩ = some (.int .i64 (F 1).b) ∧ W'.cell? ⟨b, o + 4 + 2, none⟩ = some (.int .i64 (F 1).c) ∧ W'.cell? ⟨b, o + 4 + 3, none⟩ = some (.int .i64 (F 1).d)))
        clear c0 c1 c2 c3 d0 d1 d2 d3 hb hb' hn2 hB11
        have HQ := hide hq
        clear hq
        have hn1 : 1 < (n : Int) := by omega
        have hn0 : 0 < (n : Int) := by omega
        generalize F 0 = x at *
        generalize F 1 = y at *
        obtain ⟨xa, xb, xc, xd⟩ := x
        obtain ⟨ya, yb, yc, yd⟩ := y
        by_cases hx : (⟨xa, xb, xc, xd⟩ : Num) = Num.zero
        · obtain ⟨z0, z1, z2, z3⟩ := HZ0.out hx
          simp only at z0 z1 z2 z3
          subst z0
          subst z1
          subst z2
          subst z3
          clear hx HX0 HX1 HZ0 HZ1 HN5
          go_wp2_with (go_at_call 12; refine (HEI.out _).mono ?_; rintro e w' ⟨rfl, rfl⟩)
          refine (HKN.out _ (HI.out.below HB11.out)).mono ?_
          rintro e w12 ⟨rfl, hb12⟩
          have hB12 := HB11.out.trans (hb12.mono HB11.out.size)
          obtain ⟨c0, c1, c2, c3, d0, d1, d2, d3⟩ := CL.out _ hB12
          go_wp2_with fail
          go_ret
          exact ⟨rfl, hB12⟩
        have hx4 := nonzero4 (HX0.out hx)
        simp only at hx4
        by_cases hy : (⟨ya, yb, yc, yd⟩ : Num) = Num.zero
        · obtain ⟨z0, z1, z2, z3⟩ := HZ1.out hy
          simp only at z0 z1 z2 z3
          subst z0
          subst z1
          subst z2
          subst z3
          clear hx hy HX0 HX1 HZ0 HZ1 HN5
          have HX4 := hide hx4
          clear hx4
          go_wp2_with (go_at_call 12; refine (HEI.out _).mono ?_; rintro e w' ⟨rfl, rfl⟩)
          refine (HKN.out _ (HI.out.below HB11.out)).mono ?_
          rintro e w12 ⟨rfl, hb12⟩
          have hB12 := HB11.out.trans (hb12.mono HB11.out.size)
          obtain ⟨c0, c1, c2, c3, d0, d1, d2, d3⟩ := CL.out _ hB12
          have HB12 := hide hB12
          clear hb12 hB12 HB11 CL HKN HEI HI HQ HK HJ HV HSN HOS HCN
          go_wp2_with fail
          all_goals (go_ret; exact ⟨rfl, HB12.out⟩)
        have hy4 := nonzero4 (HX1.out hy)
        simp only at hy4
        have HN8 := hide (HN5.out hx hy)
        clear hx hy HX0 HX1 HZ0 HZ1 HN5
        go_upto_region 15 with fail
        go_cut [132] (fun s wx => s = .bool false ∧ Below w11.heap.size w11 wx)
        case first =>
          clear HN8 HN7 HN6 HSN HOS HCN
          have HT1 := hide (show ¬ (n : Int) < 2 by omega)
          have HX4 := hide hx4
          have HY4 := hide hy4
          clear hx4 hy4
          go_wp2_with (go_at_call 12; refine (HEI.out _).mono ?_; rintro e w' ⟨rfl, rfl⟩)
          refine (HKN.out _ (HI.out.below HB11.out)).mono ?_
          rintro e w12 ⟨rfl, hb12⟩
          have hB12 := HB11.out.trans (hb12.mono HB11.out.size)
          obtain ⟨c0, c1, c2, c3, d0, d1, d2, d3⟩ := CL.out _ hB12
          have HB12 := hide hb12
          clear hb12 hB12 HB11 CL HKN HEI HI HQ HK HJ HV
          go_wp2_with fail
          all_goals first
            | (exfalso; have h1 := HX4.out; have h2 := HY4.out; omega)
            | skip
          all_goals (go_meet; case rel => exact ⟨congrArg Value.bool (decide_eq_false (by have := HT1.out; omega)), HB12.out⟩)
        case rest =>
          obtain ⟨rfl, hb12⟩ := hcut
          obtain ⟨w12, rfl⟩ : ∃ x : World, x = wc := ⟨_, rfl⟩
          have hB12 := HB11.out.trans (hb12.mono HB11.out.size)
          clear hb12 HB11 HKN HEI CL hx4 hy4
          go_wp2_with fail
          refine (HCN.out _ (HI.out.below hB12)).mono ?_
          rintro e w13 ⟨v13, rfl, ho13, hb13⟩
          obtain ⟨X13, x13, rfl, -, hX13⟩ := ownNums_form ho13
          have hB13 := hB12.trans (hb13.mono hB12.size)
          have HX13 := hide (hX13.weak (Nat.zero_le _))
          clear ho13 hX13 hb13 hB12
          go_wp2_with fail
          refine (HSN.out _ _ _ HX13.out).mono ?_
          rintro e w14 ⟨v14, rfl, hg14, hb14⟩
          have hB14 := hB13.trans (hb14.mono hB13.size)
          have HG14 := hide hg14.got
          rw [HN6.out] at HG14 ⊢
          obtain ⟨X14, x14, rfl, hX14⟩ : ∃ X x, v14 = .slice X n x ∧ NumsAt w14 0 X n (shiftN F q) := by
            rcases HG14.out with ⟨-, h⟩ | ⟨h, -⟩
            · exact h
            · exact absurd rfl h
          have HX14 := hide hX14
          clear hg14 HG14 hX14 hb14 hB13 HX13 HSN
          go_wp2_with fail
          refine (HCN.out _ (HI.out.below hB14)).mono ?_
          rintro e w15 ⟨v15, rfl, ho15, hb15⟩
          obtain ⟨X15, x15, rfl, -, hX15⟩ := ownNums_form ho15
          have hB15 := hB14.trans (hb15.mono hB14.size)
          have HX15 := hide (hX15.weak (Nat.zero_le _))
          have HX14' := hide (HX14.out.below hb15)
          clear ho15 hX15 hb15 hB14 HX14
          go_wp2_with fail
          refine (HOS.out _ _ _ _ _ HX15.out HX14'.out).mono ?_
          rintro e w16 ⟨rfl, hb16⟩
          have hB16 := hB15.trans (hb16.mono hB15.size)
          rw [HN8.out, HN7.out]
          have t9 : (q == q) = true := by simp
          clear hb16 hB15 HX15 HX14' HOS
          go_wp2_with fail
          go_ret
          exact ⟨rfl, hB16⟩
end Go.Proofs.Ytmcgmlhpbpjmgaa
