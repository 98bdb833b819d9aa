/- cancel and Decode of the reference. -/
import Derived.Test.YtjelbemfljobaaaLe
import Derived.Test.YtjelbemfljobaaaJd
namespace Go.Proofs.Ytjelbemfljobaaa
open Go.RowKit Go.Shelf
/-- A new row of one number. -/
theorem OwnInts.lit1 (w : World) (base g : Nat) (x : Int) (F : Nat → Int) (hb : base ≤ w.heap.size) (hg : g = w.heap.size) (hF : F 0 = x) : OwnInts (w.alloc (.cells #[.int .i64 x] 3)) base (.slice (some ⟨g, 0, none⟩) 1 1) 1 F :=
  hg ▸ ⟨by simp [intCells], .inr ⟨w.heap.size, 1, #[.int .i64 x], rfl, hb, heap_alloc_new w _, Nat.le_refl _, by decide, rfl, by simp [intCells, hF]⟩⟩
theorem far_raw {v a b : Int} (hv : IsBit v) (ha : -1000000000000 ≤ a ∧ a ≤ 1000000000000) (hb : -1000000000000 ≤ b ∧ b ≤ 1000000000000) : IntKind.i64.wrap (b + IntKind.i64.wrap (IntKind.i64.wrap (1 - IntKind.i64.wrap (2 * v)) * a)) = farF v a b := by
  rcases hv with rfl | rfl
  · rw [show IntKind.i64.wrap (1 - IntKind.i64.wrap (2 * 0)) = 1 from by decide, Int.one_mul, IntWalk.i64_in a (by omega), IntWalk.i64_in _ (by omega)]
    exact (if_neg (by decide)).symm
  · rw [show IntKind.i64.wrap (1 - IntKind.i64.wrap (2 * 1)) = -1 from by decide, IntWalk.i64_in (-1 * a) (by omega), IntWalk.i64_in _ (by omega)]
    rw [show b + -1 * a = b - a by omega]
    exact (if_pos rfl).symm
/-- The contract of the reference's cancel at 2 to the power k soft bits of size M at most. -/
def CancelRSaid (k : Nat) : Prop := ∀ (p : Int) (A C : Option Addr) (n c f N d : Nat) (M : Int) (F S : Nat → Int) (w : World), n ≤ 1000 → f + N ≤ 2000 → N = 2 ^ k → M * 2 ^ k ≤ 1000000000000 → (∀ j, j < N → -M ≤ S j ∧ S j ≤ M) →
  IntsAt w 0 A n F → IntsAt w 0 C N S →
  Calls Try.prog 112 #[.agg #[.int .i64 p, .slice A n c], .int .i64 (f : Int), .slice C N d] w fun e w' => ∃ v, e = .returned v ∧ OwnInts w' w.heap.size v N (cancelF k (fun x => isPos F (f + x) n) S) ∧ Below w.heap.size w w'
set_option maxHeartbeats 4000000 in
set_option maxRecDepth 100000 in
theorem cancelR_zero : CancelRSaid 0 := by
  intro p A C n c f N d M F S w hn hf hN hM hS9 hI hS
  obtain rfl : N = 1 := by rw [hN]
  obtain ⟨b, o, rfl, -, hb, hcell⟩ := hS 0 (by omega)
  rw [Nat.add_zero] at hcell
  have HI := hide hI
  clear hI hS hS9 hM hN
  cases hi : isPos F f n
  · have EQ := hide (show ∀ j, cancelF 0 (fun x => isPos F (f + x) n) S j = 0 from fun j => by unfold cancelF; rw [if_neg (fun h => absurd (show isPos F (f + 0) n = true from h.1) (by rw [Nat.add_zero, hi]; simp))])
    have HP := hide (fun W hW => has_any A n c f F W (by omega) hW)
    rw [hi] at HP
    clear hi
    go_enter Try.func112, Try.ntmps112
    go_wp2_with fail
    refine (HP.out _ (HI.out.alloc _)).mono ?_
    rintro e w1 ⟨rfl, rfl⟩
    go_wp2_with fail
    go_ret
    exact ⟨_, rfl, (OwnInts.lit1 (w.alloc (.cells #[.int .i64 p, .slice A n c] 26)) w.heap.size _ 0 _ (by simp) (by simp) (EQ.out 0)), by (repeat (first | (with_reducible exact Below.refl _ _) | (with_reducible refine below_drewN ?_ _) | (with_reducible refine Below.drew ?_) | (with_reducible refine Below.alloc ?_ (by first | exact Nat.le_refl _ | (simp; done) | (simp; omega) | omega) _) | (with_reducible refine Below.setCell ?_ (by first | exact Nat.le_refl _ | (simp; done) | (simp; omega) | omega) _)))⟩
  · have HP := hide (fun W hW => has_any A n c f F W (by omega) hW)
    rw [hi] at HP
    by_cases hn0 : S 0 < 0
    · have EQ := hide (show ∀ j, cancelF 0 (fun x => isPos F (f + x) n) S j = 1 from fun j => by unfold cancelF; rw [if_pos ⟨show isPos F (f + 0) n = true by rw [Nat.add_zero]; exact hi, hn0⟩])
      have t1 : decide (S 0 < 0) = true := by simpa using hn0
      clear hi hn0
      go_enter Try.func112, Try.ntmps112
      go_wp2_with fail
      refine (HP.out _ (HI.out.alloc _)).mono ?_
      rintro e w1 ⟨rfl, rfl⟩
      have hc1 := (Below.cell ((Below.refl w.heap.size w).alloc (Nat.le_refl _) (.cells #[.int .i64 p, .slice A n c] 26)) (p := ⟨b, o, none⟩) hb).trans hcell
      go_wp2_with fail
      go_ret
      exact ⟨_, rfl, (OwnInts.lit1 (w.alloc (.cells #[.int .i64 p, .slice A n c] 26)) w.heap.size _ 1 _ (by simp) (by simp) (EQ.out 0)), by (repeat (first | (with_reducible exact Below.refl _ _) | (with_reducible refine below_drewN ?_ _) | (with_reducible refine Below.drew ?_) | (with_reducible refine Below.alloc ?_ (by first | exact Nat.le_refl _ | (simp; done) | (simp; omega) | omega) _) | (with_reducible refine Below.setCell ?_ (by first | exact Nat.le_refl _ | (simp; done) | (simp; omega) | omega) _)))⟩
    · have EQ := hide (show ∀ j, cancelF 0 (fun x => isPos F (f + x) n) S j = 0 from fun j => by unfold cancelF; rw [if_neg (fun h => hn0 h.2)])
      have t1 : decide (S 0 < 0) = false := by simpa using hn0
      clear hi hn0
      go_enter Try.func112, Try.ntmps112
      go_wp2_with fail
      refine (HP.out _ (HI.out.alloc _)).mono ?_
      rintro e w1 ⟨rfl, rfl⟩
      have hc1 := (Below.cell ((Below.refl w.heap.size w).alloc (Nat.le_refl _) (.cells #[.int .i64 p, .slice A n c] 26)) (p := ⟨b, o, none⟩) hb).trans hcell
      go_wp2_with fail
      go_ret
      exact ⟨_, rfl, (OwnInts.lit1 (w.alloc (.cells #[.int .i64 p, .slice A n c] 26)) w.heap.size _ 0 _ (by simp) (by simp) (EQ.out 0)), by (repeat (first | (with_reducible exact Below.refl _ _) | (with_reducible refine below_drewN ?_ _) | (with_reducible refine Below.drew ?_) | (with_reducible refine Below.alloc ?_ (by first | exact Nat.le_refl _ | (simp; done) | (simp; omega) | omega) _) | (with_reducible refine Below.setCell ?_ (by first | exact Nat.le_refl _ | (simp; done) | (simp; omega) | omega) _)))⟩

theorem cancelR_zero' : CancelRSaid 0 := cancelR_zero
set_option maxHeartbeats 8000000 in
set_option maxRecDepth 100000 in
theorem cancelR_step (k : Nat) (hk : k ≤ 8) (ih : CancelRSaid k) : CancelRSaid (k + 1) := by
  intro p A C n c f n2 d M F S w hn hf hn2 hM hS9 hI hS
  obtain ⟨N, hN⟩ : ∃ N, N = 2 ^ k := ⟨_, rfl⟩
  have hnN : n2 = N + N := by rw [hn2, Nat.pow_succ, ← hN]; omega
  have hN1 : 1 ≤ N := by rw [hN]; exact Nat.two_pow_pos k
  have hN9 : N ≤ 256 := by rw [hN]; exact Nat.pow_le_pow_right (by decide) hk
  subst hnN
  have IH := hide ih
  have HN := hide hN
  have hdiv : ((N + N : Nat) : Int) / 2 = (N : Int) := by omega
  have hne1 : (((N + N : Nat) : Int) == 1) = false := by simp; omega
  obtain ⟨n2, hn2'⟩ : ∃ n2, n2 = N + N := ⟨_, rfl⟩
  rw [← hn2'] at hdiv hne1 hf hn2 hS9 hS ⊢
  have HnN := hide hn2'
  have hM0 : 0 ≤ M := by have := hS9 0 (by omega); omega
  have hM9 : M ≤ 1000000000000 := by
    have h1 : 1 ≤ (2 : Int) ^ (k + 1) := by
      have : ((2 ^ (k + 1) : Nat) : Int) = (2 : Int) ^ (k + 1) := by simp
      have := Nat.two_pow_pos (k + 1)
      omega
    have := Int.mul_le_mul_of_nonneg_left h1 hM0
    omega
  have h2k : M * 2 ^ k ≤ 1000000000000 := by
    have e : M * 2 ^ (k + 1) = 2 * (M * 2 ^ k) := by rw [Int.pow_succ, ← Int.mul_assoc]; omega
    have h0 : 0 ≤ M * 2 ^ k := Int.mul_nonneg hM0 (Int.le_of_lt (Int.pow_pos (by decide)))
    omega
  have h2k2 : 2 * M * 2 ^ k ≤ 1000000000000 := by rw [Int.pow_succ, ← Int.mul_assoc] at hM; rw [Int.mul_assoc]; omega
  have HI := hide hI
  have HS := hide hS
  have HS9 := hide hS9
  have HM1 := hide h2k
  have HM2 := hide h2k2
  clear hn2' ih hN hI hS hS9 hM h2k h2k2 hn2
  go_enter Try.func112, Try.ntmps112
  go_wp2_with fail
  go_loopw [8, 9] (fun x i wr => ∃ j : Nat, j ≤ N ∧ i = .int .i64 j ∧ OwnInts wr (w.heap.size + 1) x j (fun x => lesserI (S x) (S (N + x))) ∧ Below (w.heap.size + 1) (w.alloc (.cells #[.int .i64 p, .slice A n c] 26)) wr) (fun _ i _ => N - (intOf i).toNat)
  case atStart => exact ⟨0, Nat.zero_le _, rfl, OwnInts.nil_ _ _ _, Below.refl _ _⟩
  case round =>
    obtain ⟨j, hj, rfl, hown, hB⟩ := hrel
    obtain ⟨As, cs, rfl, hcs, hIs⟩ := hown.form
    have hBs := hB.size
    have hBs' : w.heap.size + 1 ≤ wr.heap.size := by simpa using hBs
    have hB' : Below w.heap.size w wr := ((Below.refl _ _).alloc (Nat.le_refl _) _).trans (hB.mono (by omega))
    by_cases hlt : j < N
    · have hltz : (j : Int) < (N : Int) := by omega
      have hS1 := HS.out.below hB'
      obtain ⟨b1, o1, rfl, -, hb1, hx1⟩ := hS1 j (by have := HnN.out; omega)
      obtain ⟨b2, o2, e1, -, hb2, hx2⟩ := hS1 (N + j) (by have := HnN.out; omega)
      injection e1 with e1; injection e1 with e1 e2; subst e1; subst e2
      have hl1 := HS9.out j (by have := HnN.out; omega)
      have hl2 := HS9.out (N + j) (by have := HnN.out; omega)
      have hNj : N + j < n2 := by have := HnN.out; omega
      have hjn : j < n2 := by have := HnN.out; omega
      have hNjz : (N : Int) + (j : Int) < (n2 : Int) := by omega
      have hjz : (j : Int) < (n2 : Int) := by omega
      have q0 : IntKind.i64.wrap ((N : Int) + (j : Int)) = ((N + j : Nat) : Int) := by rw [IntWalk.i64_in _ (by omega)]; simp
      have HL := hide (sign_lesser (S j) (S (N + j)))
      have HM := hide (sign_mul_le (S j) (S (N + j)))
      have HL9 := hide (lesserI_le hl1 hl2)
      have hl3 : -M ≤ lesserI (S j) (S (N + j)) ∧ lesserI (S j) (S (N + j)) ≤ M := lesserI_le hl1 hl2
      have qs : IntKind.i64.wrap (signI (S j) * signI (S (N + j))) = signI (S j) * signI (S (N + j)) := IntWalk.i64_in _ (by have := HM.out; omega)
      have HZ1 := hide (fun W => size_any (S j) W (by omega) (by omega))
      have HZ2 := hide (fun W => size_any (S (N + j)) W (by omega) (by omega))
      have HS1 := hide (fun W => sign_any (S j) W)
      have HS2 := hide (fun W => sign_any (S (N + j)) W)
      clear hS1
      rcases Int.lt_or_le (sizeI (S (N + j))) (sizeI (S j)) with hle | hle
      · have t1 : decide (sizeI (S (N + j)) < sizeI (S j)) = true := by simpa using hle
        have q1 : IntKind.i64.wrap (signI (S j) * signI (S (N + j)) * sizeI (S (N + j))) = lesserI (S j) (S (N + j)) := by rw [show signI (S j) * signI (S (N + j)) * sizeI (S (N + j)) = lesserI (S j) (S (N + j)) from by rw [← HL.out, Int.min_def]; split <;> first | rfl | (exfalso; omega) | (rw [show sizeI (S j) = sizeI (S (N + j)) by omega])]; exact IntWalk.i64_in _ (by omega)
        obtain ⟨V, hV⟩ : ∃ V, V = lesserI (S j) (S (N + j)) := ⟨_, rfl⟩
        rw [← hV] at q1
        have HV := hide (fun (x : Nat) (hx : x = j) => (by rw [hx]; exact hV : V = lesserI (S x) (S (N + x))))
        clear hV
        generalize S (N + j) = b at *
        generalize S j = a at *
        go_wp2_with fail
        go_quiet (fail)
        go_wp2_with fail
        refine (HS1.out _).mono ?_
        rintro e w' ⟨rfl, rfl⟩
        go_wp2_with fail
        refine (HS2.out _).mono ?_
        rintro e w' ⟨rfl, rfl⟩
        go_wp2_with fail
        refine (HZ1.out _).mono ?_
        rintro e w' ⟨rfl, rfl⟩
        go_wp2_with fail
        refine (HZ2.out _).mono ?_
        rintro e w' ⟨rfl, rfl⟩
        generalize signI a * signI b = s at *
        go_wp2_with (at_builtin; refine (wpList_append_ints _ rfl (.tmp 49) (.tmp 61) rfl (w.heap.size + 1) 0 (.slice As j cs) j _ rfl ((hown.drewN _).alloc _) (some ⟨_, 0, none⟩) 1 1 (fun _ => V) rfl (IntsAt.one _ 0 V 3 (Nat.zero_le _)) (by omega) (by simp; omega) ?_); intro v' w' h1 hb2)
        refine ⟨⟨j + 1, by omega, by simp, h1.congr (fun x hx => ?_), (((below_drewN hB nq).alloc hBs' _).trans hb2)⟩, by simp [intOf]; omega⟩
        unfold catF
        by_cases e : x < j
        · rw [if_pos e]
        · rw [if_neg e]; exact HV.out x (by omega)
      · have t1 : decide (sizeI (S (N + j)) < sizeI (S j)) = false := by simpa using hle
        have q1 : IntKind.i64.wrap (signI (S j) * signI (S (N + j)) * sizeI (S j)) = lesserI (S j) (S (N + j)) := by rw [show signI (S j) * signI (S (N + j)) * sizeI (S j) = lesserI (S j) (S (N + j)) from by rw [← HL.out, Int.min_def]; split <;> first | rfl | (exfalso; omega) | (rw [show sizeI (S j) = sizeI (S (N + j)) by omega])]; exact IntWalk.i64_in _ (by omega)
        obtain ⟨V, hV⟩ : ∃ V, V = lesserI (S j) (S (N + j)) := ⟨_, rfl⟩
        rw [← hV] at q1
        have HV := hide (fun (x : Nat) (hx : x = j) => (by rw [hx]; exact hV : V = lesserI (S x) (S (N + x))))
        clear hV
        generalize S (N + j) = b at *
        generalize S j = a at *
        go_wp2_with fail
        go_quiet (fail)
        go_wp2_with fail
        refine (HS1.out _).mono ?_
        rintro e w' ⟨rfl, rfl⟩
        go_wp2_with fail
        refine (HS2.out _).mono ?_
        rintro e w' ⟨rfl, rfl⟩
        go_wp2_with fail
        refine (HZ1.out _).mono ?_
        rintro e w' ⟨rfl, rfl⟩
        go_wp2_with fail
        refine (HZ2.out _).mono ?_
        rintro e w' ⟨rfl, rfl⟩
        generalize signI a * signI b = s at *
        go_wp2_with (at_builtin; refine (wpList_append_ints _ rfl (.tmp 49) (.tmp 61) rfl (w.heap.size + 1) 0 (.slice As j cs) j _ rfl ((hown.drewN _).alloc _) (some ⟨_, 0, none⟩) 1 1 (fun _ => V) rfl (IntsAt.one _ 0 V 3 (Nat.zero_le _)) (by omega) (by simp; omega) ?_); intro v' w' h1 hb2)
        refine ⟨⟨j + 1, by omega, by simp, h1.congr (fun x hx => ?_), (((below_drewN hB nq).alloc hBs' _).trans hb2)⟩, by simp [intOf]; omega⟩
        unfold catF
        by_cases e : x < j
        · rw [if_pos e]
        · rw [if_neg e]; exact HV.out x (by omega)
    · obtain rfl : j = N := by omega
      have bx := (Box.made rfl : Box (w.alloc (.cells #[.int .i64 p, .slice A n c] 26)) w.heap.size 26 #[.int .i64 p, .slice A n c]).kept hB (by omega)
      have x0 := bx.at_ 0
      have x1 := bx.at_ 1
      simp only [List.getElem?_toArray] at x0 x1
      have hlx := bx.lt
      have q9 : IntKind.i64.wrap ((f : Int) + (j : Int)) = ((f + j : Nat) : Int) := by rw [IntWalk.i64_in _ (by have := HnN.out; omega)]; simp
      have EF := hide (cancelF_succ k (fun x => isPos F (f + x) n) S j HN.out)
      have EI := hide (show (fun x => isPos F (f + (j + x)) n) = (fun x => isPos F (f + j + x) n) from funext fun x => by rw [Nat.add_assoc])
      go_wp2_with fail
      refine (IH.out p A As n c f j cs M F (fun x => lesserI (S x) (S (j + x))) _ hn (by have := HnN.out; omega) HN.out HM1.out (fun x hx => lesserI_le (HS9.out x (by have := HnN.out; omega)) (HS9.out (j + x) (by have := HnN.out; omega))) (HI.out.below hB') (hIs.weak (Nat.zero_le _))).mono ?_
      rintro e w1 ⟨v1, rfl, hown1, hb1⟩
      obtain ⟨A1, c1, rfl, hc1, hI1⟩ := hown1.form
      go_wp2_with fail
      refine (wordR_any A1 j c1 _ _ (by omega) (hI1.weak (Nat.zero_le _)) (fun x _ => cancelF_bit _ _ _ _)).mono ?_
      rintro e w2 ⟨v2, rfl, hown2, hb2⟩
      obtain ⟨A2, c2, rfl, hc2, hI2⟩ := hown2.form
      have hVb : ∀ x, IsBit (wordF j (cancelF k (fun x => isPos F (f + x) n) fun x => lesserI (S x) (S (j + x))) x) := wordF_bit _ _
      have hU := hown1.below hb2
      have hB1 : Below w.heap.size w w1 := hB'.trans (hb1.mono hB'.size)
      have hB2 : Below w.heap.size w w2 := hB1.trans (hb2.mono hB1.size)
      have hs12 : w.heap.size + 1 ≤ w2.heap.size := Nat.le_trans (Nat.le_trans hlx hb1.size) hb2.size
      have bx2 := (bx.below hb1).below hb2
      go_wp2_with fail
      generalize cancelF k (fun x => isPos F (f + x) n) (fun x => lesserI (S x) (S (j + x))) = U at *
      generalize wordF j U = V at *
      have HVB := hide hVb
      have HU := hide hU
      have HI2 := hide hI2
      have HB2 := hide hB2
      have HBX := hide bx2
      clear hVb hU hI2 hB2 bx2 hown1 hown2 hI1 x0 x1 hown hIs bx hcs hB1 hb1 hb2 hB' hB hBs hlx
      go_loopw [14, 15] (fun x i wx => ∃ m : Nat, m ≤ j ∧ i = .int .i64 m ∧ OwnInts wx w2.heap.size x m (fun x => farF (V x) (S x) (S (j + x))) ∧ Below w2.heap.size w2 wx) (fun _ i _ => j - (intOf i).toNat)
      case atStart => exact ⟨0, Nat.zero_le _, rfl, OwnInts.nil_ _ _ _, Below.refl _ _⟩
      case round =>
        obtain ⟨m, hm, rfl, hown, hB⟩ := hrel
        obtain ⟨As, cs, rfl, hcs, hIs⟩ := hown.form
        have hBs := hB.size
        have hBw : Below w.heap.size w wr := HB2.out.trans (hB.mono HB2.out.size)
        by_cases hlm : m < j
        · have hlmz : (m : Int) < (j : Int) := by omega
          have hS1 := HS.out.below HB2.out
          obtain ⟨b1, o1, rfl, -, hb1, hx1⟩ := hS1 m (by have := HnN.out; omega)
          obtain ⟨b2, o2, e1, -, hb2, hx2⟩ := hS1 (j + m) (by have := HnN.out; omega)
          injection e1 with e1; injection e1 with e1 e2; subst e1; subst e2
          obtain ⟨b3, o3, rfl, -, hb3, hx3⟩ := HI2.out m hlm
          have hl1 := HS9.out m (by have := HnN.out; omega)
          have hl2 := HS9.out (j + m) (by have := HnN.out; omega)
          have hjm : j + m < n2 := by have := HnN.out; omega
          have hmn : m < n2 := by have := HnN.out; omega
          have hjmz : (j : Int) + (m : Int) < (n2 : Int) := by omega
          have hmz : (m : Int) < (n2 : Int) := by omega
          have q0 : IntKind.i64.wrap ((j : Int) + (m : Int)) = (j : Int) + (m : Int) := IntWalk.i64_in _ (by omega)
          have hjm0 : (0 : Int) ≤ (j : Int) + (m : Int) := by omega
          have HR := hide (far_raw (HVB.out m) (a := S m) (b := S (j + m)) (by omega) (by omega))
          have HFF := hide (show farF (V m) (S m) (S (j + m)) = farF (V m) (S m) (S (j + m)) from rfl)
          have hx2' : w2.cell? ⟨b1, o1 + ((j : Int) + (m : Int)).toNat, none⟩ = some (.int .i64 (S (j + m))) := by rw [show ((j : Int) + (m : Int)).toNat = j + m by omega]; exact hx2
          have SOF := hide (fun W' (h : Below w2.heap.size w2 W') => (⟨(h.cell (p := ⟨b1, o1 + m, none⟩) hb1).trans hx1, (h.cell (p := ⟨b1, o1 + ((j : Int) + (m : Int)).toNat, none⟩) hb2).trans hx2', (h.cell (p := ⟨b3, o3 + m, none⟩) hb3).trans hx3, h⟩ :
            W'.cell? ⟨b1, o1 + m, none⟩ = some (.int .i64 (S m)) ∧ W'.cell? ⟨b1, o1 + ((j : Int) + (m : Int)).toNat, none⟩ = some (.int .i64 (S (j + m))) ∧ W'.cell? ⟨b3, o3 + m, none⟩ = some (.int .i64 (V m)) ∧ Below w2.heap.size w2 W'))
          have bb0 := hB
          clear hS1 hIs hl1 hl2
          go_wp2_with fail
          go_region_held3 (fun w' => w'.cell? ⟨b1, o1 + m, none⟩ = some (.int .i64 (S m)) ∧ w'.cell? ⟨b1, o1 + ((j : Int) + (m : Int)).toNat, none⟩ = some (.int .i64 (S (j + m))) ∧ w'.cell? ⟨b3, o3 + m, none⟩ = some (.int .i64 (V m)) ∧ Below w2.heap.size w2 w')
            (first | assumption | exact SOF.out _ (by assumption) | exact SOF.out _ bb0.drew | exact SOF.out _ (balloc' (by assumption) (Nat.le_refl _) _) | exact SOF.out _ (balloc' (by assumption) (Nat.le_refl _) _).drew)
            (first
              | (refine step_append_ints _ (by rfl) _ _ (by rfl) w2.heap.size 0 (.slice As m cs) m _ (by rfl) ((hown.alloc _).drew) (some ⟨wr.heap.size, 0, none⟩) 1 1 (fun _ => _) (by rfl) ((IntsAt.one wr 0 _ 3 (Nat.zero_le _)).drew) (by omega) (by simp; omega) ?_; intro v' w' h1 hb3; have hb4 := (balloc' hB (Nat.le_refl _) _).drew.trans hb3))
          go_wp2_with fail
          refine ⟨⟨m + 1, by omega, by simp, h1.congr (fun x hx => ?_), hb4⟩, by simp [intOf]; omega⟩
          show (if x < m then _ else _) = _
          by_cases e : x < m
          · rw [if_pos e]
          · rw [if_neg e, HR.out, show x = m by omega]
        · obtain rfl : m = j := by omega
          have bx := HBX.out.below hB
          have x0 := bx.at_ 0
          have x1 := bx.at_ 1
          simp only [List.getElem?_toArray] at x0 x1
          have hlx := bx.lt
          go_wp2_with fail
          refine (IH.out p A As n c (f + m) m cs (2 * M) F (fun x => farF (V x) (S x) (S (m + x))) _ hn (by have := HnN.out; omega) HN.out HM2.out (fun x hx => farF_le (HS9.out x (by have := HnN.out; omega)) (HS9.out (m + x) (by have := HnN.out; omega))) (HI.out.below hBw) (hIs.weak (Nat.zero_le _))).mono ?_
          rintro e w3 ⟨v3, rfl, hown3, hb3⟩
          obtain ⟨A3, c3, rfl, hc3, hI3⟩ := hown3.form
          have hU3 := (HU.out.below hB).below hb3
          have hB3 := hBw.trans (hb3.mono hBw.size)
          have hs13 := hB3.size
          have hs23 := HB2.out.size
          go_wp2_with (at_builtin; refine wpList_append_ints _ rfl (.tmp 95) (.tmp 101) rfl w.heap.size 0 (.slice A1 m c1) m U rfl (hU3.weak (by first | assumption | omega)) A3 m c3 _ rfl (hI3.weak (Nat.zero_le _)) (by omega) (by omega) ?_; intro v' w' h1 hb4)
          go_ret
          have hnn := HnN.out
          subst hnn
          refine ⟨_, rfl, h1.congr fun x hx => ?_, hB3.trans hb4⟩
          rw [EF.out x, EI.out]
          rfl
theorem cancelR_any : ∀ k, k ≤ 9 → CancelRSaid k
  | 0, _ => cancelR_zero
  | k + 1, h => cancelR_step k (by omega) (cancelR_any k (by omega))
set_option maxHeartbeats 2000000 in
theorem decodeR_any (p : Nat) (A C : Option Addr) (n c N d : Nat) (F S : Nat → Int) (w : World) (hok : PolarOk p n F) (hn : n ≤ 1000) (hN : N = 2 ^ p) (hI : IntsAt w 0 A n F) (hS : IntsAt w 0 C N S) (M : Int) (hM : M * 2 ^ p ≤ 1000000000000) (hS9 : ∀ j, j < N → -M ≤ S j ∧ S j ≤ M) :
    Calls Try.prog 77 #[.agg #[.int .i64 (p : Int), .slice A n c], .slice C N d] w fun e w' => ∃ v, e = .returned v ∧ OwnInts w' w.heap.size v n (fun k => cancelF p (fun x => isPos F x n) S (F k).toNat) ∧ Below w.heap.size w w' := by
  obtain ⟨h1, h2, h3, h4⟩ := hok
  have hN9 : N ≤ 64 := by rw [hN]; exact Nat.pow_le_pow_right (by decide) h1
  have h3' : ∀ k, k < n → 0 ≤ F k ∧ F k < N := fun k hk => by
    have := h3 k hk
    have e : ((2 ^ p : Nat) : Int) = (2 : Int) ^ p := by simp
    rw [hN]; omega
  have EI := hide (show (fun x => isPos F (0 + x) n) = (fun x => isPos F x n) from funext fun x => by rw [Nat.zero_add])
  have HI := hide hI
  have HS := hide hS
  have H3 := hide h3'
  have HC := hide (fun W hW1 hW2 => cancelR_any p (by omega) (p : Int) A C n c 0 N d M F S W hn (by omega) hN hM hS9 hW1 hW2)
  clear hI hS h3 h3' h4 hN hM hS9
  go_enter Try.func77, Try.ntmps77
  go_wp2_with fail
  refine (HC.out _ (HI.out.alloc _) (HS.out.alloc _)).mono ?_
  rintro e w1 ⟨v1, rfl, hown1, hb1⟩
  rw [EI.out] at hown1
  obtain ⟨A1, c1, rfl, hc1, hI1⟩ := hown1.form
  have bx1 : Box w1 w.heap.size 26 #[.int .i64 (p : Int), .slice A n c] := (Box.made rfl).below hb1
  have hB1 := below_of_alloc hb1
  have HI1 := hide hI1
  have HB1 := hide hB1
  go_wp2_with fail
  clear hb1 hown1 hI1 hB1
  go_loopw [6, 7] (fun x i wr => ∃ k : Nat, k ≤ n ∧ i = .int .i64 k ∧ OwnInts wr w1.heap.size x k (fun k => cancelF p (fun x => isPos F x n) S (F k).toNat) ∧ Below w1.heap.size w1 wr) (fun _ i _ => n - (intOf i).toNat)
  case atStart => exact ⟨0, Nat.zero_le _, rfl, OwnInts.nil_ _ _ _, Below.refl _ _⟩
  case round =>
    obtain ⟨k, hk, rfl, hown, hB⟩ := hrel
    obtain ⟨As, cs, rfl, hcs, hIs⟩ := hown.form
    have hBs := hB.size
    have hBw : Below w.heap.size w wr := HB1.out.trans (hB.mono HB1.out.size)
    have bx := bx1.below hB
    have x0 := bx.at_ 0
    have x1 := bx.at_ 1
    simp only [List.getElem?_toArray] at x0 x1
    have hlx := bx.lt
    by_cases hlt : k < n
    · have hltz : (k : Int) < (n : Int) := by omega
      obtain ⟨b, o, rfl, -, hb, hcell⟩ := (HI.out.below hBw) k hlt
      obtain ⟨f0, f1⟩ := H3.out k hlt
      obtain ⟨f, hf⟩ := Int.eq_ofNat_of_zero_le f0
      have HF := hide (fun (x : Nat) (hx : x = k) => (by rw [hx, hf]; rfl : (F x).toNat = f))
      rw [hf] at hcell f0 f1
      clear hf
      obtain ⟨b2, o2, rfl, -, hb2, hcell2⟩ := (HI1.out.below hB) f (by omega)
      have HV := hide (fun (x : Nat) (hx : x = k) => (by rw [HF.out x hx] : cancelF p (fun x => isPos F x n) S (F x).toNat = cancelF p (fun x => isPos F x n) S f))
      generalize cancelF p (fun x => isPos F x n) S f = V at *
      go_wp2_with (at_builtin; refine wpList_append_ints _ rfl (.tmp 18) (.tmp 27) rfl w1.heap.size 0 (.slice As k cs) k _ rfl (hown.alloc _) (some ⟨_, 0, none⟩) 1 1 (fun _ => V) rfl (IntsAt.one _ 0 V 3 (Nat.zero_le _)) (by omega) (by simp; omega) ?_; intro v' w' h1 hb3)
      refine ⟨⟨k + 1, by omega, by simp, h1.congr (fun x hx => ?_), (hB.alloc hBs _).trans hb3⟩, by simp [intOf]; omega⟩
      unfold catF
      by_cases e : x < k
      · rw [if_pos e]
      · rw [if_neg e]; exact (HV.out x (by omega)).symm
    · obtain rfl : k = n := by omega
      go_wp2_with fail
      go_ret
      exact ⟨_, rfl, hown.weak HB1.out.size, hBw⟩
end Go.Proofs.Ytjelbemfljobaaa
