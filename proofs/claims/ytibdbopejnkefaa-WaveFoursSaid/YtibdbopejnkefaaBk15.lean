/- Lemmas: Ub, Az, Ac, F4. -/
import Derived.Test.YtibdbopejnkefaaBk03
import Derived.Test.YtibdbopejnkefaaBk05
import Derived.Test.YtibdbopejnkefaaBk06
import Derived.Test.YtibdbopejnkefaaBk07
import Derived.Test.YtibdbopejnkefaaBk08
import Derived.Test.YtibdbopejnkefaaBk09
import Derived.Test.YtibdbopejnkefaaBk14
set_option linter.unusedVariables false
set_option linter.unusedSimpArgs false
/- Product of the code. -/
namespace Go.Proofs.Ytibdbopejnkefaa
open Go.RowKit
def smallE (x : Num) : Int := x.err 1000000000
/-- The error of a product. -/
def prodE (x y : Num) : Int := if twoE (smallE x) (smallE y) = 0 then unI ((x.prod y).isIn 1000000000) 8 else twoE (smallE x) (smallE y)
/-- What Product hands back. -/
def prodV (x y : Num) : Num := if prodE x y = 0 then x.prod y else Num.zero
theorem numsE_two (M : Int) (x y : Num) : numsE M (fun i => if i = 0 then x else y) 2 = twoE (x.err M) (y.err M) := by
  have e0 : badE (fun j => Num.err M (if j = 0 then x else y)) 1 = x.err M := by
    unfold badE badE
    rw [if_pos rfl]
    rfl
  unfold numsE twoE
  show (if badE (fun j => Num.err M (if j = 0 then x else y)) 1 = 0 then Num.err M (if 1 = 0 then x else y) else badE (fun j => Num.err M (if j = 0 then x else y)) 1) = _
  rw [e0]
  rfl
theorem twoE_zero {a b : Int} (h : twoE a b = 0) : a = 0 ∧ b = 0 := by
  unfold twoE at h
  by_cases h1 : a = 0
  · rw [if_pos h1] at h; exact ⟨h1, h⟩
  · rw [if_neg h1] at h; exact absurd h h1
theorem err_is (M : Int) (x : Num) : (numsE M (fun _ => x) 1 == 0) = x.isIn M := by
  rw [numsE_one]
  unfold Num.err unI
  cases x.isIn M <;> rfl
end Go.Proofs.Ytibdbopejnkefaa
/- The channel of a stream (without a walk): the transform of a symbol of a stream behind paths is eight times the response times the entry. -/
namespace Go.Proofs.Ytibdbopejnkefaa
open Go.RowKit
theorem thrTo_sum {D R I : Nat → Int} {X : Nat → Num} {m : Nat} : ∀ {p : Nat}, (∀ q, q < p → D q ≤ (m : Int)) → thrTo D R I X p m = sumF (fun q => (gN (R q) (I q)).prod (X (m - (D q).toNat))) p
  | 0, _ => rfl
  | p + 1, h => by
    show (if D p ≤ (m : Int) then _ else _) = _
    rw [if_pos (h p (Nat.lt_succ_self p)), thrTo_sum fun q hq => h q (by omega)]
    rfl
theorem respTo_sum {D R I : Nat → Int} {k : Nat} : ∀ (p : Nat), respTo D R I k p = sumF (fun q => tz (gN (R q) (I q)) (-(k : Int) * D q)) p
  | 0 => rfl
  | p + 1 => by
    show (respTo D R I k p).add _ = _
    rw [respTo_sum p]
    rfl
theorem idft_mod (E : Nat → Num) (a b : Int) (t : Int) (h : a = b + 8 * t) : idft E a = idft E b := by
  unfold idft
  refine sumF_congr fun m _ => ?_
  rw [← tz_mod (E m) ((m : Int) * a), ← tz_mod (E m) ((m : Int) * b)]
  congr 1
  rw [h, Int.mul_add, show (m : Int) * (8 * t) = 8 * ((m : Int) * t) by rw [← Int.mul_assoc, ← Int.mul_assoc, Int.mul_comm (m : Int) 8]]
  omega
theorem smpF_idft (F : Nat → Gau) (n : Nat) : smpF F n = idft (fun m => gN (F m).re (F m).im) (n : Int) := rfl
/-- A sample of a stream, so much before the sample j of a symbol. -/
theorem strF_at (F : Nat → Nat → Gau) {g i j d : Nat} (hj : j < 8) (hd : d ≤ g) (hg : g ≤ 7) : strF F g (i * (8 + g) + g + j - d) = idft (fun m => gN (F i m).re (F i m).im) ((j : Int) - (d : Int)) := by
  obtain ⟨p, hp⟩ : ∃ p, p = g + j - d := ⟨_, rfl⟩
  have hp8 : p < 8 + g := by omega
  obtain ⟨h1, h2⟩ := str_at (k := i) hp8
  rw [show i * (8 + g) + g + j - d = i * (8 + g) + p by omega]
  unfold strF
  rw [h1, h2]
  by_cases h : p < g
  · rw [if_pos h, smpF_idft]
    exact idft_mod _ _ _ 1 (by omega)
  · rw [if_neg h, smpF_idft]
    exact idft_mod _ _ _ 0 (by omega)
/-- THE CHANNEL IS A PRODUCT, of a stream. -/
theorem stream_channel (F : Nat → Nat → Gau) (D R I : Nat → Int) {g i p k : Nat} (hg : g ≤ 7) (hD : ∀ q, q < p → 0 ≤ D q ∧ D q ≤ (g : Int)) (hk : k < 8) :
    trnF (fun j => thrTo D R I (strF F g) p (i * (8 + g) + g + j)) k = (respTo D R I k p).prod ⟨8 * (F i k).re, 0, 8 * (F i k).im, 0⟩ := by
  have h := channel_product (fun q => gN (R q) (I q)) D (fun m => gN (F i m).re (F i m).im) p k hk
  rw [respTo_sum]
  have e : Num.times 8 (gN (F i k).re (F i k).im) = ⟨8 * (F i k).re, 0, 8 * (F i k).im, 0⟩ := by
    apply Num.same <;> simp [Num.times, gN]
  rw [← e, ← h]
  unfold trnF dft
  refine sumF_congr fun j hj => ?_
  rw [Int.neg_mul]
  congr 1
  show thrTo D R I (strF F g) p (i * (8 + g) + g + j) = sumF (fun q => (gN (R q) (I q)).prod (idft (fun m => gN (F i m).re (F i m).im) ((j : Int) - D q))) p
  rw [thrTo_sum fun q hq => by have := hD q hq; omega]
  refine sumF_congr fun q hq => ?_
  obtain ⟨h0, h1⟩ := hD q hq
  obtain ⟨d, hd⟩ : ∃ d : Nat, D q = (d : Int) := ⟨(D q).toNat, by omega⟩
  show (gN (R q) (I q)).prod (strF F g (i * (8 + g) + g + j - (D q).toNat)) = (gN (R q) (I q)).prod (idft _ ((j : Int) - D q))
  rw [hd]
  show (gN (R q) (I q)).prod (strF F g (i * (8 + g) + g + j - d)) = _
  rw [strF_at F hj (by omega) hg]
theorem strF_within {F : Nat → Nat → Gau} {g n : Nat} (hF : ∀ i, i < n → ∀ m, m < 8 → (F i m).Within 10000) {j : Nat} (hj : j < n * (8 + g)) : (strF F g j).Within 80000 := by
  have hi : j / (8 + g) < n := Nat.div_lt_of_lt_mul (by rwa [Nat.mul_comm])
  have hs : ∀ q, (smpF (F (j / (8 + g))) q).Within 80000 := fun q => (sumF_within fun m hm => tz_within (gN_within (hF _ hi m hm)) _).more (by decide)
  unfold strF
  split
  · exact hs _
  · exact hs _
theorem numsE_all2 {M : Int} {F : Nat → Num} {n : Nat} (h : ∀ j, j < n → (F j).Within M) : numsE M F n = 0 := by
  unfold numsE
  induction n with
  | zero => rfl
  | succ n ih =>
    rw [badE_succ (ih fun j hj => h j (by omega))]
    show unI ((F n).isIn M) 2 = 0
    rw [Num.isIn_iff.2 (h n (by omega))]
    rfl
theorem trnF_of {X : Nat → Num} {M : Int} (h : ∀ n, n < 8 → (X n).Within M) (k : Nat) : (trnF X k).Within (8 * M) := (sumF_within fun n hn => tz_within (h n hn) _).more (by omega)
end Go.Proofs.Ytibdbopejnkefaa
/- No energy is lost (without a walk): the squares of the samples come to eight times those of the entries. -/
namespace Go.Proofs.Ytibdbopejnkefaa
open Go.RowKit
theorem conj_add (x y : Num) : (x.add y).conj = x.conj.add y.conj := by apply Num.same <;> (simp [Num.add, Num.conj]; try omega)
theorem conj_turn (x : Num) : x.turn.conj = x.conj.turns 7 := by
  obtain ⟨a, b, c, d⟩ := x
  apply Num.same <;> simp [Num.conj, Num.turns, Num.turn]
theorem conj_turns (x : Num) : ∀ k, (x.turns k).conj = x.conj.turns (7 * k)
  | 0 => rfl
  | k + 1 => by
    show (x.turns k).turn.conj = _
    rw [conj_turn, conj_turns x k, turns_add]
    rfl
theorem conj_tz (x : Num) (k : Int) : (tz x k).conj = tz x.conj (-k) := by
  unfold tz
  rw [conj_turns, turns_mod]
  congr 1
  omega
theorem conj_zero : Num.zero.conj = Num.zero := rfl
theorem conj_sumF (F : Nat → Num) : ∀ n, (sumF F n).conj = sumF (fun i => (F i).conj) n
  | 0 => conj_zero
  | n + 1 => by
    show ((sumF F n).add (F n)).conj = _
    rw [conj_add, conj_sumF F n]
    rfl
theorem sumF_real (p q : Nat → Int) : ∀ n, sumF (fun i => realN (p i) (q i)) n = realN (sumI p n) (sumI q n)
  | 0 => rfl
  | n + 1 => by
    show (sumF (fun i => realN (p i) (q i)) n).add (realN (p n) (q n)) = _
    rw [sumF_real p q n]
    show _ = realN (sumI p n + p n) (sumI q n + q n)
    apply Num.same <;> (simp [realN, Num.add]; try omega)
theorem times_real (n p q : Int) : Num.times n (realN p q) = realN (n * p) (n * q) := by apply Num.same <;> simp [realN, Num.times, Int.mul_neg]
theorem real_inj {p q r s : Int} (h : realN p q = realN r s) : p = r ∧ q = s := by
  unfold realN at h
  injection h with h1 h2
  exact ⟨h1, h2⟩
theorem energy (E : Nat → Num) : sumF (fun n => (idft E (n : Int)).conj.prod (idft E (n : Int))) 8 = sumF (fun k => (E k).conj.prod (Num.times 8 (E k))) 8 := by
  have e : ∀ n : Nat, (idft E (n : Int)).conj.prod (idft E (n : Int)) = sumF (fun k => (E k).conj.prod (tz (idft E (n : Int)) (-((k : Int) * (n : Int))))) 8 := fun n => by
    have e1 : (idft E (n : Int)).conj = sumF (fun k => tz (E k).conj (-((k : Int) * (n : Int)))) 8 := by
      unfold idft
      rw [conj_sumF]
      exact sumF_congr fun k _ => conj_tz _ _
    rw [e1, sumF_prod]
    exact sumF_congr fun k _ => by rw [tz_prod, prod_tz]
  rw [show (fun n : Nat => (idft E (n : Int)).conj.prod (idft E (n : Int))) = fun n : Nat => sumF (fun k => (E k).conj.prod (tz (idft E (n : Int)) (-((k : Int) * (n : Int))))) 8 from funext e]
  rw [sumF_swap (fun n k => (E k).conj.prod (tz (idft E (n : Int)) (-((k : Int) * (n : Int))))) 8 8]
  refine sumF_congr fun k hk => ?_
  rw [← dft_idft E k hk, ← prod_sumF]
  rfl
/-- The sums of the squares of eight samples. -/
theorem parseval (E : Nat → Num) : sumI (fun n => (idft E (n : Int)).sqP) 8 = 8 * sumI (fun k => (E k).sqP) 8 ∧ sumI (fun n => (idft E (n : Int)).sqQ) 8 = 8 * sumI (fun k => (E k).sqQ) 8 := by
  have h := energy E
  rw [show (fun n : Nat => (idft E (n : Int)).conj.prod (idft E (n : Int))) = fun n : Nat => realN (idft E (n : Int)).sqP (idft E (n : Int)).sqQ from funext fun n => conj_prod _] at h
  rw [show (fun k : Nat => (E k).conj.prod (Num.times 8 (E k))) = fun k : Nat => realN (8 * (E k).sqP) (8 * (E k).sqQ) from funext fun k => by rw [← times_prod, conj_prod, times_real]] at h
  rw [sumF_real, sumF_real] at h
  obtain ⟨h1, h2⟩ := real_inj h
  have e : ∀ (g : Nat → Int) n, sumI (fun k => 8 * g k) n = 8 * sumI g n := fun g n => by
    induction n with
    | zero => rfl
    | succ n ih =>
      show sumI (fun k => 8 * g k) n + 8 * g n = 8 * (sumI g n + g n)
      rw [ih]
      omega
  exact ⟨h1.trans (e (fun k => (E k).sqP) 8), h2.trans (e (fun k => (E k).sqQ) 8)⟩
end Go.Proofs.Ytibdbopejnkefaa
/- Four of the code; the mathematics of WaveBack. -/
namespace Go.Proofs.Ytibdbopejnkefaa
open Go.RowKit Go.Great
set_option maxHeartbeats 4000000 in
set_option maxRecDepth 100000 in
theorem fourError_any (X : Nat → Gau) (w : World) :
    Calls Try.prog 14 #[.agg (arrG4 X)] w fun e w' => e = .returned (.int .i64 (gausE 1000000000 X 4)) ∧ Below w.heap.size w w' := by
  have HIE := hide (fun A b W (h : GausAt W 0 A 4 X) (hc : W.cell? ⟨b, 0, none⟩ = some (.int .i64 1000000000)) => itemsError_gaus 1000000000 A 4 4 b X W (by decide) h hc (by decide))
  have HGW := hide (fun W => gaussWithin_any 1000000000 W)
  generalize gausE 1000000000 X 4 = E at *
  go_enter Try.func14, Try.ntmps14
  go_upto_region 1 with (refine wpList_boxTo rfl 24 (.tmp 0) rfl _ rfl w.heap.size rfl (arrG4 X) rfl ?_; obtain ⟨W0, hW0⟩ : ∃ q : World, w.alloc (.cells (arrG4 X) 24) = q := ⟨_, rfl⟩; rw [hW0])
  have x0 : ArrG4 W0 w.heap.size X := by rw [← hW0]; exact ArrG4.at_alloc w _ _ rfl
  have hB0 : Below w.heap.size w W0 := by rw [← hW0]; (repeat (first | (with_reducible exact Below.refl _ _) | (with_reducible refine Go.below_drewN ?_ _) | (with_reducible refine Below.drew ?_) | (with_reducible refine Below.alloc ?_ (by first | exact Nat.le_refl _ | (simp; done) | (simp; omega) | omega) _) | (with_reducible refine Below.setCell ?_ (by first | exact Nat.le_refl _ | (simp; done) | (simp; omega) | omega) _)))
  clear hW0
  refine wp_region_held_drew (S := fun _ => True) (by kernel_rfl) trivial (fun hHeld => ?_)
  refine wpAnyH_take (i := 0) (oi := ⟨some 3, _, _, _, _, _⟩) (v := ?_) rfl (by kernel_rfl) (by kernel_rfl) (by kernel_rfl) (fun _ _ _ h => h) (Or.inl ⟨by rfl, ?_⟩) (by assumption) ?_
  rotate_left
  · (intro w' hSw; (try dsimp only at hSw); go_simp <;> (with_reducible rfl))
  try simp only [Act.put, List.setIfInBounds_toArray, List.set_cons_zero, List.set_cons_succ]
  refine wpAnyH_ready (rs := [1]) (by kernel_rfl) (by simp) ?_
  refine AllReadyH.cons (o := ⟨some 4, _, _, _, _, _⟩) rfl (fun K' hK => ?_) AllReadyH.nil
  go_simp
  go_at_call 38
  refine (HGW.out _).mono ?_
  rintro e w1 ⟨rfl, hw1⟩
  have hc1 : Below W0.heap.size W0 w1 := by rw [← hw1]; exact below_of_drew ((Below.refl _ _).alloc (Nat.le_refl _) _)
  have hcl : w1.cell? ⟨W0.heap.size, 0, none⟩ = some (.int .i64 1000000000) := by rw [← hw1]; exact (Box.made rfl : Box _ W0.heap.size 3 #[.int .i64 1000000000]).at_ 0
  have x1 := x0.below hc1
  have hB1 := hB0.trans (hc1.mono hB0.size)
  clear hw1 hc1
  go_wp2_with fail
  refine hK.out _ _ trivial (fun hHeld => ?_)
  clear hK K'
  try simp only [Act.put, List.setIfInBounds_toArray, List.set_cons_zero, List.set_cons_succ]
  refine wpAnyH_ready (rs := [2]) (by kernel_rfl) (by simp) ?_
  refine AllReadyH.cons (o := ⟨some 5, _, _, _, _, _⟩) rfl (fun K' hK => ?_) AllReadyH.nil
  go_simp
  go_at_call 37
  refine (HIE.out _ _ _ (by have h := x1.slice; exact h) (by have h := hcl; exact h)).mono ?_
  rintro e w2 ⟨rfl, hb2'⟩
  have hb2 : Below w1.heap.size w1 w2 := by first | exact hb2' | exact below_of_drew hb2' | exact below_of_drew (below_of_drew hb2')
  have hB2 := hB1.trans (hb2.mono hB1.size)
  go_wp2_with fail
  refine hK.out _ _ trivial (fun hHeld => ?_)
  clear hK K'
  try simp only [Act.put, List.setIfInBounds_toArray, List.set_cons_zero, List.set_cons_succ]
  refine wpAnyH_take (i := 3) (oi := ⟨some 2, _, _, _, _, _⟩) (v := ?_) rfl (by kernel_rfl) (by kernel_rfl) (by kernel_rfl) (fun _ _ _ h => h) (Or.inl ⟨by rfl, ?_⟩) (by assumption) ?_
  rotate_left
  · (intro w' hSw; (try dsimp only at hSw); go_simp <;> (with_reducible rfl))
  try simp only [Act.put, List.setIfInBounds_toArray, List.set_cons_zero, List.set_cons_succ]
  refine wpAnyH_done (by kernel_rfl) ?_ _
  go_wp2_with fail
  go_ret
  exact ⟨rfl, hB2⟩
set_option maxHeartbeats 4000000 in
set_option maxRecDepth 100000 in
theorem Four_right (X : Nat → Gau) (hE : gausE 1000000000 X 4 = 0) (w : World) :
    Calls Try.prog 5 #[.agg (arrG4 X)] w fun e w' => e = .returned (.tuple #[.agg (arrG4 (fF X 1)), .int .i64 0]) ∧ Below w.heap.size w w' := by
  have HFE := hide (fun W => (show Calls Try.prog 14 #[.agg (arrG4 X)] W fun e w' => e = .returned (.int .i64 0) ∧ Below W.heap.size W w' from by rw [← hE]; exact fourError_any X W))
  have HFO := hide (fun W => foursOf_any X 1 (by decide) (gausE_within hE) W)
  clear hE
  obtain ⟨Y, hY⟩ : ∃ z, fF X 1 = z := ⟨_, rfl⟩
  rw [hY] at HFO ⊢
  clear hY
  go_enter Try.func5, Try.ntmps5
  go_upto_region 1 with (first
    | (refine wpList_boxTo rfl 24 (.tmp 0) rfl _ rfl w.heap.size rfl (arrG4 X) rfl ?_; obtain ⟨W0, hW0⟩ : ∃ q : World, w.alloc (.cells (arrG4 X) 24) = q := ⟨_, rfl⟩; rw [hW0])
    | (refine wpList_allocTo rfl (some 2) rfl (.pointer (some ⟨W0.heap.size, 0, none⟩)) (.cells (arrG4 fun _ => Gau.zero) 24) (by kernel_rfl) ?_))
  have x0 : ArrG4 W0 w.heap.size X := by rw [← hW0]; exact ArrG4.at_alloc w _ _ rfl
  have hB0 : Below w.heap.size w W0 := by rw [← hW0]; (repeat (first | (with_reducible exact Below.refl _ _) | (with_reducible refine Go.below_drewN ?_ _) | (with_reducible refine Below.drew ?_) | (with_reducible refine Below.alloc ?_ (by first | exact Nat.le_refl _ | (simp; done) | (simp; omega) | omega) _) | (with_reducible refine Below.setCell ?_ (by first | exact Nat.le_refl _ | (simp; done) | (simp; omega) | omega) _)))
  have hs0 : w.heap.size < W0.heap.size := by rw [← hW0]; simp
  clear hW0
  obtain ⟨b1, hb1⟩ : ∃ g, W0.heap.size = g := ⟨_, rfl⟩
  obtain ⟨W1, hW1⟩ : ∃ q : World, q = W0.alloc (.cells (arrG4 fun _ => Gau.zero) 24) := ⟨_, rfl⟩
  rw [← hW1]
  have HZ := hide (show ArrG4 W1 b1 (fun _ => Gau.zero) by rw [hW1]; exact ArrG4.at_alloc W0 _ _ hb1.symm)
  have HX := hide (show ArrG4 W1 w.heap.size X by rw [hW1]; exact x0.alloc _)
  have hB1 : Below w.heap.size w W1 := by rw [hW1]; exact hB0.alloc hB0.size _
  have h01' : w.heap.size ≤ b1 := by omega
  simp only [hb1]
  clear hW1 x0 hB0 hs0 hb1
  go_wp2_with (refine wpList_loadG4 rfl (.tmp 1) rfl w.heap.size X rfl HX.out ?_)
  refine (HFE.out _).mono ?_
  rintro e w2 ⟨rfl, hb2⟩
  have HX2 := hide (HX.out.below hb2)
  have HZ2 := hide (HZ.out.below hb2)
  have hB2 := hB1.trans (hb2.mono hB1.size)
  clear hb2 hB1 HX HZ HFE
  go_wp2_with (refine wpList_loadG4 rfl (.tmp 1) rfl w.heap.size X rfl HX2.out ?_)
  refine (HFO.out _).mono ?_
  rintro e w3 ⟨rfl, hb3⟩
  have HZ3 := hide (HZ2.out.below hb3)
  have hB3 := hB2.trans (hb3.mono hB2.size)
  go_wp2_with (refine wpList_storeG4 rfl (.tmp 2) (.tmp 12) rfl b1 (fun _ => Gau.zero) Y rfl rfl HZ3.out ?_; intro W9 r9 o9)
  refine bodyPost_ret (v := .tuple #[.agg (arrG4 Y), .int .i64 0]) (result2G4 rfl _ rfl rfl r9) rfl ⟨rfl, ?_⟩
  exact hB3.trans (o9.to_below h01' hB3.size)
theorem spectrum_back {F : Nat → Gau} {k : Nat} (hk : k < 8) : trnF (smpF F) k = ⟨8 * (F k).re, 0, 8 * (F k).im, 0⟩ := by
  have h := dft_idft (fun m => gN (F m).re (F m).im) k hk
  have e : Num.times 8 (gN (F k).re (F k).im) = ⟨8 * (F k).re, 0, 8 * (F k).im, 0⟩ := by apply Num.same <;> simp [Num.times, gN]
  rw [← e, ← h]
  unfold trnF dft
  exact sumF_congr fun n _ => by rw [Int.neg_mul]; rfl
theorem spAll_all {Y : Nat → Num} : ∀ {n : Nat}, (∀ j, j < n → okS (Y j) = true) → spAll Y n = true
  | 0, _ => rfl
  | n + 1, h => by
    show (spAll Y n && okS (Y n)) = true
    rw [spAll_all fun j hj => h j (by omega), h n (Nat.lt_succ_self n)]
    rfl
theorem smpF_within {F : Nat → Gau} (hF : ∀ m, m < 8 → (F m).Within 10000) (n : Nat) : (smpF F n).Within 80000 := (sumF_within fun m hm => tz_within (gN_within (hF m hm)) _).more (by decide)
theorem back_right {F : Nat → Gau} (hF : ∀ m, m < 8 → (F m).Within 10000) : spcR (smpF F) = 0 ∧ ∀ k, k < 8 → spG (trnF (smpF F) k) = F k := by
  have hE : numsE 1000000000 (smpF F) 8 = 0 := numsE_all2 fun j _ => (smpF_within hF j).more (by decide)
  have hA : spAll (trnF (smpF F)) 8 = true := spAll_all fun j hj => by
    rw [spectrum_back hj]
    simp [okS, Int.mul_tmod_right]
  constructor
  · unfold spcR
    rw [if_pos hE, if_pos hA]
  · intro k hk
    rw [spectrum_back hk]
    unfold spG
    simp only [Int.mul_tdiv_cancel_left _ (show (8 : Int) ≠ 0 by decide)]
theorem gN_sq (r i : Int) : (gN r i).sqP = r * r + i * i ∧ (gN r i).sqQ = 0 := by
  constructor <;> (simp only [gN, Num.sqP, Num.sqQ]; grind)
/-- No energy is lost. -/
theorem back_energy (F : Nat → Gau) : sumI (fun n => (smpF F n).sqP) 8 = 8 * sumI (fun k => (F k).re * (F k).re + (F k).im * (F k).im) 8 ∧ sumI (fun n => (smpF F n).sqQ) 8 = 0 := by
  have h := parseval (fun m => gN (F m).re (F m).im)
  have e1 : (fun k => (gN (F k).re (F k).im).sqP) = fun k => (F k).re * (F k).re + (F k).im * (F k).im := funext fun k => (gN_sq _ _).1
  have e2 : (fun k => (gN (F k).re (F k).im).sqQ) = fun _ => (0 : Int) := funext fun k => (gN_sq _ _).2
  rw [e1, e2] at h
  exact ⟨h.1, h.2⟩
theorem sq_bounds {x : Num} (h : x.Within 80000) : 0 ≤ x.sqP ∧ x.sqP ≤ 100000000000 ∧ -100000000000 ≤ x.sqQ ∧ x.sqQ ≤ 100000000000 := by
  have hp := sqP_nonneg x
  have hb : x.sqP ≤ 25600000000 := by
    obtain ⟨a, b, c, d⟩ := h
    have h1 := sq_le a
    have h2 := sq_le b
    have h3 := sq_le c
    have h4 := sq_le d
    simp only [Num.sqP]
    omega
  have hq := sq_norm x
  refine ⟨hp, by omega, ?_, ?_⟩
  · by_cases hn : -100000000000 ≤ x.sqQ
    · exact hn
    · exfalso
      have h1 : 100000000000 * 100000000000 ≤ x.sqQ * x.sqQ := by
        have := Int.mul_le_mul (show (100000000000 : Int) ≤ -x.sqQ by omega) (show (100000000000 : Int) ≤ -x.sqQ by omega) (by decide) (by omega)
        rwa [Int.neg_mul_neg] at this
      have h2 := (sq_le (M := 25600000000) (a := x.sqP) ⟨by omega, hb⟩).2
      omega
  · by_cases hn : x.sqQ ≤ 100000000000
    · exact hn
    · exfalso
      have h1 : 100000000000 * 100000000000 ≤ x.sqQ * x.sqQ := Int.mul_le_mul (show (100000000000 : Int) ≤ x.sqQ by omega) (show (100000000000 : Int) ≤ x.sqQ by omega) (by decide) (by omega)
      have h2 := (sq_le (M := 25600000000) (a := x.sqP) ⟨by omega, hb⟩).2
      omega
/-- The error of four points becomes four times as great. -/
theorem four_error (y z : Nat → Gau) : errS (fF y 1) (fF z 1) 4 = 4 * errS y z 4 := by
  have f : ∀ x : Nat → Gau, fF x 1 0 = ⟨(x 0).re + (x 1).re + (x 2).re + (x 3).re, (x 0).im + (x 1).im + (x 2).im + (x 3).im⟩ ∧ fF x 1 1 = ⟨(x 0).re - (x 1).im - (x 2).re + (x 3).im, (x 0).im + (x 1).re - (x 2).im - (x 3).re⟩ ∧ fF x 1 2 = ⟨(x 0).re - (x 1).re + (x 2).re - (x 3).re, (x 0).im - (x 1).im + (x 2).im - (x 3).im⟩ ∧ fF x 1 3 = ⟨(x 0).re + (x 1).im - (x 2).re - (x 3).im, (x 0).im - (x 1).re - (x 2).im + (x 3).re⟩ := fun x => by
    refine ⟨?_, ?_, ?_, ?_⟩ <;> (apply Gau.same <;> (simp [fF, fTo, itm, cosI, sinI, Gau.zero]; try omega))
  obtain ⟨y0, y1, y2, y3⟩ := f y
  obtain ⟨z0, z1, z2, z3⟩ := f z
  simp only [errS, sqG, y0, y1, y2, y3, z0, z1, z2, z3]
  grind
theorem fF_within {X : Nat → Gau} (hX : ∀ n, n < 4 → (X n).Within 2500) (k : Nat) : (fF X 1 k).Within 10000 := (fTo_within (n := 4) fun i hi => hX i hi).more (by decide)
end Go.Proofs.Ytibdbopejnkefaa
