/- Lemmas: Vg. -/
import Derived.Test.YtcndeegfkgfnkaaBy05
import Derived.Test.YtcndeegfkgfnkaaBy06
import Derived.Test.YtcndeegfkgfnkaaBy07
set_option linter.unusedVariables false
set_option linter.unusedSimpArgs false
/- ResponseOf of the code, for right paths. -/
namespace Go.Proofs.Ytcndeegfkgfnkaa
open Go.RowKit Go.Great
/-- The response on subcarrier k of the first j paths. -/
def respTo (D R I : Nat → Int) (k : Nat) : Nat → Num
  | 0 => Num.zero
  | j + 1 => (respTo D R I k j).add ((⟨R j, 0, I j, 0⟩ : Num).turns ((-(k : Int) * D j) % 8).toNat)
theorem respTo_within {D R I : Nat → Int} {k : Nat} : ∀ {n : Nat}, (∀ j, j < n → -100 ≤ R j ∧ R j ≤ 100 ∧ -100 ≤ I j ∧ I j ≤ 100) → (respTo D R I k n).Within (n * 100)
  | 0, _ => by
    show Num.zero.Within ((0 : Nat) * 100)
    exact ⟨⟨by decide, by decide⟩, ⟨by decide, by decide⟩, ⟨by decide, by decide⟩, ⟨by decide, by decide⟩⟩
  | n + 1, h => by
    obtain ⟨h1, h2, h3, h4⟩ := h n (Nat.lt_succ_self n)
    have g : (⟨R n, 0, I n, 0⟩ : Num).Within 100 := ⟨⟨h1, h2⟩, ⟨by show (-100 : Int) ≤ 0; decide, by show (0 : Int) ≤ 100; decide⟩, ⟨h3, h4⟩, ⟨by show (-100 : Int) ≤ 0; decide, by show (0 : Int) ≤ 100; decide⟩⟩
    have := (respTo_within (k := k) (D := D) (n := n) fun j hj => h j (by omega)).add (g.turns ((-(k : Int) * D n) % 8).toNat)
    exact this.more (by omega)
/-- Right paths. -/
structure PathsOk (n : Nat) (D R I : Nat → Int) : Prop where
  pos : 0 < n
  len : n ≤ 6
  delay : ∀ j, j < n → 0 ≤ D j ∧ D j ≤ 7
  gain : ∀ j, j < n → -100 ≤ R j ∧ R j ≤ 100 ∧ -100 ≤ I j ∧ I j ≤ 100
theorem neg_mul_range {k d : Int} (h0 : 0 ≤ k) (h1 : k ≤ 7) (d0 : 0 ≤ d) (d1 : d ≤ 7) : -100 ≤ -k * d ∧ -k * d ≤ 100 := by
  obtain ⟨q, hq⟩ : ∃ q, q = k * d := ⟨_, rfl⟩
  have e : -k * d = -q := by rw [hq, Int.neg_mul]
  have a : 0 ≤ q := by rw [hq]; exact Int.mul_nonneg h0 d0
  have b : q ≤ 7 * 7 := by rw [hq]; exact Int.mul_le_mul h1 d1 d0 (by decide)
  omega
set_option maxHeartbeats 8000000 in
set_option maxRecDepth 100000 in
theorem ResponseOf_right (A : Option Addr) (n c : Nat) (D R I : Nat → Int) (w : World) (hok : PathsOk n D R I) (hC : chkE n D R I = 0) (hI : PathsAt w 0 A n D R I) :
    Calls Try.prog 16 #[.slice A n c] w fun e w' => e = .returned (.tuple #[.agg (arr8 fun k => respTo D R I k n), .int .i64 0]) ∧ Below w.heap.size w w' := by
  have HI := hide hI
  have HK := hide hok
  have hn6 := hok.len
  have HP := hide (fun (a : Nat) W (h : PathsAt W 0 A n D R I) => (show Calls Try.prog 27 #[.slice A n c] W fun e w' => e = .returned (.int .i64 0) ∧ Below W.heap.size W w' from by have := pathsError_any A n c D R I W (by omega) h; rw [hC] at this; exact this))
  clear hI hok hC
  go_enter Try.func16, Try.ntmps16
  go_upto_region 1 with (refine wpList_allocTo rfl (some 2) rfl (.pointer (some ⟨w.heap.size, 0, none⟩)) (.cells (arr8 fun _ => Num.zero) 52) (by kernel_rfl) ?_)
  obtain ⟨W1, hW1⟩ : ∃ q : World, q = w.alloc (.cells (arr8 fun _ => Num.zero) 52) := ⟨_, rfl⟩
  rw [← hW1]
  have r1 : ArrNums W1 w.heap.size (fun _ => Num.zero) := by rw [hW1]; exact arrNums_alloc w _ _ rfl
  have hB1 : Below w.heap.size w W1 := by rw [hW1]; (repeat (first | (with_reducible exact Below.refl _ _) | (with_reducible refine Go.below_drewN ?_ _) | (with_reducible refine Below.drew ?_) | (with_reducible refine Below.alloc ?_ (by first | exact Nat.le_refl _ | (simp; done) | (simp; omega) | omega) _) | (with_reducible refine Below.setCell ?_ (by first | exact Nat.le_refl _ | (simp; done) | (simp; omega) | omega) _)))
  have hs1 : w.heap.size < W1.heap.size := by rw [hW1]; simp
  clear hW1
  go_wp2_with fail
  refine (HP.out 0 _ (HI.out.below hB1)).mono ?_
  rintro e w2 ⟨rfl, hb2⟩
  replace r1 := r1.below hb2
  have hB2 := hB1.trans (hb2.mono hB1.size)
  have hs2 := hb2.size
  clear hb2 hB1 HP
  go_upto_region 5 with (refine wpList_allocTo rfl (some 5) rfl (.pointer (some ⟨w2.heap.size, 0, none⟩)) (.cells (arr8 fun _ => Num.zero) 52) (by kernel_rfl) ?_)
  obtain ⟨W3, hW3⟩ : ∃ q : World, q = w2.alloc (.cells (arr8 fun _ => Num.zero) 52) := ⟨_, rfl⟩
  rw [← hW3]
  obtain ⟨b5, hb5⟩ : ∃ g, g = w2.heap.size := ⟨_, rfl⟩
  have a3 : ArrNums W3 b5 (fun _ => Num.zero) := by rw [hW3]; exact arrNums_alloc w2 _ _ hb5
  replace r1 : ArrNums W3 w.heap.size (fun _ => Num.zero) := by rw [hW3]; exact r1.alloc _
  have hB3 : Below w.heap.size w W3 := by rw [hW3]; exact hB2.alloc hB2.size _
  have hw5 : w.heap.size ≤ b5 := by omega
  have hz5 : w.heap.size ≠ b5 := by omega
  rw [← hb5]
  clear hW3 hb5 hs1 hs2 hB2
  go_wp2_with fail
  go_loopw [15] (fun i wr => ∃ k : Nat, k ≤ 8 ∧ i = .int .i64 (k : Int) ∧ ArrNums wr w.heap.size (fun _ => Num.zero) ∧ ArrNums wr b5 (fun q => if q < k then respTo D R I q n else Num.zero) ∧ Below w.heap.size w wr) (fun i _ => 8 - (Go.RowKit.intOf i).toNat)
  case atStart => exact ⟨0, by decide, rfl, r1, a3.congr fun q _ => by rw [if_neg (Nat.not_lt_zero q)], hB3⟩
  case round =>
    clear r1 a3 hB3
    obtain ⟨k, hk, rfl, hZ, hA, hB⟩ := hrel
    obtain ⟨wA, rfl⟩ : ∃ q : World, q = wr := ⟨_, rfl⟩
    by_cases hk8 : k < 8
    · have hk8z : (k : Int) < 8 := by omega
      go_wp2_with fail
      obtain ⟨E, hE⟩ : ∃ E : Nat → Num, E = fun q => if q < k then respTo D R I q n else Num.zero := ⟨_, rfl⟩
      have HE := hide hE
      rw [← hE] at hA
      clear hE
      go_loopw [20] (fun x wr => ∃ j : Nat, j ≤ n ∧ x = .int .i64 (j : Int) ∧ ArrNums wr w.heap.size (fun _ => Num.zero) ∧ ArrNums wr b5 (setNum E k (respTo D R I k j)) ∧ Below w.heap.size w wr) (fun x _ => n - (Go.RowKit.intOf x).toNat)
      case atStart =>
        refine ⟨0, Nat.zero_le _, rfl, hZ, hA.congr fun q _ => ?_, hB⟩
        show E q = if q = k then Num.zero else E q
        by_cases e : q = k
        · rw [if_pos e, HE.out]
          show (if q < k then _ else Num.zero) = _
          rw [if_neg (by omega)]
        · rw [if_neg e]
      case round =>
        clear hZ hA hB
        obtain ⟨j, hj, rfl, hZ, hA, hB⟩ := hrel
        obtain ⟨wB, rfl⟩ : ∃ q : World, q = wr := ⟨_, rfl⟩
        by_cases hjn : j < n
        · have hjz : (j : Int) < (n : Int) := by omega
          obtain ⟨pb, po, rfl, -, hpb, c0, c1, c2⟩ := (HI.out.below hB) j hjn
          obtain ⟨s, hs⟩ : ∃ s, s = respTo D R I k j := ⟨_, rfl⟩
          have HG := HK.out.gain j hjn
          have HD := HK.out.delay j hjn
          have hsw : s.Within 600 := by rw [hs]; exact (respTo_within fun q hq => HK.out.gain q (by omega)).more (by omega)
          rw [← hs] at hA
          have HEE := hide (show ∀ q, q < 8 → setNum (setNum E k s) k (respTo D R I k (j + 1)) q = setNum E k (respTo D R I k (j + 1)) q from fun q _ => by
            show (if q = k then _ else if q = k then s else E q) = if q = k then _ else E q
            by_cases e : q = k
            · rw [if_pos e, if_pos e]
            · rw [if_neg e, if_neg e, if_neg e])
          have HTT := hide (show respTo D R I k (j + 1) = s.add ((⟨R j, 0, I j, 0⟩ : Num).turns ((-(k : Int) * D j) % 8).toNat) from by rw [hs]; rfl)
          have HSF := hide (show setNum E k s k = s from if_pos rfl)
          generalize hdl : D j = dl at *
          generalize hre : R j = re at *
          generalize him : I j = im at *
          have q1 : IntKind.i64.wrap (-(k : Int)) = -(k : Int) := IntWalk.i64_in _ (by omega)
          have hr := neg_mul_range (k := (k : Int)) (d := dl) (by omega) (by omega) HD.1 HD.2
          obtain ⟨e, he⟩ : ∃ e, e = -(k : Int) * dl := ⟨_, rfl⟩
          rw [← he] at hr HTT
          have q2 : IntKind.i64.wrap (-(k : Int) * dl) = e := by rw [IntWalk.i64_in _ (by omega), he]
          have hgw : (⟨re, 0, im, 0⟩ : Num).Within 100 := ⟨⟨HG.1, HG.2.1⟩, ⟨by show (-100 : Int) ≤ 0; decide, by show (0 : Int) ≤ 100; decide⟩, ⟨HG.2.2.1, HG.2.2.2⟩, ⟨by show (-100 : Int) ≤ 0; decide, by show (0 : Int) ≤ 100; decide⟩⟩
          have hux := hgw.turns (e % 8).toNat
          have HTU := hide (fun W => turned_any (⟨re, 0, im, 0⟩ : Num) e W (hgw.more (by decide)))
          obtain ⟨u, hu⟩ : ∃ u, u = (⟨re, 0, im, 0⟩ : Num).turns (e % 8).toNat := ⟨_, rfl⟩
          rw [← hu] at hux HTU HTT
          have HNO := hide (fun W => numberOf_any re im W)
          have HSU := hide (sum_two s u)
          have HSB := hide (fun k (hk : k ≤ 2) => (show (sumF (fun i => if i = 0 then s else u) k).Within 1000000 from by
            match k, hk with
            | 0, _ =>
              show Num.zero.Within 1000000
              exact ⟨⟨by decide, by decide⟩, ⟨by decide, by decide⟩, ⟨by decide, by decide⟩, ⟨by decide, by decide⟩⟩
            | 1, _ =>
              have e : sumF (fun i => if i = 0 then s else u) 1 = s := by apply Num.same <;> simp [sumF, Num.add, Num.zero]
              rw [e]; exact hsw.more (by decide)
            | 2, _ => rw [sum_two]; exact (hsw.add hux).more (by decide)))
          obtain ⟨tt, htt⟩ : ∃ tt, tt = s.add u := ⟨_, rfl⟩
          rw [← htt] at HTT HSU
          rw [HTT.out] at HEE
          clear hs hu htt he hr hsw hux hgw HG HD hdl hre him
          go_upto_region 11 with fail
          obtain ⟨W1, hW1⟩ : ∃ q : World, q = wB.alloc (.cells #[.int .i64 dl, .int .i64 re, .int .i64 im] 41) := ⟨_, rfl⟩
          rw [← hW1]
          obtain ⟨g8, hg8⟩ : ∃ g, g = wB.heap.size := ⟨_, rfl⟩
          have b8 : Box W1 g8 41 #[.int .i64 dl, .int .i64 re, .int .i64 im] := by rw [hW1]; exact Box.made hg8
          have hx5 : g8 ≠ b5 := by have := hA.lt; omega
          rw [← hg8]
          replace hA : ArrNums W1 b5 (setNum E k s) := by rw [hW1]; exact hA.alloc _
          replace hZ : ArrNums W1 w.heap.size (fun _ => Num.zero) := by rw [hW1]; exact hZ.alloc _
          have hB1 : Below w.heap.size w W1 := by rw [hW1]; exact hB.alloc hB.size _
          clear hW1 hg8 hB c0 c1 c2 hpb
          obtain ⟨z0, z1, z2, z3⟩ := hA.cells hk8
          rw [HSF.out] at z0 z1 z2 z3
          obtain ⟨f0, f1, f2, f3⟩ := hA.frozen4 k
          have e0 := b8.at_ 0
          have e1 := b8.at_ 1
          have e2 := b8.at_ 2
          simp only [List.getElem?_toArray] at e0 e1 e2
          refine wp_region_held_drew (S := fun w' => w'.cell? ⟨g8, 0, none⟩ = some (.int .i64 dl) ∧ w'.cell? ⟨g8, 1, none⟩ = some (.int .i64 re) ∧ w'.cell? ⟨g8, 2, none⟩ = some (.int .i64 im)) (by kernel_rfl) ⟨e0, e1, e2⟩ (fun hHeld => ?_)
          refine wpAnyH_take (i := 0) (oi := ⟨some 24, _, _, _, _, _⟩) (v := ?_) rfl (by kernel_rfl) (by kernel_rfl) (by kernel_rfl) (fun _ _ _ h => h) (Or.inl ⟨by rfl, ?_⟩) (by assumption) ?_
          rotate_left
          · (intro w' hSw; (try dsimp only at hSw); go_simp <;> (with_reducible rfl))
          try simp only [Act.put, List.setIfInBounds_toArray, List.set_cons_zero, List.set_cons_succ]
          refine wpAnyH_take (i := 1) (oi := ⟨some 25, _, _, _, _, _⟩) (v := ?_) rfl (by kernel_rfl) (by kernel_rfl) (by kernel_rfl) (fun _ _ _ h => h) (Or.inl ⟨by rfl, ?_⟩) (by assumption) ?_
          rotate_left
          · (intro w' hSw; (try dsimp only at hSw); go_simp <;> (with_reducible rfl))
          try simp only [Act.put, List.setIfInBounds_toArray, List.set_cons_zero, List.set_cons_succ]
          refine wpAnyH_take (i := 2) (oi := ⟨some 26, _, _, _, _, _⟩) (v := ?_) rfl (by kernel_rfl) (by kernel_rfl) (by kernel_rfl) (fun _ _ _ h => h) (Or.inl ⟨by rfl, ?_⟩) (by assumption) ?_
          rotate_left
          · (intro w' hSw; (try dsimp only at hSw); go_simp <;> (with_reducible rfl))
          try simp only [Act.put, List.setIfInBounds_toArray, List.set_cons_zero, List.set_cons_succ]
          refine wpAnyH_take (i := 4) (oi := ⟨some 28, _, _, _, _, _⟩) (v := ?_) rfl (by kernel_rfl) (by kernel_rfl) (by kernel_rfl) (fun _ _ _ h => h) (Or.inl ⟨by rfl, ?_⟩) (by assumption) ?_
          rotate_left
          · (intro w' hSw; (try dsimp only at hSw); go_simp <;> (with_reducible rfl))
          try simp only [Act.put, List.setIfInBounds_toArray, List.set_cons_zero, List.set_cons_succ]
          refine wpAnyH_take (i := 5) (oi := ⟨some 29, _, _, _, _, _⟩) (v := ?_) rfl (by kernel_rfl) (by kernel_rfl) (by kernel_rfl) (fun _ _ _ h => h) (Or.inl ⟨by rfl, ?_⟩) (by assumption) ?_
          rotate_left
          · (intro w' hSw; (try dsimp only at hSw); go_simp <;> (with_reducible rfl))
          try simp only [Act.put, List.setIfInBounds_toArray, List.set_cons_zero, List.set_cons_succ]
          refine wpAnyH_take (i := 7) (oi := ⟨some 31, _, _, _, _, _⟩) (v := ?_) rfl (by kernel_rfl) (by kernel_rfl) (by kernel_rfl) (fun _ _ _ h => h) (Or.inl ⟨by rfl, ?_⟩) (by assumption) ?_
          rotate_left
          · (intro w' hSw; (try dsimp only at hSw); go_simp <;> (with_reducible rfl))
          try simp only [Act.put, List.setIfInBounds_toArray, List.set_cons_zero, List.set_cons_succ]
          refine wpAnyH_take (i := 8) (oi := ⟨some 32, _, _, _, _, _⟩) (v := ?_) rfl (by kernel_rfl) (by kernel_rfl) (by kernel_rfl) (fun _ _ _ h => h) (Or.inl ⟨by rfl, ?_⟩) (by assumption) ?_
          rotate_left
          · (intro w' hSw; (try dsimp only at hSw); go_simp <;> (with_reducible rfl))
          try simp only [Act.put, List.setIfInBounds_toArray, List.set_cons_zero, List.set_cons_succ]
          refine wpAnyH_take (i := 9) (oi := ⟨some 33, _, _, _, _, _⟩) (v := ?_) rfl (by kernel_rfl) (by kernel_rfl) (by kernel_rfl) (fun _ _ _ h => h) (Or.inl ⟨by rfl, ?_⟩) (by assumption) ?_
          rotate_left
          · (intro w' hSw; (try dsimp only at hSw); go_simp <;> (with_reducible rfl))
          try simp only [Act.put, List.setIfInBounds_toArray, List.set_cons_zero, List.set_cons_succ]
          refine wpAnyH_take (i := 10) (oi := ⟨some 34, _, _, _, _, _⟩) (v := ?_) rfl (by kernel_rfl) (by kernel_rfl) (by kernel_rfl) (fun _ _ _ h => h) (Or.inl ⟨by rfl, ?_⟩) (by assumption) ?_
          rotate_left
          · (intro w' hSw; (try dsimp only at hSw); go_simp <;> (with_reducible rfl))
          try simp only [Act.put, List.setIfInBounds_toArray, List.set_cons_zero, List.set_cons_succ]
          refine wpAnyH_take (i := 11) (oi := ⟨some 35, _, _, _, _, _⟩) (v := ?_) rfl (by kernel_rfl) (by kernel_rfl) (by kernel_rfl) (fun _ _ _ h => h) (Or.inl ⟨by rfl, ?_⟩) (by assumption) ?_
          rotate_left
          · (intro w' hSw; (try dsimp only at hSw); go_simp <;> (with_reducible rfl))
          try simp only [Act.put, List.setIfInBounds_toArray, List.set_cons_zero, List.set_cons_succ]
          refine wpAnyH_ready (rs := [3, 6]) (by kernel_rfl) (by simp) ?_
          refine AllReadyH.cons (o := ⟨some 27, _, _, _, _, _⟩) rfl (fun K' hK => ?_) (AllReadyH.cons (o := ⟨some 30, _, _, _, _, _⟩) rfl (fun K' hK => ?_) AllReadyH.nil)
          · skip
            go_simp
            refine hK.out _ _ ⟨e0, e1, e2⟩ (fun hHeld => ?_)
            clear hK K'
            try simp only [Act.put, List.setIfInBounds_toArray, List.set_cons_zero, List.set_cons_succ]
            refine wpAnyH_ready (rs := [6]) (by kernel_rfl) (by simp) ?_
            refine AllReadyH.cons (o := ⟨some 30, _, _, _, _, _⟩) rfl (fun K' hK => ?_) AllReadyH.nil
            go_simp
            go_at_call 31
            refine (HNO.out _).mono ?_
            rintro r' v2 ⟨rfl, hb2⟩
            have hc2 : Below W1.heap.size W1 v2 := by first | exact hb2 | exact below_of_drew hb2 | exact below_of_drew (below_of_drew hb2)
            have A2 := hA.below hc2
            have Z2 := hZ.below hc2
            have X2 := b8.below hc2
            have hB2 := hB1.trans (hc2.mono hB1.size)
            clear z0 z1 z2 z3 f0 f1 f2 f3 e0 e1 e2
            obtain ⟨z0, z1, z2, z3⟩ := A2.cells hk8
            rw [HSF.out] at z0 z1 z2 z3
            obtain ⟨f0, f1, f2, f3⟩ := A2.frozen4 k
            have e0 := X2.at_ 0
            have e1 := X2.at_ 1
            have e2 := X2.at_ 2
            simp only [List.getElem?_toArray] at e0 e1 e2
            go_wp2_with fail
            refine hK.out _ _ ⟨e0, e1, e2⟩ (fun hHeld => ?_)
            clear hK K'
            try simp only [Act.put, List.setIfInBounds_toArray, List.set_cons_zero, List.set_cons_succ]
            refine wpAnyH_ready (rs := [12]) (by kernel_rfl) (by simp) ?_
            refine AllReadyH.cons (o := ⟨some 36, _, _, _, _, _⟩) rfl (fun K' hK => ?_) AllReadyH.nil
            go_simp
            go_at_call 35
            refine (HTU.out _).mono ?_
            rintro r' v3 ⟨rfl, hb3⟩
            have hc3 : Below v2.heap.size v2 v3 := by first | exact hb3 | exact below_of_drew hb3 | exact below_of_drew (below_of_drew hb3)
            have A3 := A2.below hc3
            have Z3 := Z2.below hc3
            have X3 := X2.below hc3
            have hB3 := hB2.trans (hc3.mono hB2.size)
            clear z0 z1 z2 z3 f0 f1 f2 f3 e0 e1 e2
            obtain ⟨z0, z1, z2, z3⟩ := A3.cells hk8
            rw [HSF.out] at z0 z1 z2 z3
            obtain ⟨f0, f1, f2, f3⟩ := A3.frozen4 k
            have e0 := X3.at_ 0
            have e1 := X3.at_ 1
            have e2 := X3.at_ 2
            simp only [List.getElem?_toArray] at e0 e1 e2
            go_wp2_with fail
            refine hK.out _ _ ⟨e0, e1, e2⟩ (fun hHeld => ?_)
            clear hK K'
            try simp only [Act.put, List.setIfInBounds_toArray, List.set_cons_zero, List.set_cons_succ]
            refine wpAnyH_ready (rs := [13]) (by kernel_rfl) (by simp) ?_
            refine AllReadyH.cons (o := ⟨some 37, _, _, _, _, _⟩) rfl (fun K' hK => ?_) AllReadyH.nil
            go_simp
            obtain ⟨v4, hv4⟩ : ∃ q : World, q = v3.alloc (.cells #[.int .i64 s.a, .int .i64 s.b, .int .i64 s.c, .int .i64 s.d, .int .i64 u.a, .int .i64 u.b, .int .i64 u.c, .int .i64 u.d] 46) := ⟨_, rfl⟩
            have A4 := A3.alloc (.cells #[.int .i64 s.a, .int .i64 s.b, .int .i64 s.c, .int .i64 s.d, .int .i64 u.a, .int .i64 u.b, .int .i64 u.c, .int .i64 u.d] 46)
            have Z4 := Z3.alloc (.cells #[.int .i64 s.a, .int .i64 s.b, .int .i64 s.c, .int .i64 s.d, .int .i64 u.a, .int .i64 u.b, .int .i64 u.c, .int .i64 u.d] 46)
            have X4 := X3.alloc (.cells #[.int .i64 s.a, .int .i64 s.b, .int .i64 s.c, .int .i64 s.d, .int .i64 u.a, .int .i64 u.b, .int .i64 u.c, .int .i64 u.d] 46)
            have hB4 := hB3.alloc hB3.size (.cells #[.int .i64 s.a, .int .i64 s.b, .int .i64 s.c, .int .i64 s.d, .int .i64 u.a, .int .i64 u.b, .int .i64 u.c, .int .i64 u.d] 46)
            have bN4 : Box v4 v3.heap.size 46 #[.int .i64 s.a, .int .i64 s.b, .int .i64 s.c, .int .i64 s.d, .int .i64 u.a, .int .i64 u.b, .int .i64 u.c, .int .i64 u.d] := by rw [hv4]; exact Box.made rfl
            clear z0 z1 z2 z3 f0 f1 f2 f3 e0 e1 e2
            obtain ⟨z0, z1, z2, z3⟩ := A4.cells hk8
            rw [HSF.out] at z0 z1 z2 z3
            obtain ⟨f0, f1, f2, f3⟩ := A4.frozen4 k
            have e0 := X4.at_ 0
            have e1 := X4.at_ 1
            have e2 := X4.at_ 2
            simp only [List.getElem?_toArray] at e0 e1 e2
            refine hK.out _ _ ⟨e0, e1, e2⟩ (fun hHeld => ?_)
            clear hK K'
            try simp only [Act.put, List.setIfInBounds_toArray, List.set_cons_zero, List.set_cons_succ]
            refine wpAnyH_ready (rs := [14]) (by kernel_rfl) (by simp) ?_
            refine AllReadyH.cons (o := ⟨some 38, _, _, _, _, _⟩) rfl (fun K' hK => ?_) AllReadyH.nil
            go_simp
            go_at_call 29
            refine (sum_any (some ⟨v3.heap.size, 0, none⟩) 2 2 (fun i => if i = 0 then s else u) 1000000 _ (by decide) (NumsAt.two (by first | exact Box.made rfl | (rw [← hv4]; exact bN4))) HSB.out (by decide)).mono ?_
            rintro r' v5 ⟨rfl, hb5⟩
            rw [HSU.out]
            have hc5 : Below (v3.alloc (.cells #[.int .i64 s.a, .int .i64 s.b, .int .i64 s.c, .int .i64 s.d, .int .i64 u.a, .int .i64 u.b, .int .i64 u.c, .int .i64 u.d] 46)).heap.size (v3.alloc (.cells #[.int .i64 s.a, .int .i64 s.b, .int .i64 s.c, .int .i64 s.d, .int .i64 u.a, .int .i64 u.b, .int .i64 u.c, .int .i64 u.d] 46)) v5 := by first | exact hb5 | exact below_of_drew hb5 | exact ⟨hb5.os, hb5.tape, hb5.output, hb5.size, hb5.block⟩
            have A5 := A4.below hc5
            have Z5 := Z4.below hc5
            have X5 := X4.below hc5
            have hB5 := hB4.trans (hc5.mono hB4.size)
            clear z0 z1 z2 z3 f0 f1 f2 f3 e0 e1 e2
            obtain ⟨z0, z1, z2, z3⟩ := A5.cells hk8
            rw [HSF.out] at z0 z1 z2 z3
            obtain ⟨f0, f1, f2, f3⟩ := A5.frozen4 k
            have e0 := X5.at_ 0
            have e1 := X5.at_ 1
            have e2 := X5.at_ 2
            simp only [List.getElem?_toArray] at e0 e1 e2
            go_wp2_with fail
            refine hK.out _ _ ⟨e0, e1, e2⟩ (fun hHeld => ?_)
            clear hK K'
            try simp only [Act.put, List.setIfInBounds_toArray, List.set_cons_zero, List.set_cons_succ]
            refine wpAnyH_ready (rs := [15]) (by kernel_rfl) (by simp) ?_
            refine AllReadyH.cons (o := ⟨some 39, _, _, _, _, _⟩) rfl (fun K' hK => ?_) AllReadyH.nil
            go_simp
            refine hK.out _ _ ⟨e0, e1, e2⟩ (fun hHeld => ?_)
            clear hK K'
            try simp only [Act.put, List.setIfInBounds_toArray, List.set_cons_zero, List.set_cons_succ]
            refine wpAnyH_ready (rs := [16]) (by kernel_rfl) (by simp) ?_
            refine AllReadyH.cons (o := ⟨none, _, _, _, _, _⟩) rfl (fun K' hK => ?_) AllReadyH.nil
            go_simp
            have HX7 := X5.other4at (c := b5) (o := k * 4) hx5 (.int .i64 tt.a) (.int .i64 tt.b) (.int .i64 tt.c) (.int .i64 tt.d)
            refine hK.out _ _ (by have e0 := HX7.at_ 0; have e1 := HX7.at_ 1; have e2 := HX7.at_ 2; simp only [List.getElem?_toArray] at e0 e1 e2; exact ⟨e0, e1, e2⟩) (fun hHeld => ?_)
            clear hK K'
            try simp only [Act.put, List.setIfInBounds_toArray, List.set_cons_zero, List.set_cons_succ]
            have HA7 := hide (A5.put k tt)
            have HZ7 := hide (Z5.other (c := b5) (o := k * 4) hz5 (.int .i64 tt.a) (.int .i64 tt.b) (.int .i64 tt.c) (.int .i64 tt.d))
            have HL7 := hide (Below.put4at (c := b5) (o := k * 4) hB5 hw5 (.int .i64 tt.a) (.int .i64 tt.b) (.int .i64 tt.c) (.int .i64 tt.d))
            clear z0 z1 z2 z3 f0 f1 f2 f3 e0 e1 e2 HX7
            refine wpAnyH_done (by kernel_rfl) ?_ _
            go_wp2_with fail
            go_roundw
            case rel => exact ⟨j + 1, by omega, by go_num, HZ7.out, by rw [HTT.out]; exact HA7.out.congr HEE.out, HL7.out⟩
            case measure => simp [Go.RowKit.intOf]; omega
          · skip
            go_simp
            go_at_call 31
            refine (HNO.out _).mono ?_
            rintro r' v8 ⟨rfl, hb8⟩
            have hc8 : Below W1.heap.size W1 v8 := by first | exact hb8 | exact below_of_drew hb8 | exact below_of_drew (below_of_drew hb8)
            have A8 := hA.below hc8
            have Z8 := hZ.below hc8
            have X8 := b8.below hc8
            have hB8 := hB1.trans (hc8.mono hB1.size)
            clear z0 z1 z2 z3 f0 f1 f2 f3 e0 e1 e2
            obtain ⟨z0, z1, z2, z3⟩ := A8.cells hk8
            rw [HSF.out] at z0 z1 z2 z3
            obtain ⟨f0, f1, f2, f3⟩ := A8.frozen4 k
            have e0 := X8.at_ 0
            have e1 := X8.at_ 1
            have e2 := X8.at_ 2
            simp only [List.getElem?_toArray] at e0 e1 e2
            go_wp2_with fail
            refine hK.out _ _ ⟨e0, e1, e2⟩ (fun hHeld => ?_)
            clear hK K'
            try simp only [Act.put, List.setIfInBounds_toArray, List.set_cons_zero, List.set_cons_succ]
            refine wpAnyH_ready (rs := [3, 12]) (by kernel_rfl) (by simp) ?_
            refine AllReadyH.cons (o := ⟨some 27, _, _, _, _, _⟩) rfl (fun K' hK => ?_) (AllReadyH.cons (o := ⟨some 36, _, _, _, _, _⟩) rfl (fun K' hK => ?_) AllReadyH.nil)
            · skip
              go_simp
              refine hK.out _ _ ⟨e0, e1, e2⟩ (fun hHeld => ?_)
              clear hK K'
              try simp only [Act.put, List.setIfInBounds_toArray, List.set_cons_zero, List.set_cons_succ]
              refine wpAnyH_ready (rs := [12]) (by kernel_rfl) (by simp) ?_
              refine AllReadyH.cons (o := ⟨some 36, _, _, _, _, _⟩) rfl (fun K' hK => ?_) AllReadyH.nil
              go_simp
              go_at_call 35
              refine (HTU.out _).mono ?_
              rintro r' v10 ⟨rfl, hb10⟩
              have hc10 : Below v8.heap.size v8 v10 := by first | exact hb10 | exact below_of_drew hb10 | exact below_of_drew (below_of_drew hb10)
              have A10 := A8.below hc10
              have Z10 := Z8.below hc10
              have X10 := X8.below hc10
              have hB10 := hB8.trans (hc10.mono hB8.size)
              clear z0 z1 z2 z3 f0 f1 f2 f3 e0 e1 e2
              obtain ⟨z0, z1, z2, z3⟩ := A10.cells hk8
              rw [HSF.out] at z0 z1 z2 z3
              obtain ⟨f0, f1, f2, f3⟩ := A10.frozen4 k
              have e0 := X10.at_ 0
              have e1 := X10.at_ 1
              have e2 := X10.at_ 2
              simp only [List.getElem?_toArray] at e0 e1 e2
              go_wp2_with fail
              refine hK.out _ _ ⟨e0, e1, e2⟩ (fun hHeld => ?_)
              clear hK K'
              try simp only [Act.put, List.setIfInBounds_toArray, List.set_cons_zero, List.set_cons_succ]
              refine wpAnyH_ready (rs := [13]) (by kernel_rfl) (by simp) ?_
              refine AllReadyH.cons (o := ⟨some 37, _, _, _, _, _⟩) rfl (fun K' hK => ?_) AllReadyH.nil
              go_simp
              obtain ⟨v11, hv11⟩ : ∃ q : World, q = v10.alloc (.cells #[.int .i64 s.a, .int .i64 s.b, .int .i64 s.c, .int .i64 s.d, .int .i64 u.a, .int .i64 u.b, .int .i64 u.c, .int .i64 u.d] 46) := ⟨_, rfl⟩
              have A11 := A10.alloc (.cells #[.int .i64 s.a, .int .i64 s.b, .int .i64 s.c, .int .i64 s.d, .int .i64 u.a, .int .i64 u.b, .int .i64 u.c, .int .i64 u.d] 46)
              have Z11 := Z10.alloc (.cells #[.int .i64 s.a, .int .i64 s.b, .int .i64 s.c, .int .i64 s.d, .int .i64 u.a, .int .i64 u.b, .int .i64 u.c, .int .i64 u.d] 46)
              have X11 := X10.alloc (.cells #[.int .i64 s.a, .int .i64 s.b, .int .i64 s.c, .int .i64 s.d, .int .i64 u.a, .int .i64 u.b, .int .i64 u.c, .int .i64 u.d] 46)
              have hB11 := hB10.alloc hB10.size (.cells #[.int .i64 s.a, .int .i64 s.b, .int .i64 s.c, .int .i64 s.d, .int .i64 u.a, .int .i64 u.b, .int .i64 u.c, .int .i64 u.d] 46)
              have bN11 : Box v11 v10.heap.size 46 #[.int .i64 s.a, .int .i64 s.b, .int .i64 s.c, .int .i64 s.d, .int .i64 u.a, .int .i64 u.b, .int .i64 u.c, .int .i64 u.d] := by rw [hv11]; exact Box.made rfl
              clear z0 z1 z2 z3 f0 f1 f2 f3 e0 e1 e2
              obtain ⟨z0, z1, z2, z3⟩ := A11.cells hk8
              rw [HSF.out] at z0 z1 z2 z3
              obtain ⟨f0, f1, f2, f3⟩ := A11.frozen4 k
              have e0 := X11.at_ 0
              have e1 := X11.at_ 1
              have e2 := X11.at_ 2
              simp only [List.getElem?_toArray] at e0 e1 e2
              refine hK.out _ _ ⟨e0, e1, e2⟩ (fun hHeld => ?_)
              clear hK K'
              try simp only [Act.put, List.setIfInBounds_toArray, List.set_cons_zero, List.set_cons_succ]
              refine wpAnyH_ready (rs := [14]) (by kernel_rfl) (by simp) ?_
              refine AllReadyH.cons (o := ⟨some 38, _, _, _, _, _⟩) rfl (fun K' hK => ?_) AllReadyH.nil
              go_simp
              go_at_call 29
              refine (sum_any (some ⟨v10.heap.size, 0, none⟩) 2 2 (fun i => if i = 0 then s else u) 1000000 _ (by decide) (NumsAt.two (by first | exact Box.made rfl | (rw [← hv11]; exact bN11))) HSB.out (by decide)).mono ?_
              rintro r' v12 ⟨rfl, hb12⟩
              rw [HSU.out]
              have hc12 : Below (v10.alloc (.cells #[.int .i64 s.a, .int .i64 s.b, .int .i64 s.c, .int .i64 s.d, .int .i64 u.a, .int .i64 u.b, .int .i64 u.c, .int .i64 u.d] 46)).heap.size (v10.alloc (.cells #[.int .i64 s.a, .int .i64 s.b, .int .i64 s.c, .int .i64 s.d, .int .i64 u.a, .int .i64 u.b, .int .i64 u.c, .int .i64 u.d] 46)) v12 := by first | exact hb12 | exact below_of_drew hb12 | exact ⟨hb12.os, hb12.tape, hb12.output, hb12.size, hb12.block⟩
              have A12 := A11.below hc12
              have Z12 := Z11.below hc12
              have X12 := X11.below hc12
              have hB12 := hB11.trans (hc12.mono hB11.size)
              clear z0 z1 z2 z3 f0 f1 f2 f3 e0 e1 e2
              obtain ⟨z0, z1, z2, z3⟩ := A12.cells hk8
              rw [HSF.out] at z0 z1 z2 z3
              obtain ⟨f0, f1, f2, f3⟩ := A12.frozen4 k
              have e0 := X12.at_ 0
              have e1 := X12.at_ 1
              have e2 := X12.at_ 2
              simp only [List.getElem?_toArray] at e0 e1 e2
              go_wp2_with fail
              refine hK.out _ _ ⟨e0, e1, e2⟩ (fun hHeld => ?_)
              clear hK K'
              try simp only [Act.put, List.setIfInBounds_toArray, List.set_cons_zero, List.set_cons_succ]
              refine wpAnyH_ready (rs := [15]) (by kernel_rfl) (by simp) ?_
              refine AllReadyH.cons (o := ⟨some 39, _, _, _, _, _⟩) rfl (fun K' hK => ?_) AllReadyH.nil
              go_simp
              refine hK.out _ _ ⟨e0, e1, e2⟩ (fun hHeld => ?_)
              clear hK K'
              try simp only [Act.put, List.setIfInBounds_toArray, List.set_cons_zero, List.set_cons_succ]
              refine wpAnyH_ready (rs := [16]) (by kernel_rfl) (by simp) ?_
              refine AllReadyH.cons (o := ⟨none, _, _, _, _, _⟩) rfl (fun K' hK => ?_) AllReadyH.nil
              go_simp
              have HX14 := X12.other4at (c := b5) (o := k * 4) hx5 (.int .i64 tt.a) (.int .i64 tt.b) (.int .i64 tt.c) (.int .i64 tt.d)
              refine hK.out _ _ (by have e0 := HX14.at_ 0; have e1 := HX14.at_ 1; have e2 := HX14.at_ 2; simp only [List.getElem?_toArray] at e0 e1 e2; exact ⟨e0, e1, e2⟩) (fun hHeld => ?_)
              clear hK K'
              try simp only [Act.put, List.setIfInBounds_toArray, List.set_cons_zero, List.set_cons_succ]
              have HA14 := hide (A12.put k tt)
              have HZ14 := hide (Z12.other (c := b5) (o := k * 4) hz5 (.int .i64 tt.a) (.int .i64 tt.b) (.int .i64 tt.c) (.int .i64 tt.d))
              have HL14 := hide (Below.put4at (c := b5) (o := k * 4) hB12 hw5 (.int .i64 tt.a) (.int .i64 tt.b) (.int .i64 tt.c) (.int .i64 tt.d))
              clear z0 z1 z2 z3 f0 f1 f2 f3 e0 e1 e2 HX14
              refine wpAnyH_done (by kernel_rfl) ?_ _
              go_wp2_with fail
              go_roundw
              case rel => exact ⟨j + 1, by omega, by go_num, HZ14.out, by rw [HTT.out]; exact HA14.out.congr HEE.out, HL14.out⟩
              case measure => simp [Go.RowKit.intOf]; omega
            · skip
              go_simp
              go_at_call 35
              refine (HTU.out _).mono ?_
              rintro r' v15 ⟨rfl, hb15⟩
              have hc15 : Below v8.heap.size v8 v15 := by first | exact hb15 | exact below_of_drew hb15 | exact below_of_drew (below_of_drew hb15)
              have A15 := A8.below hc15
              have Z15 := Z8.below hc15
              have X15 := X8.below hc15
              have hB15 := hB8.trans (hc15.mono hB8.size)
              clear z0 z1 z2 z3 f0 f1 f2 f3 e0 e1 e2
              obtain ⟨z0, z1, z2, z3⟩ := A15.cells hk8
              rw [HSF.out] at z0 z1 z2 z3
              obtain ⟨f0, f1, f2, f3⟩ := A15.frozen4 k
              have e0 := X15.at_ 0
              have e1 := X15.at_ 1
              have e2 := X15.at_ 2
              simp only [List.getElem?_toArray] at e0 e1 e2
              go_wp2_with fail
              refine hK.out _ _ ⟨e0, e1, e2⟩ (fun hHeld => ?_)
              clear hK K'
              try simp only [Act.put, List.setIfInBounds_toArray, List.set_cons_zero, List.set_cons_succ]
              refine wpAnyH_ready (rs := [3]) (by kernel_rfl) (by simp) ?_
              refine AllReadyH.cons (o := ⟨some 27, _, _, _, _, _⟩) rfl (fun K' hK => ?_) AllReadyH.nil
              go_simp
              refine hK.out _ _ ⟨e0, e1, e2⟩ (fun hHeld => ?_)
              clear hK K'
              try simp only [Act.put, List.setIfInBounds_toArray, List.set_cons_zero, List.set_cons_succ]
              refine wpAnyH_ready (rs := [13]) (by kernel_rfl) (by simp) ?_
              refine AllReadyH.cons (o := ⟨some 37, _, _, _, _, _⟩) rfl (fun K' hK => ?_) AllReadyH.nil
              go_simp
              obtain ⟨v17, hv17⟩ : ∃ q : World, q = v15.alloc (.cells #[.int .i64 s.a, .int .i64 s.b, .int .i64 s.c, .int .i64 s.d, .int .i64 u.a, .int .i64 u.b, .int .i64 u.c, .int .i64 u.d] 46) := ⟨_, rfl⟩
              have A17 := A15.alloc (.cells #[.int .i64 s.a, .int .i64 s.b, .int .i64 s.c, .int .i64 s.d, .int .i64 u.a, .int .i64 u.b, .int .i64 u.c, .int .i64 u.d] 46)
              have Z17 := Z15.alloc (.cells #[.int .i64 s.a, .int .i64 s.b, .int .i64 s.c, .int .i64 s.d, .int .i64 u.a, .int .i64 u.b, .int .i64 u.c, .int .i64 u.d] 46)
              have X17 := X15.alloc (.cells #[.int .i64 s.a, .int .i64 s.b, .int .i64 s.c, .int .i64 s.d, .int .i64 u.a, .int .i64 u.b, .int .i64 u.c, .int .i64 u.d] 46)
              have hB17 := hB15.alloc hB15.size (.cells #[.int .i64 s.a, .int .i64 s.b, .int .i64 s.c, .int .i64 s.d, .int .i64 u.a, .int .i64 u.b, .int .i64 u.c, .int .i64 u.d] 46)
              have bN17 : Box v17 v15.heap.size 46 #[.int .i64 s.a, .int .i64 s.b, .int .i64 s.c, .int .i64 s.d, .int .i64 u.a, .int .i64 u.b, .int .i64 u.c, .int .i64 u.d] := by rw [hv17]; exact Box.made rfl
              clear z0 z1 z2 z3 f0 f1 f2 f3 e0 e1 e2
              obtain ⟨z0, z1, z2, z3⟩ := A17.cells hk8
              rw [HSF.out] at z0 z1 z2 z3
              obtain ⟨f0, f1, f2, f3⟩ := A17.frozen4 k
              have e0 := X17.at_ 0
              have e1 := X17.at_ 1
              have e2 := X17.at_ 2
              simp only [List.getElem?_toArray] at e0 e1 e2
              refine hK.out _ _ ⟨e0, e1, e2⟩ (fun hHeld => ?_)
              clear hK K'
              try simp only [Act.put, List.setIfInBounds_toArray, List.set_cons_zero, List.set_cons_succ]
              refine wpAnyH_ready (rs := [14]) (by kernel_rfl) (by simp) ?_
              refine AllReadyH.cons (o := ⟨some 38, _, _, _, _, _⟩) rfl (fun K' hK => ?_) AllReadyH.nil
              go_simp
              go_at_call 29
              refine (sum_any (some ⟨v15.heap.size, 0, none⟩) 2 2 (fun i => if i = 0 then s else u) 1000000 _ (by decide) (NumsAt.two (by first | exact Box.made rfl | (rw [← hv17]; exact bN17))) HSB.out (by decide)).mono ?_
              rintro r' v18 ⟨rfl, hb18⟩
              rw [HSU.out]
              have hc18 : Below (v15.alloc (.cells #[.int .i64 s.a, .int .i64 s.b, .int .i64 s.c, .int .i64 s.d, .int .i64 u.a, .int .i64 u.b, .int .i64 u.c, .int .i64 u.d] 46)).heap.size (v15.alloc (.cells #[.int .i64 s.a, .int .i64 s.b, .int .i64 s.c, .int .i64 s.d, .int .i64 u.a, .int .i64 u.b, .int .i64 u.c, .int .i64 u.d] 46)) v18 := by first | exact hb18 | exact below_of_drew hb18 | exact ⟨hb18.os, hb18.tape, hb18.output, hb18.size, hb18.block⟩
              have A18 := A17.below hc18
              have Z18 := Z17.below hc18
              have X18 := X17.below hc18
              have hB18 := hB17.trans (hc18.mono hB17.size)
              clear z0 z1 z2 z3 f0 f1 f2 f3 e0 e1 e2
              obtain ⟨z0, z1, z2, z3⟩ := A18.cells hk8
              rw [HSF.out] at z0 z1 z2 z3
              obtain ⟨f0, f1, f2, f3⟩ := A18.frozen4 k
              have e0 := X18.at_ 0
              have e1 := X18.at_ 1
              have e2 := X18.at_ 2
              simp only [List.getElem?_toArray] at e0 e1 e2
              go_wp2_with fail
              refine hK.out _ _ ⟨e0, e1, e2⟩ (fun hHeld => ?_)
              clear hK K'
              try simp only [Act.put, List.setIfInBounds_toArray, List.set_cons_zero, List.set_cons_succ]
              refine wpAnyH_ready (rs := [15]) (by kernel_rfl) (by simp) ?_
              refine AllReadyH.cons (o := ⟨some 39, _, _, _, _, _⟩) rfl (fun K' hK => ?_) AllReadyH.nil
              go_simp
              refine hK.out _ _ ⟨e0, e1, e2⟩ (fun hHeld => ?_)
              clear hK K'
              try simp only [Act.put, List.setIfInBounds_toArray, List.set_cons_zero, List.set_cons_succ]
              refine wpAnyH_ready (rs := [16]) (by kernel_rfl) (by simp) ?_
              refine AllReadyH.cons (o := ⟨none, _, _, _, _, _⟩) rfl (fun K' hK => ?_) AllReadyH.nil
              go_simp
              have HX20 := X18.other4at (c := b5) (o := k * 4) hx5 (.int .i64 tt.a) (.int .i64 tt.b) (.int .i64 tt.c) (.int .i64 tt.d)
              refine hK.out _ _ (by have e0 := HX20.at_ 0; have e1 := HX20.at_ 1; have e2 := HX20.at_ 2; simp only [List.getElem?_toArray] at e0 e1 e2; exact ⟨e0, e1, e2⟩) (fun hHeld => ?_)
              clear hK K'
              try simp only [Act.put, List.setIfInBounds_toArray, List.set_cons_zero, List.set_cons_succ]
              have HA20 := hide (A18.put k tt)
              have HZ20 := hide (Z18.other (c := b5) (o := k * 4) hz5 (.int .i64 tt.a) (.int .i64 tt.b) (.int .i64 tt.c) (.int .i64 tt.d))
              have HL20 := hide (Below.put4at (c := b5) (o := k * 4) hB18 hw5 (.int .i64 tt.a) (.int .i64 tt.b) (.int .i64 tt.c) (.int .i64 tt.d))
              clear z0 z1 z2 z3 f0 f1 f2 f3 e0 e1 e2 HX20
              refine wpAnyH_done (by kernel_rfl) ?_ _
              go_wp2_with fail
              go_roundw
              case rel => exact ⟨j + 1, by omega, by go_num, HZ20.out, by rw [HTT.out]; exact HA20.out.congr HEE.out, HL20.out⟩
              case measure => simp [Go.RowKit.intOf]; omega
        · obtain rfl : j = n := by omega
          go_wp2_with fail
          go_roundw
          case rel =>
            refine ⟨k + 1, by omega, by go_num, hZ, hA.congr fun q _ => ?_, hB⟩
            show (if q = k then respTo D R I k j else E q) = if q < k + 1 then respTo D R I q j else Num.zero
            by_cases e : q = k
            · subst e; rw [if_pos rfl, if_pos (by omega)]
            · rw [if_neg e, HE.out]
              show (if q < k then _ else Num.zero) = _
              by_cases e2 : q < k
              · rw [if_pos e2, if_pos (by omega)]
              · rw [if_neg e2, if_neg (by omega)]
          case measure => simp [Go.RowKit.intOf]; omega
    · obtain rfl : k = 8 := by omega
      have HZ := hide hZ
      have HA := hide (hA.congr (G := fun k => respTo D R I k n) fun q hq => if_pos hq)
      go_upto_region 14 with fail
      go_wp2_with (first | (refine wpList_load8 rfl (.tmp 5) rfl b5 (fun k => respTo D R I k n) rfl HA.out ?_) | (refine wpList_store8 rfl (.tmp 2) (.tmp 42) rfl w.heap.size (fun _ => Num.zero) (fun k => respTo D R I k n) rfl rfl HZ.out ?_; intro W2 r2 o2))
      refine bodyPost_ret (v := .tuple #[.agg (arr8 fun k => respTo D R I k n), .int .i64 0]) (result8 rfl _ rfl rfl r2) rfl ⟨rfl, hB.trans (o2.to_below (Nat.le_refl _) hB.size)⟩
end Go.Proofs.Ytcndeegfkgfnkaa
