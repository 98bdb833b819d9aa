/- Lemmas: Aj, Ak, Vb, Vc, Vd, Wq, Ek, Vf. -/
import Derived.ChangeKeysEq
import Derived.StillTailTactics
import Derived.Deep.RegionHeld3
import Derived.Test.YtibdbopejnkefaaBk02
import Derived.Test.YtibdbopejnkefaaBk05
import Derived.Test.YtibdbopejnkefaaBk06
import Derived.Test.YtibdbopejnkefaaBk11
set_option linter.unusedVariables false
set_option linter.unusedSimpArgs false
/- ResponseOf of the code, any paths. -/
namespace Go.Proofs.Ytibdbopejnkefaa
open Go.RowKit Go.Great
set_option maxHeartbeats 4000000 in
set_option maxRecDepth 100000 in
theorem ResponseOf_wrong (A : Option Addr) (n c : Nat) (D R I : Nat → Int) (w : World) (hn : n ≤ 100000) (hC : chkE n D R I ≠ 0) (hI : PathsAt w 0 A n D R I) :
    Calls Try.prog 11 #[.slice A n c] w fun e w' => e = .returned (.tuple #[.agg (arr8 fun _ => Num.zero), .int .i64 (chkE n D R I)]) ∧ Below w.heap.size w w' := by
  have HI := hide hI
  have HP := hide (fun W (h : PathsAt W 0 A n D R I) => pathsError_any A n c D R I W hn h)
  generalize chkE n D R I = V at *
  have tv : (V != 0) = true := by simpa using hC
  clear hI hC
  go_enter Try.func11, Try.ntmps11
  go_upto_region 1 with (refine wpList_allocTo rfl (some 2) rfl (.pointer (some ⟨w.heap.size, 0, none⟩)) (.cells (arr8 fun _ => Num.zero) 38) (by kernel_rfl) ?_)
  obtain ⟨W1, hW1⟩ : ∃ q : World, q = w.alloc (.cells (arr8 fun _ => Num.zero) 38) := ⟨_, rfl⟩
  rw [← hW1]
  have r1 : ArrNums W1 w.heap.size (fun _ => Num.zero) := by rw [hW1]; exact arrNums_alloc w _ _ rfl
  have hB1 : Below w.heap.size w W1 := by rw [hW1]; (repeat (first | (with_reducible exact Below.refl _ _) | (with_reducible refine Go.below_drewN ?_ _) | (with_reducible refine Below.drew ?_) | (with_reducible refine Below.alloc ?_ (by first | exact Nat.le_refl _ | (simp; done) | (simp; omega) | omega) _) | (with_reducible refine Below.setCell ?_ (by first | exact Nat.le_refl _ | (simp; done) | (simp; omega) | omega) _)))
  clear hW1
  go_wp2_with fail
  refine (HP.out _ (HI.out.below hB1)).mono ?_
  rintro e w2 ⟨rfl, hb2⟩
  have HZ := hide (r1.below hb2)
  have HB2 := hide (hB1.trans (hb2.mono hB1.size))
  clear hb2 hB1 HP r1
  go_upto_region 3 with fail
  have hz8 : ∀ a : Act, (execOp a.eval (⟨some 13, .build 38 #[], 38, "", #[], none⟩ : Oper)).run Try.prog w2 = .ok (.value (.agg (arr8 fun _ => Num.zero))) w2 := fun a => by kernel_rfl
  go_wp2_with (refine wpList_store8 rfl (.tmp 2) (.tmp 13) rfl w.heap.size (fun _ => Num.zero) (fun _ => Num.zero) rfl (by first | rfl | kernel_rfl) HZ.out ?_; intro W2 r2 o2)
  refine bodyPost_ret (v := .tuple #[.agg (arr8 fun _ => Num.zero), .int .i64 V]) (result8 rfl _ rfl rfl r2) rfl ⟨rfl, HB2.out.trans (o2.to_below (Nat.le_refl _) HB2.out.size)⟩
theorem ResponseOf_any (A : Option Addr) (n c : Nat) (D R I : Nat → Int) (w : World) (hn : n ≤ 100000) (hI : PathsAt w 0 A n D R I) :
    Calls Try.prog 11 #[.slice A n c] w fun e w' => e = .returned (.tuple #[.agg (arr8 fun k => if chkE n D R I = 0 then respTo D R I k n else Num.zero), .int .i64 (chkE n D R I)]) ∧ Below w.heap.size w w' := by
  by_cases h : chkE n D R I = 0
  · simp only [h, if_true]
    obtain ⟨h0, h1, h2⟩ := chkE_right h
    exact ResponseOf_right A n c D R I w ⟨h0, h1, fun j hj => (h2 j hj).1, fun j hj => ⟨(h2 j hj).2.1.1, (h2 j hj).2.1.2, (h2 j hj).2.2.1, (h2 j hj).2.2.2⟩⟩ h hI
  · simp only [h, if_false]
    exact ResponseOf_wrong A n c D R I w hn h hI
end Go.Proofs.Ytibdbopejnkefaa
/- An array of eight numbers is equal to itself. -/
namespace Go.Proofs.Ytibdbopejnkefaa
open Go.RowKit
set_option maxRecDepth 100000 in
theorem equal4_same (a b c d : Int) (w : World) : (Op.equalIn 9999 35 (.agg #[.int .i64 a, .int .i64 b, .int .i64 c, .int .i64 d]) (.agg #[.int .i64 a, .int .i64 b, .int .i64 c, .int .i64 d])).run Try.prog w = .ok true w := by
  go_simp
theorem arr8_four (F : Nat → Num) (k : Nat) (hk : k < 8) : (arr8 F).extract (k * 4) (k * 4 + 4) = #[.int .i64 (F k).a, .int .i64 (F k).b, .int .i64 (F k).c, .int .i64 (F k).d] := by
  obtain rfl | rfl | rfl | rfl | rfl | rfl | rfl | rfl : k = 0 ∨ k = 1 ∨ k = 2 ∨ k = 3 ∨ k = 4 ∨ k = 5 ∨ k = 6 ∨ k = 7 := by omega
  all_goals rfl
theorem equal8_same (F : Nat → Num) (w : World) : (Op.equalIn 10000 38 (.agg (arr8 F)) (.agg (arr8 F))).run Try.prog w = .ok true w := by
  obtain ⟨i0, hi, hz0, hz1, hz2⟩ := info_parts numInfo
  have h1 : Try.prog.cellsOf 35 = 4 := by kernel_rfl
  have h := run_equalIn_array (P := Try.prog) (w := w) 9999 (n := 8) (arr8 F) (arr8 F) Try.underlying38 hi
  refine h.trans ?_
  rw [h1]
  have e : ∀ (is : List Nat), (∀ k ∈ is, k < 8) → (Op.eqItems 9999 35 4 (arr8 F) (arr8 F) is).run Try.prog w = .ok true w := by
    intro is
    induction is with
    | nil => intro _; simp [Op.eqItems]
    | cons k is ih =>
      intro hk
      have h4 := arr8_four F k (hk k (by simp))
      have ih := ih fun q hq => hk q (by simp [hq])
      simp only [Op.eqItems, Sem.run_bind]
      simp [go_sem, h4, ih, equal4_same]
  exact e _ fun k hk => List.mem_range.1 hk
end Go.Proofs.Ytibdbopejnkefaa
/- signsOf of the code. -/
namespace Go.Proofs.Ytibdbopejnkefaa
open Go.RowKit Go.Great
/-- The product of what stands at the first i taps, from place k on. -/
def tapP (T : Nat → Nat) (S : Nat → Int) (k : Nat) : Nat → Int
  | 0 => 1
  | i + 1 => tapP T S k i * S (k + T i)
/-- The array behind k further places. -/
def sgA (T : Nat → Nat) (m : Nat) : Nat → Nat → Int
  | 0, j => if j = 0 then -1 else if j < 5 then 1 else 0
  | k + 1, j => if j = k + 5 then tapP T (sgA T m k) k m else sgA T m k j
def setI (S : Nat → Int) (k : Nat) (x : Int) (j : Nat) : Int := if j = k then x else S j
def IsSign (x : Int) : Prop := x = 1 ∨ x = -1
theorem IsSign.mul {x y : Int} (h : IsSign x) (k : IsSign y) : IsSign (x * y) := by
  rcases h with rfl | rfl <;> rcases k with rfl | rfl <;> simp [IsSign]
theorem tapP_sign {T : Nat → Nat} {S : Nat → Int} {k m : Nat} (hT : ∀ i, i < m → T i < 5) (hS : ∀ j, j < k + 5 → IsSign (S j)) : ∀ i, i ≤ m → IsSign (tapP T S k i)
  | 0, _ => .inl rfl
  | i + 1, h => (tapP_sign hT hS i (by omega)).mul (hS _ (by have := hT i (by omega); omega))
theorem sgA_sign {T : Nat → Nat} {m : Nat} (hT : ∀ i, i < m → T i < 5) : ∀ k j, j < k + 5 → IsSign (sgA T m k j)
  | 0, j, h => by
    unfold sgA
    by_cases h0 : j = 0
    · rw [if_pos h0]; exact .inr rfl
    · rw [if_neg h0, if_pos (by omega)]; exact .inl rfl
  | k + 1, j, h => by
    unfold sgA
    by_cases h0 : j = k + 5
    · rw [if_pos h0]; exact tapP_sign hT (fun j hj => sgA_sign hT k j hj) m (Nat.le_refl _)
    · rw [if_neg h0]; exact sgA_sign hT k j (by omega)
/-- The taps of a block of its own. -/
theorem tapP_setI (T : Nat → Nat) (S : Nat → Int) (k : Nat) (x : Int) (m : Nat) (hT : ∀ i, i < m → T i < 5) : ∀ i, i ≤ m → tapP T (setI S (k + 5) x) k i = tapP T S k i
  | 0, _ => rfl
  | i + 1, h => by
    show tapP T (setI S (k + 5) x) k i * setI S (k + 5) x (k + T i) = _
    rw [tapP_setI T S k x m hT i (by omega), setI, if_neg (by have := hT i (by omega); omega)]
    rfl
/-- What the array is at last. -/
def sgF (T : Nat → Nat) (m : Nat) : Nat → Int := sgA T m 26
def s0F (j : Nat) : Int := if j = 0 then -1 else if j < 5 then 1 else 0
theorem sgA_zero (T : Nat → Nat) (m : Nat) : sgA T m 0 = s0F := by funext j; rfl
set_option maxHeartbeats 4000000 in
set_option maxRecDepth 100000 in
theorem signsOf_any (A : Option Addr) (m c : Nat) (T : Nat → Nat) (w : World) (hm : m ≤ 31) (hT : ∀ i, i < m → T i < 5) (hI : IntsAt w 0 A m (fun i => (T i : Int))) :
    Calls Try.prog 44 #[.slice A m c] w fun e w' => e = .returned (.agg (arr31 (sgF T m))) ∧ Below w.heap.size w w' := by
  have HI := hide hI
  have HT := hide hT
  clear hI hT
  go_enter Try.func44, Try.ntmps44
  go_upto_region 1 with (refine wpList_allocTo rfl _ rfl (.pointer (some ⟨w.heap.size, 0, none⟩)) (.cells (arr31 fun _ => 0) 85) (by kernel_rfl) ?_)
  obtain ⟨W1, hW1⟩ : ∃ q : World, q = w.alloc (.cells (arr31 fun _ => 0) 85) := ⟨_, rfl⟩
  rw [← hW1]
  have r1 : W1.rowIs w.heap.size 85 31 (arrF fun _ => 0) := by rw [hW1]; exact rowIs_arr31 w _ _ rfl
  have hB1 : Below w.heap.size w W1 := by rw [hW1]; (repeat (first | (with_reducible exact Below.refl _ _) | (with_reducible refine Go.below_drewN ?_ _) | (with_reducible refine Below.drew ?_) | (with_reducible refine Below.alloc ?_ (by first | exact Nat.le_refl _ | (simp; done) | (simp; omega) | omega) _) | (with_reducible refine Below.setCell ?_ (by first | exact Nat.le_refl _ | (simp; done) | (simp; omega) | omega) _)))
  have hs1 : W1.heap.size = w.heap.size + 1 := by rw [hW1]; simp
  clear hW1
  go_upto_region 2 with (first | (refine wpList_buildTo rfl 85 _ rfl (some 7) rfl (arr31 s0F) (by kernel_rfl) ?_) | (refine wpList_store31 rfl (.tmp 3) (.tmp 7) rfl W1.heap.size (arrF fun _ => 0) s0F rfl rfl (rowIs_arr31 W1 _ _ rfl) ?_; intro W2 r2 o2) | (refine wpList_allocTo rfl _ rfl (.pointer (some ⟨W1.heap.size, 0, none⟩)) (.cells (arr31 fun _ => 0) 85) (by kernel_rfl) ?_))
  have r12 : W2.rowIs w.heap.size 85 31 (arrF fun _ => 0) := o2.row (r1.alloc _) (by omega)
  have hB2 : Below w.heap.size w W2 := (hB1.alloc hB1.size _).trans (o2.to_below (by omega) (by simp; omega))
  obtain ⟨g, hg⟩ : ∃ g, g = W1.heap.size := ⟨_, rfl⟩
  rw [← hg] at r2
  rw [← hg]
  have hg0 : w.heap.size < g := by omega
  clear hg hs1 hB1 r1 o2
  go_wp2_with fail
  go_loopw [4] (fun i wr => ∃ n : Nat, 5 ≤ n ∧ n ≤ 31 ∧ i = .int .i64 (n : Int) ∧ wr.rowIs w.heap.size 85 31 (arrF fun _ => 0) ∧ wr.rowIs g 85 31 (arrF (sgA T m (n - 5))) ∧ Below w.heap.size w wr) (fun i _ => 31 - (Go.RowKit.intOf i).toNat)
  case atStart => exact ⟨5, by decide, by decide, rfl, r12, by rw [show 5 - 5 = 0 from rfl, sgA_zero]; exact r2, hB2⟩
  case round =>
    clear r12 r2 hB2
    obtain ⟨n, h5, h31, rfl, hZ, hR, hB⟩ := hrel
    obtain ⟨wA, rfl⟩ : ∃ x : World, x = wr := ⟨_, rfl⟩
    by_cases hlt : n < 31
    · have hltz : (n : Int) < 31 := by omega
      obtain ⟨d, hd⟩ : ∃ d, d = n - 5 := ⟨_, rfl⟩
      obtain ⟨S, hS⟩ : ∃ S, S = sgA T m d := ⟨_, rfl⟩
      have HD := hide hd
      have HS := hide hS
      rw [← hd, ← hS] at hR
      have hc0 := hR.cell hlt
      have hf0 := hR.frozen n
      clear hd hS
      go_wp2_with fail
      have r3 : (wA.setCell ⟨g, n, none⟩ (.int .i64 1)).rowIs g 85 31 (arrF (setI S n 1)) := rowIs_setI hR n 1
      have z3 := World.rowIs.setOther hZ (a := ⟨g, n, none⟩) (by show w.heap.size ≠ g; omega) (.int .i64 1)
      have hB3 := hB.setCell (p := ⟨g, n, none⟩) (by show w.heap.size ≤ g; omega) (.int .i64 1)
      go_loopw [16] (fun x wr => ∃ i : Nat, i ≤ m ∧ x = .int .i64 (i : Int) ∧ wr.rowIs w.heap.size 85 31 (arrF fun _ => 0) ∧ wr.rowIs g 85 31 (arrF (setI S n (tapP T S d i))) ∧ Below w.heap.size w wr) (fun x _ => m - (Go.RowKit.intOf x).toNat)
      case atStart => exact ⟨0, Nat.zero_le _, rfl, z3, r3, hB3⟩
      case round =>
        clear r3 z3 hB3 hc0 hf0 hZ hR hB
        obtain ⟨i, him, rfl, hZ, hR, hB⟩ := hrel
        obtain ⟨wB, rfl⟩ : ∃ x : World, x = wr := ⟨_, rfl⟩
        by_cases hli : i < m
        · have hliz : (i : Int) < (m : Int) := by omega
          have ht5 := HT.out i hli
          obtain ⟨b0, o0, rfl, hb0, hb1, hcell⟩ := (HI.out.below hB) i hli
          obtain ⟨t, ht⟩ : ∃ t, t = T i := ⟨_, rfl⟩
          replace hcell : wB.cell? ⟨b0, o0 + i, none⟩ = some (.int .i64 (T i : Int)) := hcell
          rw [← ht] at ht5 hcell
          have HTi := hide ht
          clear ht
          obtain ⟨p, hp⟩ : ∃ p, p = d + t := ⟨_, rfl⟩
          have hd5 := HD.out
          have hp31 : p < 31 := by omega
          have hpz : (p : Int) < 31 := by omega
          have hpn : p ≠ n := by omega
          have q1 : IntKind.i64.wrap ((n : Int) - 5) = (d : Int) := by rw [IntWalk.i64_in _ (by omega)]; omega
          have q2 : IntKind.i64.wrap ((d : Int) + (t : Int)) = (p : Int) := by rw [IntWalk.i64_in _ (by omega)]; omega
          have hsg : ∀ j, j < d + 5 → IsSign (S j) := by rw [HS.out]; exact sgA_sign HT.out d
          have hv := tapP_sign HT.out hsg i (by omega)
          have hx := hsg p (by omega)
          obtain ⟨v, hvv⟩ : ∃ v, v = tapP T S d i := ⟨_, rfl⟩
          obtain ⟨x, hxx⟩ : ∃ x, x = S p := ⟨_, rfl⟩
          rw [← hvv] at hv hR
          rw [← hxx] at hx
          have q3 : IntKind.i64.wrap (v * x) = v * x := IntWalk.i64_in _ (by rcases hv with rfl | rfl <;> rcases hx with rfl | rfl <;> decide)
          have hcn : wB.cell? ⟨g, n, none⟩ = some (.int .i64 v) := by rw [hR.cell hlt]; simp [arrF, setI]
          have hcp : wB.cell? ⟨g, p, none⟩ = some (.int .i64 x) := by rw [hR.cell hp31, hxx]; simp [arrF, setI, hpn]
          have hfn := hR.frozen n
          have HV := hide hvv
          have HX := hide hxx
          have HP := hide hp
          have HR := hide hR
          clear hvv hxx hp hR hv hx hsg hd5 hpn
          go_wp2_with fail
          go_still_tail 11, (by kernel_rfl)
          repeat still_step
          try refine wpStill_nil ?_
          go_wp2_with fail
          go_roundw
          case rel =>
            refine ⟨i + 1, by omega, by go_num, hZ.drew.setOther (by show w.heap.size ≠ g; omega) _, (rowIs_setI HR.out.drew n (v * x)).congr fun j _ => ?_, hB.drew.setCell (by show w.heap.size ≤ g; omega) _⟩
            show arrF (setI (setI S n v) n (v * x)) j = arrF (setI S n (tapP T S d i * S (d + T i))) j
            rw [← HV.out, ← HTi.out, ← HP.out, ← HX.out]
            unfold arrF setI
            by_cases e : j = n
            · simp only [if_pos e]
            · simp only [if_neg e]
          case measure => simp [Go.RowKit.intOf]; omega
        · obtain rfl : i = m := by omega
          go_wp2_with fail
          go_roundw
          case rel =>
            refine ⟨n + 1, by omega, by omega, by go_num, hZ, hR.congr fun j _ => ?_, hB⟩
            have hd5 := HD.out
            rw [show n + 1 - 5 = d + 1 by omega]
            show arrF (setI S n (tapP T S d i)) j = arrF (fun j => if j = d + 5 then tapP T (sgA T i d) d i else sgA T i d j) j
            rw [← HS.out, show n = d + 5 by omega]
            rfl
          case measure => simp [Go.RowKit.intOf]; omega
    · obtain rfl : n = 31 := by omega
      have HZ := hide hZ
      have HR := hide hR
      go_upto_region 11 with fail
      go_wp2_with (first | (refine wpList_load31 rfl (.tmp 3) rfl g (sgA T m 26) rfl HR.out ?_) | (refine wpList_store31 rfl (.tmp 2) (.tmp 32) rfl w.heap.size (arrF fun _ => 0) (sgA T m 26) rfl rfl HZ.out ?_; intro W2 r2 o2))
      refine bodyPost_ret (v := .agg (arr31 (sgA T m 26))) (result31 rfl _ rfl r2) rfl ⟨rfl, hB.trans (o2.to_below (Nat.le_refl _) hB.size)⟩
end Go.Proofs.Ytibdbopejnkefaa
/- firstHalf of the code. -/
namespace Go.Proofs.Ytibdbopejnkefaa
open Go.RowKit Go.Great
theorem make31 (W : World) : (Instr.makeSlice 44 (.int .i64 31) (.int .i64 31)).run Try.prog W = .ok (.slice (some ⟨W.heap.size, 0, none⟩) 31 31) (W.alloc (.cells (madeCells #[.int .i64 0] 31) 3)) := by
  obtain ⟨i0, hi, hz0, hz1, hz2⟩ := info_parts intInfo
  exact run_make_row (P := Try.prog) 44 3 i0 (.int .i64 0) Try.underlying44 hi hz0 hz1 rfl .i64 .i64 31 (by rw [hz2]; omega) (by omega) W
set_option maxHeartbeats 4000000 in
set_option maxRecDepth 100000 in
theorem firstHalf_any (S : Nat → Int) (a b c : Nat) (w : World) (ha : a ≤ 100000) :
    Calls Try.prog 47 #[.agg (arr31 S), .agg #[.int .i64 (a : Int), .int .i64 (b : Int), .int .i64 (c : Int)]] w fun e w' => ∃ v, e = .returned v ∧ GaveInts w 31 (fun n => S ((n + a) % 31)) v w' := by
  have hmk := fun W => make31 W
  go_enter Try.func47, Try.ntmps47
  go_wp2_with (refine wpList_boxTo rfl 85 (.tmp 0) rfl _ rfl w.heap.size rfl (arr31 S) rfl ?_)
  clear hmk
  obtain ⟨W0, hW0⟩ : ∃ q : World, q = (w.alloc (.cells (arr31 S) 85)).alloc (.cells #[.int .i64 (a : Int), .int .i64 (b : Int), .int .i64 (c : Int)] 87) := ⟨_, rfl⟩
  rw [← hW0]
  have hs0 : W0.heap.size = w.heap.size + 1 + 1 := by rw [hW0]; simp
  have br0 : W0.rowIs w.heap.size 85 31 (arrF S) := by rw [hW0]; exact (rowIs_arr31 w S _ rfl).alloc _
  have bb0 : Box W0 (w.heap.size + 1) 87 #[.int .i64 (a : Int), .int .i64 (b : Int), .int .i64 (c : Int)] := by rw [hW0]; exact Box.made (by simp)
  have hB0 : Below w.heap.size w W0 := by rw [hW0]; (repeat (first | (with_reducible exact Below.refl _ _) | (with_reducible refine Go.below_drewN ?_ _) | (with_reducible refine Below.drew ?_) | (with_reducible refine Below.alloc ?_ (by first | exact Nat.le_refl _ | (simp; done) | (simp; omega) | omega) _) | (with_reducible refine Below.setCell ?_ (by first | exact Nat.le_refl _ | (simp; done) | (simp; omega) | omega) _)))
  clear hW0
  go_loopw [10] (fun i wr => ∃ k : Nat, k ≤ 31 ∧ i = .int .i64 (k : Int) ∧ wr.rowIs w.heap.size 85 31 (arrF S) ∧ Box wr (w.heap.size + 1) 87 #[.int .i64 (a : Int), .int .i64 (b : Int), .int .i64 (c : Int)] ∧ wr.rowIs (w.heap.size + 1 + 1) 3 31 (fun j => .int .i64 (if j < k then S ((j + a) % 31) else 0)) ∧ Below w.heap.size w wr) (fun i _ => 31 - (Go.RowKit.intOf i).toNat)
  case atStart =>
    refine ⟨0, Nat.zero_le _, rfl, br0.alloc _, bb0.alloc _, ?_, hB0.alloc hB0.size _⟩
    have h := World.rowIs_made W0 (.int .i64 0) 31 3
    rw [hs0] at h
    exact h.congr (fun _ _ => by simp)
  case round =>
    clear br0 bb0 hB0 hs0
    obtain ⟨k, hk, rfl, hS, hb, hR, hB⟩ := hrel
    obtain ⟨wA, rfl⟩ : ∃ x : World, x = wr := ⟨_, rfl⟩
    by_cases hlt : k < 31
    · have hltz : (k : Int) < 31 := by omega
      obtain ⟨p, hp⟩ : ∃ p, p = (k + a) % 31 := ⟨_, rfl⟩
      have hp31 : p < 31 := by omega
      have hpz : (p : Int) < 31 := by omega
      have y0 := hb.at_ 0
      simp only [List.getElem?_toArray] at y0
      have q1 : IntKind.i64.wrap ((k : Int) + (a : Int)) = (k : Int) + (a : Int) := IntWalk.i64_in _ (by omega)
      have q2 : ((k : Int) + (a : Int)).tmod 31 = (p : Int) := by rw [Int.tmod_eq_emod_of_nonneg (by omega)]; omega
      have hc : wA.cell? ⟨w.heap.size, p, none⟩ = some (.int .i64 (S p)) := hS.cell hp31
      have hc2 := hR.cell hlt
      have hf2 := hR.frozen k
      have HP := hide hp
      clear hp
      go_wp2_with fail
      go_roundw
      case rel =>
        exact ⟨k + 1, by omega, by go_num, hS.setOther (by show w.heap.size ≠ w.heap.size + 1 + 1; omega) _, hb.other (by show w.heap.size + 1 ≠ w.heap.size + 1 + 1; omega) _, (hR.set k _).congr (fun x _ => by
          by_cases e : x = k
          · subst e
            rw [if_pos rfl, if_pos (Nat.lt_succ_self _), HP.out]
          · rw [if_neg e]
            by_cases e2 : x < k
            · rw [if_pos e2, if_pos (by omega)]
            · rw [if_neg e2, if_neg (by omega)]), hB.setCell (by show w.heap.size ≤ w.heap.size + 1 + 1; omega) _⟩
      case measure => simp [Go.RowKit.intOf]; omega
    · obtain rfl : k = 31 := by omega
      go_wp2_with fail
      go_ret
      exact ⟨_, rfl, _, _, rfl, Nat.le_refl _, IntsAt.of_row (hR.congr fun j hj => by rw [if_pos hj]) (by omega), hB⟩
end Go.Proofs.Ytibdbopejnkefaa
/- secondHalf of the code. -/
namespace Go.Proofs.Ytibdbopejnkefaa
open Go.RowKit Go.Great
set_option maxHeartbeats 4000000 in
set_option maxRecDepth 100000 in
theorem secondHalf_any (S V : Nat → Int) (a b c : Nat) (w : World) (hb : b ≤ 100000) (hc : c ≤ 100000) (hSV : ∀ i j, i < 31 → j < 31 → -1000000 ≤ S i * V j ∧ S i * V j ≤ 1000000) :
    Calls Try.prog 48 #[.agg (arr31 S), .agg (arr31 V), .agg #[.int .i64 (a : Int), .int .i64 (b : Int), .int .i64 (c : Int)]] w fun e w' => ∃ v, e = .returned v ∧ GaveInts w 31 (fun n => S ((n + b) % 31) * V ((n + c) % 31)) v w' := by
  have hmk := fun W => make31 W
  have HSV := hide hSV
  clear hSV
  go_enter Try.func48, Try.ntmps48
  go_wp2_with (first | (refine wpList_boxTo rfl 85 (.tmp 0) rfl _ rfl w.heap.size rfl (arr31 S) rfl ?_) | (refine wpList_boxTo rfl 85 (.tmp 1) rfl _ rfl (w.alloc _).heap.size rfl (arr31 V) rfl ?_))
  clear hmk
  obtain ⟨W0, hW0⟩ : ∃ q : World, q = ((w.alloc (.cells (arr31 S) 85)).alloc (.cells (arr31 V) 85)).alloc (.cells #[.int .i64 (a : Int), .int .i64 (b : Int), .int .i64 (c : Int)] 87) := ⟨_, rfl⟩
  rw [← hW0]
  have hs0 : W0.heap.size = w.heap.size + 1 + 1 + 1 := by rw [hW0]; simp
  have br0 : W0.rowIs w.heap.size 85 31 (arrF S) := by rw [hW0]; exact ((rowIs_arr31 w S _ rfl).alloc _).alloc _
  have bv0 : W0.rowIs (w.heap.size + 1) 85 31 (arrF V) := by rw [hW0]; exact (rowIs_arr31 _ V _ (by simp)).alloc _
  have bb0 : Box W0 (w.heap.size + 1 + 1) 87 #[.int .i64 (a : Int), .int .i64 (b : Int), .int .i64 (c : Int)] := by rw [hW0]; exact Box.made (by simp)
  have hB0 : Below w.heap.size w W0 := by rw [hW0]; (repeat (first | (with_reducible exact Below.refl _ _) | (with_reducible refine Go.below_drewN ?_ _) | (with_reducible refine Below.drew ?_) | (with_reducible refine Below.alloc ?_ (by first | exact Nat.le_refl _ | (simp; done) | (simp; omega) | omega) _) | (with_reducible refine Below.setCell ?_ (by first | exact Nat.le_refl _ | (simp; done) | (simp; omega) | omega) _)))
  clear hW0
  go_loopw [12] (fun i wr => ∃ k : Nat, k ≤ 31 ∧ i = .int .i64 (k : Int) ∧ wr.rowIs w.heap.size 85 31 (arrF S) ∧ wr.rowIs (w.heap.size + 1) 85 31 (arrF V) ∧ Box wr (w.heap.size + 1 + 1) 87 #[.int .i64 (a : Int), .int .i64 (b : Int), .int .i64 (c : Int)] ∧ wr.rowIs (w.heap.size + 1 + 1 + 1) 3 31 (fun j => .int .i64 (if j < k then S ((j + b) % 31) * V ((j + c) % 31) else 0)) ∧ Below w.heap.size w wr) (fun i _ => 31 - (Go.RowKit.intOf i).toNat)
  case atStart =>
    refine ⟨0, Nat.zero_le _, rfl, br0.alloc _, bv0.alloc _, bb0.alloc _, ?_, hB0.alloc hB0.size _⟩
    have h := World.rowIs_made W0 (.int .i64 0) 31 3
    rw [hs0] at h
    exact h.congr (fun _ _ => by simp)
  case round =>
    clear br0 bv0 bb0 hB0 hs0
    obtain ⟨k, hk, rfl, hS, hV, hbx, hR, hB⟩ := hrel
    obtain ⟨wA, rfl⟩ : ∃ x : World, x = wr := ⟨_, rfl⟩
    by_cases hlt : k < 31
    · have hltz : (k : Int) < 31 := by omega
      obtain ⟨p, hp⟩ : ∃ p, p = (k + b) % 31 := ⟨_, rfl⟩
      obtain ⟨q, hq⟩ : ∃ q, q = (k + c) % 31 := ⟨_, rfl⟩
      have hp31 : p < 31 := by omega
      have hq31 : q < 31 := by omega
      have hpz : (p : Int) < 31 := by omega
      have hqz : (q : Int) < 31 := by omega
      have y1 := hbx.at_ 1
      have y2 := hbx.at_ 2
      simp only [List.getElem?_toArray] at y1 y2
      have q1 : IntKind.i64.wrap ((k : Int) + (b : Int)) = (k : Int) + (b : Int) := IntWalk.i64_in _ (by omega)
      have q2 : ((k : Int) + (b : Int)).tmod 31 = (p : Int) := by rw [Int.tmod_eq_emod_of_nonneg (by omega)]; omega
      have q3 : IntKind.i64.wrap ((k : Int) + (c : Int)) = (k : Int) + (c : Int) := IntWalk.i64_in _ (by omega)
      have q4 : ((k : Int) + (c : Int)).tmod 31 = (q : Int) := by rw [Int.tmod_eq_emod_of_nonneg (by omega)]; omega
      have q5 : IntKind.i64.wrap (S p * V q) = S p * V q := IntWalk.i64_in _ (by have := HSV.out p q hp31 hq31; omega)
      have hcS : wA.cell? ⟨w.heap.size, p, none⟩ = some (.int .i64 (S p)) := hS.cell hp31
      have hcV : wA.cell? ⟨w.heap.size + 1, q, none⟩ = some (.int .i64 (V q)) := hV.cell hq31
      have hc2 := hR.cell hlt
      have hf2 := hR.frozen k
      have HP := hide hp
      have HQ := hide hq
      clear hp hq
      go_wp2_with fail
      go_still_tail 18, (by kernel_rfl)
      repeat still_step
      try refine wpStill_nil ?_
      go_wp2_with fail
      go_roundw
      case rel =>
        exact ⟨k + 1, by omega, by go_num, hS.drew.setOther (by show w.heap.size ≠ w.heap.size + 1 + 1 + 1; omega) _, hV.drew.setOther (by show w.heap.size + 1 ≠ w.heap.size + 1 + 1 + 1; omega) _, hbx.drew.other (by show w.heap.size + 1 + 1 ≠ w.heap.size + 1 + 1 + 1; omega) _, (hR.drew.set k _).congr (fun x _ => by
          by_cases e : x = k
          · subst e
            rw [if_pos rfl, if_pos (Nat.lt_succ_self _), HP.out, HQ.out]
          · rw [if_neg e]
            by_cases e2 : x < k
            · rw [if_pos e2, if_pos (by omega)]
            · rw [if_neg e2, if_neg (by omega)]), hB.drew.setCell (by show w.heap.size ≤ w.heap.size + 1 + 1 + 1; omega) _⟩
      case measure => simp [Go.RowKit.intOf]; omega
    · obtain rfl : k = 31 := by omega
      go_wp2_with fail
      go_ret
      exact ⟨_, rfl, _, _, rfl, Nat.le_refl _, IntsAt.of_row (hR.congr fun j hj => by rw [if_pos hj]) (by omega), hB⟩
end Go.Proofs.Ytibdbopejnkefaa
/- shiftsOf of the code. -/
namespace Go.Proofs.Ytibdbopejnkefaa
open Go.RowKit
set_option maxHeartbeats 4000000 in
theorem shiftsOf_any (i : Nat) (w : World) (hi : i < 100000) :
    Calls Try.prog 45 #[.int .i64 (i : Int)] w fun r w' => r = .returned (.agg #[.int .i64 ((10 * (i % 3) : Nat) : Int), .int .i64 ((i / 3 % 31 : Nat) : Int), .int .i64 ((i / 3 / 31 : Nat) : Int)]) ∧ Below w.heap.size w w' := by
  rw [show ((10 * (i % 3) : Nat) : Int) = 10 * ((i : Int) % 3) by omega, show ((i / 3 % 31 : Nat) : Int) = (i : Int) / 3 % 31 by omega, show ((i / 3 / 31 : Nat) : Int) = (i : Int) / 3 / 31 by omega]
  go_enter Try.func45, Try.ntmps45
  go_wp2_with fail
  obtain ⟨W, hW⟩ : ∃ y : World, y = w.alloc (.cells #[.int .i64 (10 * ((i : Int) % 3)), .int .i64 ((i : Int) / 3 % 31), .int .i64 ((i : Int) / 3 / 31)] 87) := ⟨_, rfl⟩
  rw [← hW]
  have bx : Box W w.heap.size 87 #[.int .i64 (10 * ((i : Int) % 3)), .int .i64 ((i : Int) / 3 % 31), .int .i64 ((i : Int) / 3 / 31)] := by rw [hW]; exact Box.made rfl
  have hB : Below w.heap.size w W := by rw [hW]; (repeat (first | (with_reducible exact Below.refl _ _) | (with_reducible refine Go.below_drewN ?_ _) | (with_reducible refine Below.drew ?_) | (with_reducible refine Below.alloc ?_ (by first | exact Nat.le_refl _ | (simp; done) | (simp; omega) | omega) _) | (with_reducible refine Below.setCell ?_ (by first | exact Nat.le_refl _ | (simp; done) | (simp; omega) | omega) _)))
  have y0 : W.cell? ⟨w.heap.size, 0, none⟩ = some (.int .i64 (10 * ((i : Int) % 3))) := bx.at_ 0
  have y1 : W.cell? ⟨w.heap.size, 1, none⟩ = some (.int .i64 ((i : Int) / 3 % 31)) := bx.at_ 1
  have y2 : W.cell? ⟨w.heap.size, 2, none⟩ = some (.int .i64 ((i : Int) / 3 / 31)) := bx.at_ 2
  refine bodyPost_ret (v := .agg #[.int .i64 (10 * ((i : Int) % 3)), .int .i64 ((i : Int) / 3 % 31), .int .i64 ((i : Int) / 3 / 31)]) ?_ rfl ⟨rfl, hB⟩
  simp [results, Try.results45, go_sem, y0, y1, y2]
end Go.Proofs.Ytibdbopejnkefaa
/- slices.Concat of two. -/
namespace Go.Proofs.Ytibdbopejnkefaa
open Go.RowKit Go.Lib
def ZAt (n m : Nat) (i z : Value) : Prop := (i = .int .i64 0 ∧ z = .int .i64 0) ∨ (i = .int .i64 1 ∧ z = .int .i64 (n : Int)) ∨ (i = .int .i64 2 ∧ z = .int .i64 ((n : Int) + m))
def OAt (w : World) (n m : Nat) (F G : Nat → Int) (i v : Value) (wr : World) : Prop :=
  (i = .int .i64 0 ∧ OwnInts wr w.heap.size v 0 (fun _ => 0)) ∨ (i = .int .i64 1 ∧ OwnInts wr w.heap.size v n F) ∨ (i = .int .i64 2 ∧ OwnInts wr w.heap.size v (n + m) (catF n F G))
set_option maxHeartbeats 4000000 in
theorem concat_any (g t : Nat) (A C : Option Addr) (n m c d e0 : Nat) (F G : Nat → Int) (w : World) (hn : n ≤ 1000000) (hm : m ≤ 1000000) (bx : Box w g t #[.slice A n c, .slice C m d]) (hF : IntsAt w 0 A n F) (hG : IntsAt w 0 C m G) :
    Calls Try.prog 46 #[.slice (some ⟨g, 0, none⟩) 2 e0] w fun e w' => ∃ v, e = .returned v ∧ GaveInts w (n + m) (catF n F G) v w' := by
  have HF := hide hF
  have HG := hide hG
  have y0 := bx.at_ 0
  have y1 := bx.at_ 1
  simp only [List.getElem?_toArray] at y0 y1
  clear hF hG
  go_enter Try.func46, Try.ntmps46
  go_wp2_with fail
  go_loopw [3, 11] (fun z i wr => ZAt n m i z ∧ wr = w) (fun _ i _ => 2 - (Go.RowKit.intOf i).toNat)
  case atStart => exact ⟨.inl ⟨rfl, rfl⟩, rfl⟩
  case round =>
    obtain ⟨hz, rfl⟩ := hrel
    rcases hz with ⟨rfl, rfl⟩ | ⟨rfl, rfl⟩ | ⟨rfl, rfl⟩
    · go_wp2_with fail
      go_roundw
      case rel => exact ⟨.inr (.inl ⟨rfl, rfl⟩), by first | rfl | trivial⟩
      case measure => simp [Go.RowKit.intOf]
    · go_wp2_with fail
      go_roundw
      case rel => exact ⟨.inr (.inr ⟨rfl, rfl⟩), by first | rfl | trivial⟩
      case measure => simp [Go.RowKit.intOf]
    · go_wp2_with fail
      rw [show (n : Int) + m = ((n + m : Nat) : Int) from by omega]
      refine (grow_any (n + m) _ (by omega)).mono ?_
      rintro e w1 ⟨v, rfl, hown, hb1⟩
      have z0 := (bx.below hb1).at_ 0
      have z1 := (bx.below hb1).at_ 1
      simp only [List.getElem?_toArray] at z0 z1
      go_wp2_with fail
      obtain ⟨wo, rfl⟩ : ∃ wo : World, wo = wr := ⟨_, rfl⟩
      go_loopw [6, 27] (fun v i wx => OAt wo n m F G i v wx ∧ Below wo.heap.size wo wx) (fun _ i _ => 2 - (Go.RowKit.intOf i).toNat)
      case atStart => exact ⟨.inl ⟨rfl, hown⟩, hb1⟩
      case round =>
        clear z0 z1
        obtain ⟨ho, hB⟩ := hrel
        have z0 := (bx.below hB).at_ 0
        have z1 := (bx.below hB).at_ 1
        simp only [List.getElem?_toArray] at z0 z1
        have hF := HF.out.below hB
        have hG := HG.out.below hB
        have hs := hB.size
        rcases ho with ⟨rfl, ho⟩ | ⟨rfl, ho⟩ | ⟨rfl, ho⟩
        · obtain ⟨A', c', rfl, -, -⟩ := ho.form
          go_wp2_with (at_builtin; refine wpList_append_ints _ rfl (.tmp 31) (.tmp 32) rfl wo.heap.size 0 (.slice A' 0 c') 0 (fun _ => 0) rfl ho A n c F rfl hF (by omega) hs ?_; intro v' w' h1 hb2)
          go_roundw
          case rel => exact ⟨.inr (.inl ⟨rfl, by rw [Nat.zero_add] at h1; exact h1.congr fun j _ => by simp [catF]⟩), hB.trans hb2⟩
          case measure => simp [Go.RowKit.intOf]
        · obtain ⟨A', c', rfl, -, -⟩ := ho.form
          go_wp2_with (at_builtin; refine wpList_append_ints _ rfl (.tmp 31) (.tmp 32) rfl wo.heap.size 0 (.slice A' n c') n F rfl ho C m d G rfl hG (by omega) hs ?_; intro v' w' h1 hb2)
          go_roundw
          case rel => exact ⟨.inr (.inr ⟨rfl, h1⟩), hB.trans hb2⟩
          case measure => simp [Go.RowKit.intOf]
        · go_wp2_with fail
          go_ret
          exact ⟨_, rfl, ho.gave hB⟩
end Go.Proofs.Ytibdbopejnkefaa
/- sequenceOf and SequenceOf of the code. -/
namespace Go.Proofs.Ytibdbopejnkefaa
open Go.RowKit Go.Great
theorem exec_load31 {a : Act} {x : Operand} {d : Option Tmp} {ty : TypeId} {pos : String} {aft : Array Edge} {gd : Option (Nat × Bool)} {b : Nat} {S : Nat → Int} {W : World} (hx : a.eval x = .pointer (some ⟨b, 0, none⟩)) (hr : W.rowIs b 85 31 (arrF S)) :
    (execOp a.eval ⟨d, .load 85 x, ty, pos, aft, gd⟩).run Try.prog W = .ok (.value (.agg (arr31 S))) W := by
  simp only [execOp, Instr.loadAt, hx, Instr.sureAddr, Sem.run_bind, Sem.run_pure, Result.andThen_ok, run_load31 hr]
theorem exec_box3 {a : Act} {x : Operand} {d : Option Tmp} {ty : TypeId} {pos : String} {aft : Array Edge} {gd : Option (Nat × Bool)} {b : Nat} {u v z : Value} {W : World} (hx : a.eval x = .pointer (some ⟨b, 0, none⟩)) (hr : Box W b 87 #[u, v, z]) :
    (execOp a.eval ⟨d, .load 87 x, ty, pos, aft, gd⟩).run Try.prog W = .ok (.value (.agg #[u, v, z])) W := by
  have h0 := hr.at_ 0
  have h1 := hr.at_ 1
  have h2 := hr.at_ 2
  simp only [List.getElem?_toArray] at h0 h1 h2
  simp only [execOp, Instr.loadAt, hx, Instr.sureAddr, Sem.run_bind, Sem.run_pure, Result.andThen_ok]
  have := run_loadVar_mid (P := Try.prog) W b 0 87 [u, v, z] _ (fun j q hq => by
    match j with
    | 0 => simp at hq; subst hq; simpa using h0
    | 1 => simp at hq; subst hq; simpa using h1
    | 2 => simp at hq; subst hq; simpa using h2
    | n + 3 => simp at hq) Try.underlying87 rfl (by kernel_rfl)
  rw [this]
  rfl
def T2 (i : Nat) : Nat := if i = 0 then 2 else 0
def T4 (i : Nat) : Nat := if i = 0 then 4 else if i = 1 then 3 else if i = 2 then 2 else 0
/-- The two halves of the sequence of an identity. -/
def halfA (i n : Nat) : Int := sgF T2 2 ((n + 10 * (i % 3)) % 31)
def halfB (i n : Nat) : Int := sgF T2 2 ((n + i / 3 % 31) % 31) * sgF T4 4 ((n + i / 3 / 31) % 31)
def seqF (i : Nat) : Nat → Int := catF 31 (halfA i) (halfB i)
theorem sgF_sign {T : Nat → Nat} {m : Nat} (hT : ∀ i, i < m → T i < 5) (j : Nat) (hj : j < 31) : IsSign (sgF T m j) := sgA_sign hT 26 j hj
theorem T2_lt (i : Nat) : T2 i < 5 := by unfold T2; split <;> decide
theorem T4_lt (i : Nat) : T4 i < 5 := by unfold T4; (repeat' split) <;> decide
set_option maxHeartbeats 4000000 in
set_option maxRecDepth 100000 in
theorem sequenceOf_any (i : Nat) (w : World) (hi : i < 100000) :
    Calls Try.prog 28 #[.int .i64 (i : Int)] w fun e w' => ∃ v, e = .returned v ∧ GaveInts w 62 (seqF i) v w' := by
  have HH := hide (show seqF i = catF 31 (halfA i) (halfB i) from rfl)
  have HA := hide (show halfA i = fun n => sgF T2 2 ((n + 10 * (i % 3)) % 31) from rfl)
  have HB := hide (show halfB i = fun n => sgF T2 2 ((n + i / 3 % 31) % 31) * sgF T4 4 ((n + i / 3 / 31) % 31) from rfl)
  have HS := hide (fun W => shiftsOf_any i W hi)
  have l0 : 10 * (i % 3) ≤ 100000 := by omega
  have l1 : i / 3 % 31 ≤ 100000 := by omega
  have l2 : i / 3 / 31 ≤ 100000 := by omega
  generalize 10 * (i % 3) = s0 at *
  generalize i / 3 % 31 = s1 at *
  generalize i / 3 / 31 = s2 at *
  go_enter Try.func28, Try.ntmps28
  go_wp2_with fail
  refine (signsOf_any (some ⟨w.heap.size, 0, none⟩) 2 2 T2 _ (by decide) (fun i _ => T2_lt i) ((IntsAt.of_list [2, 0] 2 rfl (Box.made rfl) (Nat.zero_le _)).congr (fun i hi => by match i, hi with | 0, _ => rfl | 1, _ => rfl))).mono ?_
  rintro e w1 ⟨rfl, hb1⟩
  have hB1 : Below w.heap.size w w1 := below_behind hb1
  clear hb1
  go_wp2_with fail
  refine (signsOf_any (some ⟨w1.heap.size, 0, none⟩) 4 4 T4 _ (by decide) (fun i _ => T4_lt i) ((IntsAt.of_list [4, 3, 2, 0] 4 rfl (Box.made rfl) (Nat.zero_le _)).congr (fun i hi => by match i, hi with | 0, _ => rfl | 1, _ => rfl | 2, _ => rfl | 3, _ => rfl))).mono ?_
  rintro e w2 ⟨rfl, hb2⟩
  have hB2 : Below w.heap.size w w2 := hB1.trans ((below_behind hb2).mono hB1.size)
  clear hb2 hB1
  go_upto_region 2 with (first | (refine wpList_store31 rfl (.tmp 3) (.tmp 7) rfl w2.heap.size (arrF fun _ => 0) (sgF T2 2) rfl rfl ((rowIs_arr31 w2 _ _ rfl).alloc _) ?_; intro W4 r4 o4) | (refine wpList_store31 rfl (.tmp 4) (.tmp 9) rfl (w2.alloc (.cells (arr31 fun _ => 0) 85)).heap.size (arrF fun _ => 0) (sgF T4 4) rfl rfl (o4.row (rowIs_arr31 _ _ _ rfl) (by simp)) ?_; intro W5 r5 o5) | (refine wpList_allocTo rfl (some 3) rfl (.pointer (some ⟨w2.heap.size, 0, none⟩)) (.cells (arr31 fun _ => 0) 85) (by kernel_rfl) ?_) | (refine wpList_allocTo rfl (some 4) rfl (.pointer (some ⟨(w2.alloc (.cells (arr31 fun _ => 0) 85)).heap.size, 0, none⟩)) (.cells (arr31 fun _ => 0) 85) (by kernel_rfl) ?_))
  obtain ⟨g3, hg3⟩ : ∃ g, g = w2.heap.size := ⟨_, rfl⟩
  obtain ⟨g4, hg4⟩ : ∃ g, g = (w2.alloc (.cells (arr31 fun _ => 0) 85)).heap.size := ⟨_, rfl⟩
  have hB5 : Below w.heap.size w W5 := (((hB2.alloc hB2.size _).alloc (by have := hB2.size; simp; omega) _).trans (o4.to_below hB2.size (by have := hB2.size; simp; omega))).trans (o5.to_below (by have := hB2.size; simp; omega) (Nat.le_trans hB2.size (Nat.le_trans (by simp; omega) o4.size)))
  have r3 := o5.row r4 (by simp)
  rw [← hg3] at r3
  rw [← hg4] at r5
  rw [← hg3, ← hg4]
  clear hg3 hg4 r4 o4 o5 hB2
  go_wp2_with fail
  refine (HS.out _).mono ?_
  rintro e w6 ⟨rfl, hb6⟩
  replace r3 := rowIs_below r3 hb6
  replace r5 := rowIs_below r5 hb6
  have hB6 := hB5.trans (hb6.mono hB5.size)
  clear hB5 hb6
  go_upto_region 3 with fail
  obtain ⟨W7, hW7⟩ : ∃ q : World, q = w6.alloc (.cells #[.int .i64 (s0 : Int), .int .i64 (s1 : Int), .int .i64 (s2 : Int)] 87) := ⟨_, rfl⟩
  rw [← hW7]
  obtain ⟨g5, hg5⟩ : ∃ g, g = w6.heap.size := ⟨_, rfl⟩
  have b5 : Box W7 g5 87 #[.int .i64 (s0 : Int), .int .i64 (s1 : Int), .int .i64 (s2 : Int)] := by rw [hW7]; exact Box.made hg5
  rw [← hg5]
  replace r3 : W7.rowIs g3 85 31 (arrF (sgF T2 2)) := by rw [hW7]; exact r3.alloc _
  replace r5 : W7.rowIs g4 85 31 (arrF (sgF T4 4)) := by rw [hW7]; exact r5.alloc _
  have hB7 : Below w.heap.size w W7 := by rw [hW7]; exact hB6.alloc hB6.size _
  clear hW7 hg5 hB6
  refine wp_region_held_drew (S := fun w' => Below W7.heap.size W7 w') (by kernel_rfl) (Below.refl _ _).drew (fun hHeld => ?_)
  refine wpAnyH_take (i := 0) (oi := ⟨some 12, _, _, _, _, _⟩) (v := .agg (arr31 (sgF T2 2))) rfl (by kernel_rfl) (by kernel_rfl) (by kernel_rfl) (fun _ _ _ h => h) (Or.inl ⟨by rfl, fun w' hSw => exec_load31 rfl (rowIs_below r3 hSw)⟩) (by assumption) ?_
  try simp only [Act.put, List.setIfInBounds_toArray, List.set_cons_zero, List.set_cons_succ]
  refine wpAnyH_take (i := 1) (oi := ⟨some 13, _, _, _, _, _⟩) (v := .agg #[.int .i64 (s0 : Int), .int .i64 (s1 : Int), .int .i64 (s2 : Int)]) rfl (by kernel_rfl) (by kernel_rfl) (by kernel_rfl) (fun _ _ _ h => h) (Or.inl ⟨by rfl, fun w' hSw => exec_box3 rfl (b5.below hSw)⟩) (by assumption) ?_
  try simp only [Act.put, List.setIfInBounds_toArray, List.set_cons_zero, List.set_cons_succ]
  refine wpAnyH_take (i := 3) (oi := ⟨some 15, _, _, _, _, _⟩) (v := .agg (arr31 (sgF T2 2))) rfl (by kernel_rfl) (by kernel_rfl) (by kernel_rfl) (fun _ _ _ h => h) (Or.inl ⟨by rfl, fun w' hSw => exec_load31 rfl (rowIs_below r3 hSw)⟩) (by assumption) ?_
  try simp only [Act.put, List.setIfInBounds_toArray, List.set_cons_zero, List.set_cons_succ]
  refine wpAnyH_take (i := 4) (oi := ⟨some 16, _, _, _, _, _⟩) (v := .agg (arr31 (sgF T4 4))) rfl (by kernel_rfl) (by kernel_rfl) (by kernel_rfl) (fun _ _ _ h => h) (Or.inl ⟨by rfl, fun w' hSw => exec_load31 rfl (rowIs_below r5 hSw)⟩) (by assumption) ?_
  try simp only [Act.put, List.setIfInBounds_toArray, List.set_cons_zero, List.set_cons_succ]
  refine wpAnyH_take (i := 5) (oi := ⟨some 17, _, _, _, _, _⟩) (v := .agg #[.int .i64 (s0 : Int), .int .i64 (s1 : Int), .int .i64 (s2 : Int)]) rfl (by kernel_rfl) (by kernel_rfl) (by kernel_rfl) (fun _ _ _ h => h) (Or.inl ⟨by rfl, fun w' hSw => exec_box3 rfl (b5.below hSw)⟩) (by assumption) ?_
  try simp only [Act.put, List.setIfInBounds_toArray, List.set_cons_zero, List.set_cons_succ]
  refine wpAnyH_ready (rs := [2]) (by kernel_rfl) (by simp) ?_
  refine AllReadyH.cons (o := ⟨some 14, _, _, _, _, _⟩) rfl (fun K' hK => ?_) AllReadyH.nil
  go_simp
  go_at_call 47
  refine (firstHalf_any (sgF T2 2) s0 s1 s2 _ l0).mono ?_
  rintro e v1 ⟨v, rfl, A1, c1, rfl, hc1, hI1, hb1⟩
  have hC1 : Below W7.heap.size W7 v1 := by first | exact hb1 | exact below_of_drew hb1
  clear hb1
  go_wp2_with fail
  refine hK.out _ _ hC1 (fun hHeld => ?_)
  clear hK K'
  try simp only [Act.put, List.setIfInBounds_toArray, List.set_cons_zero, List.set_cons_succ]
  refine wpAnyH_ready (rs := [6]) (by kernel_rfl) (by simp) ?_
  refine AllReadyH.cons (o := ⟨some 18, _, _, _, _, _⟩) rfl (fun K' hK => ?_) AllReadyH.nil
  go_simp
  go_at_call 48
  refine (secondHalf_any (sgF T2 2) (sgF T4 4) s0 s1 s2 _ l1 l2 (fun i j hi hj => by
    rcases sgF_sign (fun i _ => T2_lt i) i hi with e | e <;> rcases sgF_sign (fun i _ => T4_lt i) j hj with e' | e' <;> rw [e, e'] <;> decide)).mono ?_
  rintro e v2 ⟨v, rfl, A2, c2, rfl, hc2, hI2, hb2⟩
  have hC2 : Below W7.heap.size W7 v2 := hC1.trans (hb2.mono hC1.size)
  have hI1' := hI1.below hb2
  clear hb2 hI1
  go_wp2_with fail
  refine hK.out _ _ hC2 (fun hHeld => ?_)
  clear hK K'
  try simp only [Act.put, List.setIfInBounds_toArray, List.set_cons_zero, List.set_cons_succ]
  refine wpAnyH_ready (rs := [7]) (by kernel_rfl) (by simp) ?_
  refine AllReadyH.cons (o := ⟨some 19, _, _, _, _, _⟩) rfl (fun K' hK => ?_) AllReadyH.nil
  go_simp
  refine hK.out _ _ (hC2.alloc hC2.size _) (fun hHeld => ?_)
  clear hK K'
  try simp only [Act.put, List.setIfInBounds_toArray, List.set_cons_zero, List.set_cons_succ]
  refine wpAnyH_ready (rs := [8]) (by kernel_rfl) (by simp) ?_
  refine AllReadyH.cons (o := ⟨some 20, _, _, _, _, _⟩) rfl (fun K' hK => ?_) AllReadyH.nil
  go_simp
  go_at_call 46
  refine (concat_any v2.heap.size 44 A1 A2 31 31 c1 c2 2 _ _ _ (by decide) (by decide) (Box.made rfl) ((hI1'.weak (Nat.zero_le _)).alloc _) ((hI2.weak (Nat.zero_le _)).alloc _)).mono ?_
  rintro e v3 ⟨v, rfl, hG⟩
  obtain ⟨A3, c3, rfl, hc3, hI3, hb3⟩ := hG
  have hC3 : Below W7.heap.size W7 v3 := (hC2.alloc hC2.size _).trans (hb3.mono (by have := hC2.size; simp; omega))
  have hD3 : Below w.heap.size w v3 := hB7.trans (hC3.mono hB7.size)
  have hle : w.heap.size ≤ (v2.alloc (.cells #[.slice A1 31 c1, .slice A2 31 c2] 44)).heap.size := by have := hB7.size; have := hC2.size; simp; omega
  go_wp2_with fail
  refine hK.out _ _ hC3 (fun hHeld => ?_)
  clear hK K'
  try simp only [Act.put, List.setIfInBounds_toArray, List.set_cons_zero, List.set_cons_succ]
  refine wpAnyH_ready (rs := [9]) (by kernel_rfl) (by simp) ?_
  refine AllReadyH.cons (o := ⟨some 2, _, _, _, _, _⟩) rfl (fun K' hK => ?_) AllReadyH.nil
  go_simp
  refine hK.out _ _ hC3 (fun hHeld => ?_)
  clear hK K'
  try simp only [Act.put, List.setIfInBounds_toArray, List.set_cons_zero, List.set_cons_succ]
  refine wpAnyH_done (by kernel_rfl) ?_ _
  go_wp2_with fail
  go_ret
  refine ⟨_, rfl, A3, c3, rfl, hc3, ?_, hD3⟩
  rw [HH.out, HA.out, HB.out]
  exact hI3.weak hle
set_option maxHeartbeats 1000000 in
theorem SequenceOf_right (i : Nat) (w : World) (hi : i < 1008) :
    Calls Try.prog 12 #[.int .i64 (i : Int)] w fun e w' => ∃ A c, e = .returned (.tuple #[.slice A 62 c, .int .i64 0]) ∧ 62 ≤ c ∧ IntsAt w' w.heap.size A 62 (seqF i) ∧ Below w.heap.size w w' := by
  have HS := hide (fun W => sequenceOf_any i W (by omega))
  have HE := hide (show unI (withinB (i : Int) 0 1007) 2 = 0 from by rw [show withinB (i : Int) 0 1007 = true from by simp [withinB]; omega]; rfl)
  clear hi
  go_enter Try.func12, Try.ntmps12
  go_wp2_with fail
  refine (identityError_any _ _).mono ?_
  rintro e w1 ⟨rfl, rfl⟩
  rw [HE.out]
  go_wp2_with fail
  refine (HS.out _).mono ?_
  rintro e w1 ⟨v, rfl, A, c, rfl, hc, hI, hb⟩
  go_wp2_with fail
  go_ret2
  exact ⟨_, _, rfl, hc, hI, hb⟩
theorem SequenceOf_wrong (i : Int) (w : World) (hi : withinB i 0 1007 = false) :
    Calls Try.prog 12 #[.int .i64 i] w fun e w' => e = .returned (.tuple #[.slice none 0 0, .int .i64 2]) ∧ w = w' := by
  have HE := hide (show unI (withinB i 0 1007) 2 = 2 from by rw [hi]; rfl)
  clear hi
  go_enter Try.func12, Try.ntmps12
  go_wp2_with fail
  refine (identityError_any _ _).mono ?_
  rintro e w1 ⟨rfl, rfl⟩
  rw [HE.out]
  go_wp2_with fail
  go_ret2
  exact ⟨rfl, rfl⟩
end Go.Proofs.Ytibdbopejnkefaa
