/- Lemmas: Ek, Vf, Wo, Wp, We, Wi. -/
import Derived.Deep.RegionHeld3
import Derived.Laws.MakeOwn
import Derived.Laws.OwnMore
import Derived.OwnWalk
import Derived.Laws.Bits64b
import Derived.Lib.Mul64
import Derived.Test.YtcndeegfkgfnkaaBy01
import Derived.Test.YtcndeegfkgfnkaaBy02
set_option linter.unusedVariables false
set_option linter.unusedSimpArgs false
/- slices.Concat of two. -/
namespace Go.Proofs.Ytcndeegfkgfnkaa
open Go.RowKit Go.Lib
def ZAt (n m : Nat) (i z : Value) : Prop := (i = .int .i64 0 ∧ z = .int .i64 0) ∨ (i = .int .i64 1 ∧ z = .int .i64 (n : Int)) ∨ (i = .int .i64 2 ∧ z = .int .i64 ((n : Int) + m))
def OAt (w : World) (n m : Nat) (F G : Nat → Int) (i v : Value) (wr : World) : Prop :=
  (i = .int .i64 0 ∧ OwnInts wr w.heap.size v 0 (fun _ => 0)) ∨ (i = .int .i64 1 ∧ OwnInts wr w.heap.size v n F) ∨ (i = .int .i64 2 ∧ OwnInts wr w.heap.size v (n + m) (catF n F G))
set_option maxHeartbeats 4000000 in
theorem concat_any (g t : Nat) (A C : Option Addr) (n m c d e0 : Nat) (F G : Nat → Int) (w : World) (hn : n ≤ 1000000) (hm : m ≤ 1000000) (bx : Box w g t #[.slice A n c, .slice C m d]) (hF : IntsAt w 0 A n F) (hG : IntsAt w 0 C m G) :
    Calls Try.prog 44 #[.slice (some ⟨g, 0, none⟩) 2 e0] w fun e w' => ∃ v, e = .returned v ∧ GaveInts w (n + m) (catF n F G) v w' := by
  have HF := hide hF
  have HG := hide hG
  have y0 := bx.at_ 0
  have y1 := bx.at_ 1
  simp only [List.getElem?_toArray] at y0 y1
  clear hF hG
  go_enter Try.func44, Try.ntmps44
  go_wp2_with fail
  go_loopw [3, 11] (fun z i wr => ZAt n m i z ∧ wr = w) (fun _ i _ => 2 - (Go.RowKit.intOf i).toNat)
  case atStart => exact ⟨.inl ⟨rfl, rfl⟩, rfl⟩
  case round =>
    obtain ⟨hz, rfl⟩ := hrel
    rcases hz with ⟨rfl, rfl⟩ | ⟨rfl, rfl⟩ | ⟨rfl, rfl⟩
    · go_wp2_with fail
      go_roundw
      case rel => exact ⟨.inr (.inl ⟨rfl, rfl⟩), by first | rfl | trivial⟩
      case measure => simp [Go.RowKit.intOf]
    · go_wp2_with fail
      go_roundw
      case rel => exact ⟨.inr (.inr ⟨rfl, rfl⟩), by first | rfl | trivial⟩
      case measure => simp [Go.RowKit.intOf]
    · go_wp2_with fail
      rw [show (n : Int) + m = ((n + m : Nat) : Int) from by omega]
      refine (grow_any (n + m) _ (by omega)).mono ?_
      rintro e w1 ⟨v, rfl, hown, hb1⟩
      have z0 := (bx.below hb1).at_ 0
      have z1 := (bx.below hb1).at_ 1
      simp only [List.getElem?_toArray] at z0 z1
      go_wp2_with fail
      obtain ⟨wo, rfl⟩ : ∃ wo : World, wo = wr := ⟨_, rfl⟩
      go_loopw [6, 27] (fun v i wx => OAt wo n m F G i v wx ∧ Below wo.heap.size wo wx) (fun _ i _ => 2 - (Go.RowKit.intOf i).toNat)
      case atStart => exact ⟨.inl ⟨rfl, hown⟩, hb1⟩
      case round =>
        clear z0 z1
        obtain ⟨ho, hB⟩ := hrel
        have z0 := (bx.below hB).at_ 0
        have z1 := (bx.below hB).at_ 1
        simp only [List.getElem?_toArray] at z0 z1
        have hF := HF.out.below hB
        have hG := HG.out.below hB
        have hs := hB.size
        rcases ho with ⟨rfl, ho⟩ | ⟨rfl, ho⟩ | ⟨rfl, ho⟩
        · obtain ⟨A', c', rfl, -, -⟩ := ho.form
          go_wp2_with (at_builtin; refine wpList_append_ints _ rfl (.tmp 31) (.tmp 32) rfl wo.heap.size 0 (.slice A' 0 c') 0 (fun _ => 0) rfl ho A n c F rfl hF (by omega) hs ?_; intro v' w' h1 hb2)
          go_roundw
          case rel => exact ⟨.inr (.inl ⟨rfl, by rw [Nat.zero_add] at h1; exact h1.congr fun j _ => by simp [catF]⟩), hB.trans hb2⟩
          case measure => simp [Go.RowKit.intOf]
        · obtain ⟨A', c', rfl, -, -⟩ := ho.form
          go_wp2_with (at_builtin; refine wpList_append_ints _ rfl (.tmp 31) (.tmp 32) rfl wo.heap.size 0 (.slice A' n c') n F rfl ho C m d G rfl hG (by omega) hs ?_; intro v' w' h1 hb2)
          go_roundw
          case rel => exact ⟨.inr (.inr ⟨rfl, h1⟩), hB.trans hb2⟩
          case measure => simp [Go.RowKit.intOf]
        · go_wp2_with fail
          go_ret
          exact ⟨_, rfl, ho.gave hB⟩
end Go.Proofs.Ytcndeegfkgfnkaa
/- sequenceOf and SequenceOf of the code. -/
namespace Go.Proofs.Ytcndeegfkgfnkaa
open Go.RowKit Go.Great
theorem exec_load31 {a : Act} {x : Operand} {d : Option Tmp} {ty : TypeId} {pos : String} {aft : Array Edge} {gd : Option (Nat × Bool)} {b : Nat} {S : Nat → Int} {W : World} (hx : a.eval x = .pointer (some ⟨b, 0, none⟩)) (hr : W.rowIs b 85 31 (arrF S)) :
    (execOp a.eval ⟨d, .load 85 x, ty, pos, aft, gd⟩).run Try.prog W = .ok (.value (.agg (arr31 S))) W := by
  simp only [execOp, Instr.loadAt, hx, Instr.sureAddr, Sem.run_bind, Sem.run_pure, Result.andThen_ok, run_load31 hr]
theorem exec_box3 {a : Act} {x : Operand} {d : Option Tmp} {ty : TypeId} {pos : String} {aft : Array Edge} {gd : Option (Nat × Bool)} {b : Nat} {u v z : Value} {W : World} (hx : a.eval x = .pointer (some ⟨b, 0, none⟩)) (hr : Box W b 87 #[u, v, z]) :
    (execOp a.eval ⟨d, .load 87 x, ty, pos, aft, gd⟩).run Try.prog W = .ok (.value (.agg #[u, v, z])) W := by
  have h0 := hr.at_ 0
  have h1 := hr.at_ 1
  have h2 := hr.at_ 2
  simp only [List.getElem?_toArray] at h0 h1 h2
  simp only [execOp, Instr.loadAt, hx, Instr.sureAddr, Sem.run_bind, Sem.run_pure, Result.andThen_ok]
  have := run_loadVar_mid (P := Try.prog) W b 0 87 [u, v, z] _ (fun j q hq => by
    match j with
    | 0 => simp at hq; subst hq; simpa using h0
    | 1 => simp at hq; subst hq; simpa using h1
    | 2 => simp at hq; subst hq; simpa using h2
    | n + 3 => simp at hq) Try.underlying87 rfl (by kernel_rfl)
  rw [this]
  rfl
def T2 (i : Nat) : Nat := if i = 0 then 2 else 0
def T4 (i : Nat) : Nat := if i = 0 then 4 else if i = 1 then 3 else if i = 2 then 2 else 0
/-- The two halves of the sequence of an identity. -/
def halfA (i n : Nat) : Int := sgF T2 2 ((n + 10 * (i % 3)) % 31)
def halfB (i n : Nat) : Int := sgF T2 2 ((n + i / 3 % 31) % 31) * sgF T4 4 ((n + i / 3 / 31) % 31)
def seqF (i : Nat) : Nat → Int := catF 31 (halfA i) (halfB i)
theorem sgF_sign {T : Nat → Nat} {m : Nat} (hT : ∀ i, i < m → T i < 5) (j : Nat) (hj : j < 31) : IsSign (sgF T m j) := sgA_sign hT 26 j hj
theorem T2_lt (i : Nat) : T2 i < 5 := by unfold T2; split <;> decide
theorem T4_lt (i : Nat) : T4 i < 5 := by unfold T4; (repeat' split) <;> decide
set_option maxHeartbeats 4000000 in
set_option maxRecDepth 100000 in
theorem sequenceOf_any (i : Nat) (w : World) (hi : i < 100000) :
    Calls Try.prog 19 #[.int .i64 (i : Int)] w fun e w' => ∃ v, e = .returned v ∧ GaveInts w 62 (seqF i) v w' := by
  have HH := hide (show seqF i = catF 31 (halfA i) (halfB i) from rfl)
  have HA := hide (show halfA i = fun n => sgF T2 2 ((n + 10 * (i % 3)) % 31) from rfl)
  have HB := hide (show halfB i = fun n => sgF T2 2 ((n + i / 3 % 31) % 31) * sgF T4 4 ((n + i / 3 / 31) % 31) from rfl)
  have HS := hide (fun W => shiftsOf_any i W hi)
  have l0 : 10 * (i % 3) ≤ 100000 := by omega
  have l1 : i / 3 % 31 ≤ 100000 := by omega
  have l2 : i / 3 / 31 ≤ 100000 := by omega
  generalize 10 * (i % 3) = s0 at *
  generalize i / 3 % 31 = s1 at *
  generalize i / 3 / 31 = s2 at *
  go_enter Try.func19, Try.ntmps19
  go_wp2_with fail
  refine (signsOf_any (some ⟨w.heap.size, 0, none⟩) 2 2 T2 _ (by decide) (fun i _ => T2_lt i) ((IntsAt.of_list [2, 0] 2 rfl (Box.made rfl) (Nat.zero_le _)).congr (fun i hi => by match i, hi with | 0, _ => rfl | 1, _ => rfl))).mono ?_
  rintro e w1 ⟨rfl, hb1⟩
  have hB1 : Below w.heap.size w w1 := below_behind hb1
  clear hb1
  go_wp2_with fail
  refine (signsOf_any (some ⟨w1.heap.size, 0, none⟩) 4 4 T4 _ (by decide) (fun i _ => T4_lt i) ((IntsAt.of_list [4, 3, 2, 0] 4 rfl (Box.made rfl) (Nat.zero_le _)).congr (fun i hi => by match i, hi with | 0, _ => rfl | 1, _ => rfl | 2, _ => rfl | 3, _ => rfl))).mono ?_
  rintro e w2 ⟨rfl, hb2⟩
  have hB2 : Below w.heap.size w w2 := hB1.trans ((below_behind hb2).mono hB1.size)
  clear hb2 hB1
  go_upto_region 2 with (first | (refine wpList_store31 rfl (.tmp 3) (.tmp 7) rfl w2.heap.size (arrF fun _ => 0) (sgF T2 2) rfl rfl ((rowIs_arr31 w2 _ _ rfl).alloc _) ?_; intro W4 r4 o4) | (refine wpList_store31 rfl (.tmp 4) (.tmp 9) rfl (w2.alloc (.cells (arr31 fun _ => 0) 85)).heap.size (arrF fun _ => 0) (sgF T4 4) rfl rfl (o4.row (rowIs_arr31 _ _ _ rfl) (by simp)) ?_; intro W5 r5 o5) | (refine wpList_allocTo rfl (some 3) rfl (.pointer (some ⟨w2.heap.size, 0, none⟩)) (.cells (arr31 fun _ => 0) 85) (by kernel_rfl) ?_) | (refine wpList_allocTo rfl (some 4) rfl (.pointer (some ⟨(w2.alloc (.cells (arr31 fun _ => 0) 85)).heap.size, 0, none⟩)) (.cells (arr31 fun _ => 0) 85) (by kernel_rfl) ?_))
  obtain ⟨g3, hg3⟩ : ∃ g, g = w2.heap.size := ⟨_, rfl⟩
  obtain ⟨g4, hg4⟩ : ∃ g, g = (w2.alloc (.cells (arr31 fun _ => 0) 85)).heap.size := ⟨_, rfl⟩
  have hB5 : Below w.heap.size w W5 := (((hB2.alloc hB2.size _).alloc (by have := hB2.size; simp; omega) _).trans (o4.to_below hB2.size (by have := hB2.size; simp; omega))).trans (o5.to_below (by have := hB2.size; simp; omega) (Nat.le_trans hB2.size (Nat.le_trans (by simp; omega) o4.size)))
  have r3 := o5.row r4 (by simp)
  rw [← hg3] at r3
  rw [← hg4] at r5
  rw [← hg3, ← hg4]
  clear hg3 hg4 r4 o4 o5 hB2
  go_wp2_with fail
  refine (HS.out _).mono ?_
  rintro e w6 ⟨rfl, hb6⟩
  replace r3 := rowIs_below r3 hb6
  replace r5 := rowIs_below r5 hb6
  have hB6 := hB5.trans (hb6.mono hB5.size)
  clear hB5 hb6
  go_upto_region 3 with fail
  obtain ⟨W7, hW7⟩ : ∃ q : World, q = w6.alloc (.cells #[.int .i64 (s0 : Int), .int .i64 (s1 : Int), .int .i64 (s2 : Int)] 87) := ⟨_, rfl⟩
  rw [← hW7]
  obtain ⟨g5, hg5⟩ : ∃ g, g = w6.heap.size := ⟨_, rfl⟩
  have b5 : Box W7 g5 87 #[.int .i64 (s0 : Int), .int .i64 (s1 : Int), .int .i64 (s2 : Int)] := by rw [hW7]; exact Box.made hg5
  rw [← hg5]
  replace r3 : W7.rowIs g3 85 31 (arrF (sgF T2 2)) := by rw [hW7]; exact r3.alloc _
  replace r5 : W7.rowIs g4 85 31 (arrF (sgF T4 4)) := by rw [hW7]; exact r5.alloc _
  have hB7 : Below w.heap.size w W7 := by rw [hW7]; exact hB6.alloc hB6.size _
  clear hW7 hg5 hB6
  refine wp_region_held_drew (S := fun w' => Below W7.heap.size W7 w') (by kernel_rfl) (Below.refl _ _).drew (fun hHeld => ?_)
  refine wpAnyH_take (i := 0) (oi := ⟨some 12, _, _, _, _, _⟩) (v := .agg (arr31 (sgF T2 2))) rfl (by kernel_rfl) (by kernel_rfl) (by kernel_rfl) (fun _ _ _ h => h) (Or.inl ⟨by rfl, fun w' hSw => exec_load31 rfl (rowIs_below r3 hSw)⟩) (by assumption) ?_
  try simp only [Act.put, List.setIfInBounds_toArray, List.set_cons_zero, List.set_cons_succ]
  refine wpAnyH_take (i := 1) (oi := ⟨some 13, _, _, _, _, _⟩) (v := .agg #[.int .i64 (s0 : Int), .int .i64 (s1 : Int), .int .i64 (s2 : Int)]) rfl (by kernel_rfl) (by kernel_rfl) (by kernel_rfl) (fun _ _ _ h => h) (Or.inl ⟨by rfl, fun w' hSw => exec_box3 rfl (b5.below hSw)⟩) (by assumption) ?_
  try simp only [Act.put, List.setIfInBounds_toArray, List.set_cons_zero, List.set_cons_succ]
  refine wpAnyH_take (i := 3) (oi := ⟨some 15, _, _, _, _, _⟩) (v := .agg (arr31 (sgF T2 2))) rfl (by kernel_rfl) (by kernel_rfl) (by kernel_rfl) (fun _ _ _ h => h) (Or.inl ⟨by rfl, fun w' hSw => exec_load31 rfl (rowIs_below r3 hSw)⟩) (by assumption) ?_
  try simp only [Act.put, List.setIfInBounds_toArray, List.set_cons_zero, List.set_cons_succ]
  refine wpAnyH_take (i := 4) (oi := ⟨some 16, _, _, _, _, _⟩) (v := .agg (arr31 (sgF T4 4))) rfl (by kernel_rfl) (by kernel_rfl) (by kernel_rfl) (fun _ _ _ h => h) (Or.inl ⟨by rfl, fun w' hSw => exec_load31 rfl (rowIs_below r5 hSw)⟩) (by assumption) ?_
  try simp only [Act.put, List.setIfInBounds_toArray, List.set_cons_zero, List.set_cons_succ]
  refine wpAnyH_take (i := 5) (oi := ⟨some 17, _, _, _, _, _⟩) (v := .agg #[.int .i64 (s0 : Int), .int .i64 (s1 : Int), .int .i64 (s2 : Int)]) rfl (by kernel_rfl) (by kernel_rfl) (by kernel_rfl) (fun _ _ _ h => h) (Or.inl ⟨by rfl, fun w' hSw => exec_box3 rfl (b5.below hSw)⟩) (by assumption) ?_
  try simp only [Act.put, List.setIfInBounds_toArray, List.set_cons_zero, List.set_cons_succ]
  refine wpAnyH_ready (rs := [2]) (by kernel_rfl) (by simp) ?_
  refine AllReadyH.cons (o := ⟨some 14, _, _, _, _, _⟩) rfl (fun K' hK => ?_) AllReadyH.nil
  go_simp
  go_at_call 45
  refine (firstHalf_any (sgF T2 2) s0 s1 s2 _ l0).mono ?_
  rintro e v1 ⟨v, rfl, A1, c1, rfl, hc1, hI1, hb1⟩
  have hC1 : Below W7.heap.size W7 v1 := by first | exact hb1 | exact below_of_drew hb1
  clear hb1
  go_wp2_with fail
  refine hK.out _ _ hC1 (fun hHeld => ?_)
  clear hK K'
  try simp only [Act.put, List.setIfInBounds_toArray, List.set_cons_zero, List.set_cons_succ]
  refine wpAnyH_ready (rs := [6]) (by kernel_rfl) (by simp) ?_
  refine AllReadyH.cons (o := ⟨some 18, _, _, _, _, _⟩) rfl (fun K' hK => ?_) AllReadyH.nil
  go_simp
  go_at_call 46
  refine (secondHalf_any (sgF T2 2) (sgF T4 4) s0 s1 s2 _ l1 l2 (fun i j hi hj => by
    rcases sgF_sign (fun i _ => T2_lt i) i hi with e | e <;> rcases sgF_sign (fun i _ => T4_lt i) j hj with e' | e' <;> rw [e, e'] <;> decide)).mono ?_
  rintro e v2 ⟨v, rfl, A2, c2, rfl, hc2, hI2, hb2⟩
  have hC2 : Below W7.heap.size W7 v2 := hC1.trans (hb2.mono hC1.size)
  have hI1' := hI1.below hb2
  clear hb2 hI1
  go_wp2_with fail
  refine hK.out _ _ hC2 (fun hHeld => ?_)
  clear hK K'
  try simp only [Act.put, List.setIfInBounds_toArray, List.set_cons_zero, List.set_cons_succ]
  refine wpAnyH_ready (rs := [7]) (by kernel_rfl) (by simp) ?_
  refine AllReadyH.cons (o := ⟨some 19, _, _, _, _, _⟩) rfl (fun K' hK => ?_) AllReadyH.nil
  go_simp
  refine hK.out _ _ (hC2.alloc hC2.size _) (fun hHeld => ?_)
  clear hK K'
  try simp only [Act.put, List.setIfInBounds_toArray, List.set_cons_zero, List.set_cons_succ]
  refine wpAnyH_ready (rs := [8]) (by kernel_rfl) (by simp) ?_
  refine AllReadyH.cons (o := ⟨some 20, _, _, _, _, _⟩) rfl (fun K' hK => ?_) AllReadyH.nil
  go_simp
  go_at_call 44
  refine (concat_any v2.heap.size 22 A1 A2 31 31 c1 c2 2 _ _ _ (by decide) (by decide) (Box.made rfl) ((hI1'.weak (Nat.zero_le _)).alloc _) ((hI2.weak (Nat.zero_le _)).alloc _)).mono ?_
  rintro e v3 ⟨v, rfl, hG⟩
  obtain ⟨A3, c3, rfl, hc3, hI3, hb3⟩ := hG
  have hC3 : Below W7.heap.size W7 v3 := (hC2.alloc hC2.size _).trans (hb3.mono (by have := hC2.size; simp; omega))
  have hD3 : Below w.heap.size w v3 := hB7.trans (hC3.mono hB7.size)
  have hle : w.heap.size ≤ (v2.alloc (.cells #[.slice A1 31 c1, .slice A2 31 c2] 22)).heap.size := by have := hB7.size; have := hC2.size; simp; omega
  go_wp2_with fail
  refine hK.out _ _ hC3 (fun hHeld => ?_)
  clear hK K'
  try simp only [Act.put, List.setIfInBounds_toArray, List.set_cons_zero, List.set_cons_succ]
  refine wpAnyH_ready (rs := [9]) (by kernel_rfl) (by simp) ?_
  refine AllReadyH.cons (o := ⟨some 2, _, _, _, _, _⟩) rfl (fun K' hK => ?_) AllReadyH.nil
  go_simp
  refine hK.out _ _ hC3 (fun hHeld => ?_)
  clear hK K'
  try simp only [Act.put, List.setIfInBounds_toArray, List.set_cons_zero, List.set_cons_succ]
  refine wpAnyH_done (by kernel_rfl) ?_ _
  go_wp2_with fail
  go_ret
  refine ⟨_, rfl, A3, c3, rfl, hc3, ?_, hD3⟩
  rw [HH.out, HA.out, HB.out]
  exact hI3.weak hle
set_option maxHeartbeats 1000000 in
theorem SequenceOf_right (i : Nat) (w : World) (hi : i < 1008) :
    Calls Try.prog 8 #[.int .i64 (i : Int)] w fun e w' => ∃ A c, e = .returned (.tuple #[.slice A 62 c, .int .i64 0]) ∧ 62 ≤ c ∧ IntsAt w' w.heap.size A 62 (seqF i) ∧ Below w.heap.size w w' := by
  have HS := hide (fun W => sequenceOf_any i W (by omega))
  have HE := hide (show unI (withinB (i : Int) 0 1007) 2 = 0 from by rw [show withinB (i : Int) 0 1007 = true from by simp [withinB]; omega]; rfl)
  clear hi
  go_enter Try.func8, Try.ntmps8
  go_wp2_with fail
  refine (identityError_any _ _).mono ?_
  rintro e w1 ⟨rfl, rfl⟩
  rw [HE.out]
  go_wp2_with fail
  refine (HS.out _).mono ?_
  rintro e w1 ⟨v, rfl, A, c, rfl, hc, hI, hb⟩
  go_wp2_with fail
  go_ret2
  exact ⟨_, _, rfl, hc, hI, hb⟩
theorem SequenceOf_wrong (i : Int) (w : World) (hi : withinB i 0 1007 = false) :
    Calls Try.prog 8 #[.int .i64 i] w fun e w' => e = .returned (.tuple #[.slice none 0 0, .int .i64 2]) ∧ w = w' := by
  have HE := hide (show unI (withinB i 0 1007) 2 = 2 from by rw [hi]; rfl)
  clear hi
  go_enter Try.func8, Try.ntmps8
  go_wp2_with fail
  refine (identityError_any _ _).mono ?_
  rintro e w1 ⟨rfl, rfl⟩
  rw [HE.out]
  go_wp2_with fail
  go_ret2
  exact ⟨rfl, rfl⟩
end Go.Proofs.Ytcndeegfkgfnkaa
/- Numbers of the call's own: a slice of structs of four cells in a new block. -/
namespace Go.Proofs.Ytcndeegfkgfnkaa
open Go.RowKit
def numVals (n : Nat) (F : Nat → Num) : List Value := (List.range (n * 4)).map fun j => Value.int .i64 ((F (j / 4)).part (j % 4))
theorem numVals_len (n : Nat) (F : Nat → Num) : (numVals n F).length = n * 4 := by simp [numVals]
theorem numVals_get (n : Nat) (F : Nat → Num) (j : Nat) : (numVals n F)[j]? = if j < n * 4 then some (.int .i64 ((F (j / 4)).part (j % 4))) else none := by
  unfold numVals
  by_cases h : j < n * 4
  · rw [if_pos h]; simp [h]
  · rw [if_neg h, List.getElem?_eq_none (by simp; omega)]
theorem numVals_congr {n : Nat} {F G : Nat → Num} (h : ∀ j, j < n → F j = G j) : numVals n F = numVals n G := by
  unfold numVals
  exact List.map_congr_left fun j hj => by
    have := List.mem_range.1 hj
    rw [h (j / 4) (by omega)]
def setNum (F : Nat → Num) (k : Nat) (x : Num) (j : Nat) : Num := if j = k then x else F j
/-- A slice of the call's own, of n numbers F, in a block that is not ahead of base. -/
def OwnNums (w : World) (base : Nat) (v : Value) (n : Nat) (F : Nat → Num) : Prop := w.ownsRow base 46 4 v n (numVals n F)
theorem OwnNums.congr {w : World} {base n : Nat} {v : Value} {F G : Nat → Num} (h : OwnNums w base v n F) (e : ∀ j, j < n → F j = G j) : OwnNums w base v n G := by
  unfold OwnNums at h ⊢
  rwa [← numVals_congr e]
theorem OwnNums.drew {w : World} {base n : Nat} {v : Value} {F : Nat → Num} (h : OwnNums w base v n F) : OwnNums w.drew base v n F := h
theorem OwnNums.drewN {w : World} {base n : Nat} {v : Value} {F : Nat → Num} (h : OwnNums w base v n F) (q : Nat) : OwnNums (w.drewN q) base v n F := h
theorem OwnNums.alloc {w : World} {base n : Nat} {v : Value} {F : Nat → Num} (h : OwnNums w base v n F) (o : Obj) : OwnNums (w.alloc o) base v n F := World.ownsRow.alloc h o
theorem OwnNums.below {w w' : World} {base n : Nat} {v : Value} {F : Nat → Num} (h : OwnNums w base v n F) (hb : Below w.heap.size w w') : OwnNums w' base v n F :=
  World.ownsRow.kept h (row := none) ⟨hb.os, hb.tape, hb.output, hb.size, fun k hk _ => hb.block k hk⟩ (by cases v.ownBlock <;> simp)
theorem OwnNums.lt {w : World} {base n g c : Nat} {F : Nat → Num} (h : OwnNums w base (.slice (some ⟨g, 0, none⟩) n c) n F) : base ≤ g ∧ g < w.heap.size := World.ownsRow.lt h g rfl
theorem OwnNums.part {w : World} {base n g c : Nat} {F : Nat → Num} (h : OwnNums w base (.slice (some ⟨g, 0, none⟩) n c) n F) {k i : Nat} (hk : k < n) (hi : i < 4) : w.cell? ⟨g, k * 4 + i, none⟩ = some (.int .i64 ((F k).part i)) := by
  rw [World.ownsRow.cellAt h (k * 4 + i) (by omega), numVals_get, if_pos (by omega), show (k * 4 + i) / 4 = k by omega, show (k * 4 + i) % 4 = i by omega]
theorem OwnNums.cells {w : World} {base n g c : Nat} {F : Nat → Num} (h : OwnNums w base (.slice (some ⟨g, 0, none⟩) n c) n F) {k : Nat} (hk : k < n) :
    w.cell? ⟨g, k * 4, none⟩ = some (.int .i64 (F k).a) ∧ w.cell? ⟨g, k * 4 + 1, none⟩ = some (.int .i64 (F k).b) ∧ w.cell? ⟨g, k * 4 + 2, none⟩ = some (.int .i64 (F k).c) ∧ w.cell? ⟨g, k * 4 + 3, none⟩ = some (.int .i64 (F k).d) :=
  ⟨h.part hk (show 0 < 4 by decide), h.part hk (show 1 < 4 by decide), h.part hk (show 2 < 4 by decide), h.part hk (show 3 < 4 by decide)⟩
theorem OwnNums.frozen {w : World} {base n g c : Nat} {F : Nat → Num} (h : OwnNums w base (.slice (some ⟨g, 0, none⟩) n c) n F) (k : Nat) : w.frozen? ⟨g, k, none⟩ = false := World.ownsRow.frozenAt h k
theorem OwnNums.frozen4 {w : World} {base n g c : Nat} {F : Nat → Num} (h : OwnNums w base (.slice (some ⟨g, 0, none⟩) n c) n F) (k : Nat) : w.frozen? ⟨g, k * 4, none⟩ = false ∧ w.frozen? ⟨g, k * 4 + 1, none⟩ = false ∧ w.frozen? ⟨g, k * 4 + 2, none⟩ = false ∧ w.frozen? ⟨g, k * 4 + 3, none⟩ = false := ⟨h.frozen _, h.frozen _, h.frozen _, h.frozen _⟩
theorem OwnNums.nums {w : World} {base n c : Nat} {A : Option Addr} {F : Nat → Num} (h : OwnNums w base (.slice A n c) n F) : NumsAt w base A n F := fun i hi => by
  rcases h.2 with ⟨e, hx⟩ | ⟨g, cap, cur, e, hb, hg, hnc, hm, hsz, htake⟩
  · omega
  · injection e with e1 e2 e3
    subst e1
    have h' : OwnNums w base (.slice (some ⟨g, 0, none⟩) n c) n F := h
    obtain ⟨k0, k1, k2, k3⟩ := h'.cells hi
    exact ⟨g, 0, rfl, hb, (Array.getElem?_eq_some_iff.1 hg).1, by rwa [Nat.zero_add], by rwa [Nat.zero_add], by rwa [Nat.zero_add], by rwa [Nat.zero_add]⟩
theorem OwnNums.other {w : World} {base n : Nat} {v : Value} {F : Nat → Num} (h : OwnNums w base v n F) {k : Nat} (o : Nat) (u : Value) (hk : v.ownBlock ≠ some k) : OwnNums (w.setCell ⟨k, o, none⟩ u) base v n F := by
  refine World.ownsRow.kept h (row := some k) ⟨rfl, rfl, rfl, by simp, fun j _ hj => heap_setCell_other w ⟨k, o, none⟩ j u (fun e => hj (by simp [e]))⟩ (.inr hk)
theorem OwnNums.put {w : World} {base n g c : Nat} {F : Nat → Num} (h : OwnNums w base (.slice (some ⟨g, 0, none⟩) n c) n F) (k : Nat) (x : Num) :
    OwnNums ((((w.setCell ⟨g, k * 4, none⟩ (.int .i64 x.a)).setCell ⟨g, k * 4 + 1, none⟩ (.int .i64 x.b)).setCell ⟨g, k * 4 + 2, none⟩ (.int .i64 x.c)).setCell ⟨g, k * 4 + 3, none⟩ (.int .i64 x.d)) base (.slice (some ⟨g, 0, none⟩) n c) n (setNum F k x) := by
  have h1 := (World.ownsRow.stored (World.ownsRow.stored (World.ownsRow.stored (World.ownsRow.stored h (k * 4) (.int .i64 x.a)).1 (k * 4 + 1) (.int .i64 x.b)).1 (k * 4 + 2) (.int .i64 x.c)).1 (k * 4 + 3) (.int .i64 x.d)).1
  have e : ((((numVals n F).set (k * 4) (.int .i64 x.a)).set (k * 4 + 1) (.int .i64 x.b)).set (k * 4 + 2) (.int .i64 x.c)).set (k * 4 + 3) (.int .i64 x.d) = numVals n (setNum F k x) := by
    apply List.ext_getElem?
    intro j
    simp only [List.getElem?_set, List.length_set, numVals_len, numVals_get]
    by_cases hj : j < n * 4
    · have hd := Nat.div_add_mod j 4
      rw [if_pos hj]
      by_cases hk : j / 4 = k
      · have hs : setNum F k x (j / 4) = x := by unfold setNum; rw [if_pos hk]
        have hlt := Nat.mod_lt j (show 0 < 4 by decide)
        rw [hs, if_pos hj]
        obtain e | e | e | e : j % 4 = 0 ∨ j % 4 = 1 ∨ j % 4 = 2 ∨ j % 4 = 3 := by omega
        · rw [if_neg (by omega), if_neg (by omega), if_neg (by omega), if_pos (by omega), if_pos (by omega), e]; rfl
        · rw [if_neg (by omega), if_neg (by omega), if_pos (by omega), if_pos (by omega), e]; rfl
        · rw [if_neg (by omega), if_pos (by omega), if_pos (by omega), e]; rfl
        · rw [if_pos (by omega), if_pos (by omega), e]; rfl
      · have hs : setNum F k x (j / 4) = F (j / 4) := by unfold setNum; rw [if_neg hk]
        rw [hs, if_neg (by omega), if_neg (by omega), if_neg (by omega), if_neg (by omega), if_pos hj]
    · rw [if_neg hj]
      simp only [if_neg hj]
      repeat' split
      all_goals first | rfl | omega
  rw [e] at h1
  exact h1
theorem Below.put4at {B c o : Nat} {w W : World} (h : Below B w W) (hc : B ≤ c) (u0 u1 u2 u3 : Value) : Below B w ((((W.setCell ⟨c, o, none⟩ u0).setCell ⟨c, o + 1, none⟩ u1).setCell ⟨c, o + 2, none⟩ u2).setCell ⟨c, o + 3, none⟩ u3) :=
  (((h.setCell hc u0).setCell hc u1).setCell hc u2).setCell hc u3
theorem Box.other4at {w : World} {b c o : Nat} {t : TypeId} {cs : Array Value} (h : Box w b t cs) (hn : b ≠ c) (u0 u1 u2 u3 : Value) : Box ((((w.setCell ⟨c, o, none⟩ u0).setCell ⟨c, o + 1, none⟩ u1).setCell ⟨c, o + 2, none⟩ u2).setCell ⟨c, o + 3, none⟩ u3) b t cs :=
  (((h.other (p := ⟨c, o, none⟩) hn u0).other (p := ⟨c, o + 1, none⟩) hn u1).other (p := ⟨c, o + 2, none⟩) hn u2).other (p := ⟨c, o + 3, none⟩) hn u3
theorem OwnNums.made (w : World) (base g f : Nat) (hb : base ≤ w.heap.size) (hg : g = w.heap.size) (hf : f ≤ maxLen) : OwnNums (w.alloc (.cells (madeCells #[.int .i64 0, .int .i64 0, .int .i64 0, .int .i64 0] (f * 4)) 46)) base (.slice (some ⟨g, 0, none⟩) f f) f (fun _ => Num.zero) :=
  hg ▸ ⟨by rw [numVals_len], .inr ⟨w.heap.size, f, _, rfl, hb, heap_alloc_new w _, Nat.le_refl _, hf, by simp [madeCells], by
    apply List.ext_getElem?
    intro j
    rw [numVals_get]
    have hlt := Nat.mod_lt j (show 0 < 4 by decide)
    by_cases hj : j < f * 4
    · rw [if_pos hj]
      obtain e | e | e | e : j % 4 = 0 ∨ j % 4 = 1 ∨ j % 4 = 2 ∨ j % 4 = 3 := by omega
      all_goals (simp [madeCells, hj, e, Num.part, Num.zero])
    · rw [if_neg hj]; simp [madeCells]; omega⟩⟩
theorem numInfo : (Try.prog.info? 46).map (fun i => (i.zero, i.size, i.bytes)) = some (some (.agg #[.int .i64 0, .int .i64 0, .int .i64 0, .int .i64 0]), 4, 32) := by kernel_rfl
theorem make_nums (n : Nat) (hn : n ≤ 1000000000) (w : World) : (Instr.makeSlice 44 (.int .i64 (n : Int)) (.int .i64 (n : Int))).run Try.prog w = .ok (.slice (some ⟨w.heap.size, 0, none⟩) n n) (w.alloc (.cells (madeCells #[.int .i64 0, .int .i64 0, .int .i64 0, .int .i64 0] (n * 4)) 46)) := by
  obtain ⟨i0, hi, hz0, hz1, hz2⟩ := info_parts numInfo
  have hr := run_make (P := Try.prog) w 44 46 i0 _ Try.underlying44 hi hz0 .i64 .i64 n n (by omega) (Int.le_refl _) (by rw [hz2]; omega) (by omega)
  simp only [Int.toNat_natCast, hz1] at hr
  exact hr
end Go.Proofs.Ytcndeegfkgfnkaa
/- turnedOn of the code. -/
namespace Go.Proofs.Ytcndeegfkgfnkaa
open Go.RowKit
set_option maxHeartbeats 400000 in
set_option maxRecDepth 100000 in
theorem turnedOn_any (A : Option Addr) (n c : Nat) (F : Nat → Num) (e : Int) (w : World) (hn : n ≤ 100000) (he : -1000 ≤ e ∧ e ≤ 1000) (hI : NumsAt w 0 A n F) (hF : ∀ i, i < n → (F i).Within 4611686018427387904) :
    Calls Try.prog 40 #[.slice A n c, .int .i64 e] w fun r w' => ∃ v, r = .returned v ∧ OwnNums w' w.heap.size v n (fun i => (F i).turns ((e * (i : Int)) % 8).toNat) ∧ Below w.heap.size w w' := by
  have hmk := fun W => make_nums n (by omega) W
  have HI := hide hI
  have HT := hide (fun i (hi : i < n) W => turned_any (F i) (e * (i : Int)) W (hF i hi))
  have HW := hide (fun i (hi : i < n) => (show IntKind.i64.wrap (e * (i : Int)) = e * (i : Int) from IntWalk.i64_in _ (by
    have := mul_within (M := 1000) (N := 100000) he (show -100000 ≤ (i : Int) ∧ (i : Int) ≤ 100000 by omega)
    omega)))
  have hmade := hide (OwnNums.made w w.heap.size w.heap.size n (Nat.le_refl _) rfl (by unfold maxLen; omega))
  clear hI hF he
  go_enter Try.func40, Try.ntmps40
  go_wp2_with fail
  clear hmk
  go_loopw [13] (fun i wr => ∃ k : Nat, k ≤ n ∧ i = .int .i64 (k : Int) ∧ OwnNums wr w.heap.size (.slice (some ⟨w.heap.size, 0, none⟩) n n) n (fun i => if i < k then (F i).turns ((e * (i : Int)) % 8).toNat else Num.zero) ∧ Below w.heap.size w wr) (fun i _ => n - (Go.RowKit.intOf i).toNat)
  case atStart => exact ⟨0, Nat.zero_le _, rfl, hmade.out.congr (fun _ _ => by simp), by (repeat (first | (with_reducible exact Below.refl _ _) | (with_reducible refine Go.below_drewN ?_ _) | (with_reducible refine Below.drew ?_) | (with_reducible refine Below.alloc ?_ (by first | exact Nat.le_refl _ | (simp; done) | (simp; omega) | omega) _) | (with_reducible refine Below.setCell ?_ (by first | exact Nat.le_refl _ | (simp; done) | (simp; omega) | omega) _)))⟩
  case round =>
    clear hmade
    obtain ⟨k, hk, rfl, ho, hB⟩ := hrel
    obtain ⟨wA, rfl⟩ : ∃ x : World, x = wr := ⟨_, rfl⟩
    have hBs := hB.size
    by_cases hlt : k < n
    · have hltz : (k : Int) < (n : Int) := by omega
      obtain ⟨b, o, rfl, -, hb, c0, c1, c2, c3⟩ := (HI.out.below hB) k hlt
      have HTk := hide (fun W => HT.out k hlt W)
      have q1 := HW.out k hlt
      have HE := hide (fun (G : Nat → Num) (x : Num) (hx : x = (F k).turns ((e * (k : Int)) % 8).toNat) (hG : G = fun i => if i < k then (F i).turns ((e * (i : Int)) % 8).toNat else Num.zero) i (_ : i < n) => (show setNum G k x i = if i < k + 1 then (F i).turns ((e * (i : Int)) % 8).toNat else Num.zero from by
        subst hx; subst hG
        unfold setNum
        by_cases e1 : i = k
        · subst e1; rw [if_pos rfl, if_pos (by omega)]
        · rw [if_neg e1]
          show (if i < k then (F i).turns ((e * (i : Int)) % 8).toNat else Num.zero) = _
          by_cases e2 : i < k
          · rw [if_pos e2, if_pos (by omega)]
          · rw [if_neg e2, if_neg (by omega)]))
      obtain ⟨G, hG⟩ : ∃ G, G = fun i => if i < k then (F i).turns ((e * (i : Int)) % 8).toNat else Num.zero := ⟨_, rfl⟩
      obtain ⟨y, hy⟩ : ∃ y, y = (F k).turns ((e * (k : Int)) % 8).toNat := ⟨_, rfl⟩
      have HEE := hide (HE.out G y hy hG)
      rw [← hG] at ho
      rw [← hy] at HTk
      clear hG hy HE
      generalize F k = x at *
      obtain ⟨m, hm⟩ : ∃ m, m = e * (k : Int) := ⟨_, rfl⟩
      rw [← hm] at HTk
      replace q1 := q1.trans hm.symm
      clear hm
      go_upto_region 5 with fail
      obtain ⟨W1, hW1⟩ : ∃ y : World, y = wA.alloc (.cells #[.int .i64 x.a, .int .i64 x.b, .int .i64 x.c, .int .i64 x.d] 46) := ⟨_, rfl⟩
      rw [← hW1]
      have bx1 : Box W1 wA.heap.size 46 #[.int .i64 x.a, .int .i64 x.b, .int .i64 x.c, .int .i64 x.d] := by rw [hW1]; exact Box.made rfl
      have ho1 := ho.alloc (.cells #[.int .i64 x.a, .int .i64 x.b, .int .i64 x.c, .int .i64 x.d] 46)
      have hB1 := hB.alloc hBs (.cells #[.int .i64 x.a, .int .i64 x.b, .int .i64 x.c, .int .i64 x.d] 46)
      rw [← hW1] at ho1 hB1
      clear hW1 ho hB hb c0 c1 c2 c3
      obtain ⟨y0, y1, y2, y3, g0, g1, g2, g3, hl'⟩ := bx1.cells4
      go_wp2_with fail
      refine (HTk.out _).mono ?_
      rintro r w2 ⟨rfl, hb2⟩
      have hc2 : Below W1.heap.size W1 w2 := by first | exact hb2 | exact below_of_drew hb2
      have ho2 := ho1.below hc2
      have hB2 := hB1.trans (hc2.mono hB1.size)
      clear y0 y1 y2 y3 g0 g1 g2 g3 hl' bx1 ho1 hB1 hb2 hc2
      obtain ⟨z0, z1, z2, z3⟩ := ho2.cells hlt
      obtain ⟨f0, f1, f2, f3⟩ := ho2.frozen4 k
      have hlw := ho2.lt.2
      have HOO := hide (ho2.put k y)
      have HBB := hide (Below.put4at (o := k * 4) hB2 (Nat.le_refl _) (.int .i64 y.a) (.int .i64 y.b) (.int .i64 y.c) (.int .i64 y.d))
      clear ho2 hB2
      go_wp2_with fail
      go_roundw
      case rel => exact ⟨k + 1, by omega, by go_num, HOO.out.congr HEE.out, HBB.out⟩
      case measure => simp [Go.RowKit.intOf]; omega
    · obtain rfl : k = n := by omega
      go_wp2_with fail
      go_ret
      exact ⟨_, rfl, ho.congr (fun i hi => by rw [if_pos hi]), hB⟩
end Go.Proofs.Ytcndeegfkgfnkaa
/- cmp.Compare, cmp.Or, bits.Mul64. -/
namespace Go.Proofs.Ytcndeegfkgfnkaa
open Go.RowKit Go.Lib
/-- -1, 0 or 1. -/
def cmpI (a b : Int) : Int := if a < b then -1 else if b < a then 1 else 0
theorem cmpI_lt {a b : Int} (h : a < b) : cmpI a b = -1 := if_pos h
theorem cmpI_gt {a b : Int} (h : b < a) : cmpI a b = 1 := by unfold cmpI; rw [if_neg (by omega), if_pos h]
theorem cmpI_eq {a b : Int} (h : a = b) : cmpI a b = 0 := by unfold cmpI; rw [if_neg (by omega), if_neg (by omega)]
theorem cmpI_le (a b : Int) : -1 ≤ cmpI a b ∧ cmpI a b ≤ 1 := by
  unfold cmpI
  split
  · decide
  · split <;> decide
set_option maxHeartbeats 400000 in
theorem isNaN_int (a : Int) (w : World) : Calls Try.prog 68 #[.int .i64 a] w fun e w' => e = .returned (.bool false) ∧ w = w' := by
  have t1 : (a != a) = false := by simp
  go_enter Try.func68, Try.ntmps68
  go_wp2_with fail
  go_ret
  exact ⟨rfl, rfl⟩
set_option maxHeartbeats 400000 in
theorem isNaN_u64 (a : Int) (w : World) : Calls Try.prog 69 #[.int .u64 a] w fun e w' => e = .returned (.bool false) ∧ w = w' := by
  have t1 : (a != a) = false := by simp
  go_enter Try.func69, Try.ntmps69
  go_wp2_with fail
  go_ret
  exact ⟨rfl, rfl⟩
set_option maxHeartbeats 1000000 in
theorem compare_int (a b : Int) (w : World) : Calls Try.prog 57 #[.int .i64 a, .int .i64 b] w fun e w' => e = .returned (.int .i64 (cmpI a b)) ∧ w = w' := by
  by_cases h1 : a < b
  · have t1 : decide (a < b) = true := decide_eq_true h1
    rw [cmpI_lt h1]
    clear h1
    go_enter Try.func57, Try.ntmps57
    go_wp2_with (go_at_call 68; refine (isNaN_int _ _).mono ?_; rintro e w' ⟨rfl, rfl⟩)
    go_ret
    exact ⟨rfl, rfl⟩
  · have t1 : decide (a < b) = false := decide_eq_false h1
    by_cases h2 : b < a
    · have t2 : decide (b < a) = true := decide_eq_true h2
      rw [cmpI_gt h2]
      clear h1 h2
      go_enter Try.func57, Try.ntmps57
      go_wp2_with (go_at_call 68; refine (isNaN_int _ _).mono ?_; rintro e w' ⟨rfl, rfl⟩)
      go_ret
      exact ⟨rfl, rfl⟩
    · have t2 : decide (b < a) = false := decide_eq_false h2
      rw [cmpI_eq (show a = b by omega)]
      clear h1 h2
      go_enter Try.func57, Try.ntmps57
      go_wp2_with (go_at_call 68; refine (isNaN_int _ _).mono ?_; rintro e w' ⟨rfl, rfl⟩)
      go_ret
      exact ⟨rfl, rfl⟩
set_option maxHeartbeats 1000000 in
theorem compare_u64 (a b : Int) (w : World) : Calls Try.prog 60 #[.int .u64 a, .int .u64 b] w fun e w' => e = .returned (.int .i64 (cmpI a b)) ∧ w = w' := by
  by_cases h1 : a < b
  · have t1 : decide (a < b) = true := decide_eq_true h1
    rw [cmpI_lt h1]
    clear h1
    go_enter Try.func60, Try.ntmps60
    go_wp2_with (go_at_call 69; refine (isNaN_u64 _ _).mono ?_; rintro e w' ⟨rfl, rfl⟩)
    go_ret
    exact ⟨rfl, rfl⟩
  · have t1 : decide (a < b) = false := decide_eq_false h1
    by_cases h2 : b < a
    · have t2 : decide (b < a) = true := decide_eq_true h2
      rw [cmpI_gt h2]
      clear h1 h2
      go_enter Try.func60, Try.ntmps60
      go_wp2_with (go_at_call 69; refine (isNaN_u64 _ _).mono ?_; rintro e w' ⟨rfl, rfl⟩)
      go_ret
      exact ⟨rfl, rfl⟩
    · have t2 : decide (b < a) = false := decide_eq_false h2
      rw [cmpI_eq (show a = b by omega)]
      clear h1 h2
      go_enter Try.func60, Try.ntmps60
      go_wp2_with (go_at_call 69; refine (isNaN_u64 _ _).mono ?_; rintro e w' ⟨rfl, rfl⟩)
      go_ret
      exact ⟨rfl, rfl⟩
/-- cmp.Or of two numbers in a new block. -/
def orI (a b : Int) : Int := if a = 0 then b else a
set_option maxHeartbeats 1000000 in
theorem or_two (a b : Int) (g c : Nat) (w : World) (h0 : w.cell? ⟨g, 0, none⟩ = some (.int .i64 a)) (h1 : w.cell? ⟨g, 1, none⟩ = some (.int .i64 b)) :
    Calls Try.prog 59 #[.slice (some ⟨g, 0, none⟩) 2 c] w fun e w' => e = .returned (.int .i64 (orI a b)) ∧ w = w' := by
  have H0 := hide h0
  have H1 := hide h1
  clear h0 h1
  go_enter Try.func59, Try.ntmps59
  go_wp2_with fail
  go_loopw [8] (fun i wr => ∃ k : Nat, k ≤ 2 ∧ i = .int .i64 (k : Int) ∧ Hid (0 < k → a = 0) ∧ Hid (1 < k → b = 0) ∧ w = wr) (fun i _ => 2 - (Go.RowKit.intOf i).toNat)
  case atStart => exact ⟨0, by decide, rfl, hide fun h => absurd h (by decide), hide fun h => absurd h (by decide), rfl⟩
  case round =>
    obtain ⟨k, hk, rfl, HA, HB, rfl⟩ := hrel
    match k, hk with
    | 0, _ =>
      have hc := H0.out
      by_cases ha : a = 0
      · have HQ := hide ha
        subst ha
        go_wp2_with fail
        go_roundw
        case rel => exact ⟨1, by decide, rfl, hide fun _ => by first | rfl | trivial, hide fun h => absurd h (by decide), by first | rfl | trivial⟩
        case measure => simp [Go.RowKit.intOf]
      · have t1 : (a != 0) = true := by simpa using ha
        have HQ := hide (show orI a b = a from if_neg ha)
        clear ha
        go_wp2_with fail
        go_ret
        exact ⟨ret_int HQ.out.symm, rfl⟩
    | 1, _ =>
      have hc := H1.out
      have ha := HA.out (by decide)
      by_cases hb : b = 0
      · have HQ := hide hb
        subst hb
        go_wp2_with fail
        go_roundw
        case rel => exact ⟨2, by decide, rfl, hide fun _ => ha, hide fun _ => by first | rfl | trivial, by first | rfl | trivial⟩
        case measure => simp [Go.RowKit.intOf]
      · have t1 : (b != 0) = true := by simpa using hb
        have HQ := hide (show orI a b = b from if_pos ha)
        clear ha hb
        go_wp2_with fail
        go_ret
        exact ⟨ret_int HQ.out.symm, rfl⟩
    | 2, _ =>
      have HQ := hide (show orI a b = 0 from by rw [show orI a b = b from if_pos (HA.out (by decide)), HB.out (by decide)])
      go_wp2_with fail
      go_ret
      exact ⟨ret_int HQ.out.symm, rfl⟩
theorem maskN (a : Nat) (ha : a < 18446744073709551616) : bits .and .u64 (a : Int) 4294967295 = ((a % 4294967296 : Nat) : Int) := by
  have h := bits_and_u64_nat a 4294967295 ha (by omega)
  have e : a &&& 4294967295 = a % 4294967296 := Nat.and_two_pow_sub_one_eq_mod a 32
  rw [e] at h
  exact h
theorem divN (a : Nat) : (a : Int) / 4294967296 = ((a / 4294967296 : Nat) : Int) := by omega
theorem mulN (a b : Nat) : (a : Int) * (b : Int) = ((a * b : Nat) : Int) := (Int.natCast_mul a b).symm
theorem addN (a b : Nat) : (a : Int) + (b : Int) = ((a + b : Nat) : Int) := (Int.natCast_add a b).symm
theorem wrapN (a : Nat) (ha : a < 18446744073709551616) : IntKind.u64.wrap (a : Int) = (a : Int) := by rw [IntKind.wrap_u64]; omega
theorem wrapM (a : Nat) : IntKind.u64.wrap (a : Int) = ((a % 18446744073709551616 : Nat) : Int) := by rw [IntKind.wrap_u64]; omega
end Go.Proofs.Ytcndeegfkgfnkaa
/- Mul64, squareOf of the code. -/
namespace Go.Proofs.Ytcndeegfkgfnkaa
open Go.RowKit Go.Lib
set_option maxHeartbeats 1000000 in
theorem mul64_any (x y : Nat) (hx : x < 18446744073709551616) (hy : y < 18446744073709551616) (w : World) :
    Calls Try.prog 58 #[.int .u64 x, .int .u64 y] w fun e w' => e = .returned (.tuple #[.int .u64 ((x * y / 18446744073709551616 : Nat) : Int), .int .u64 ((x * y % 18446744073709551616 : Nat) : Int)]) ∧ w = w' := by
  obtain ⟨bd, bt, bw, hhi⟩ := Lib.mul64_hi x y hx hy
  have ba := Lib.half_mul_le (a := x / 4294967296) (b := y / 4294967296) (by omega) (by omega)
  have bb := Lib.half_mul_le (a := x / 4294967296) (b := y % 4294967296) (by omega) (by omega)
  have bc := Lib.half_mul_le (a := x % 4294967296) (b := y / 4294967296) (by omega) (by omega)
  have ba' : x / 4294967296 * (y / 4294967296) < 18446744073709551616 := by omega
  have bb' : x / 4294967296 * (y % 4294967296) < 18446744073709551616 := by omega
  have bc' : x % 4294967296 * (y / 4294967296) < 18446744073709551616 := by omega
  have bh1 : x / 4294967296 * (y / 4294967296) + (x / 4294967296 * (y % 4294967296) + x % 4294967296 * (y % 4294967296) / 4294967296) / 4294967296 < 18446744073709551616 := by omega
  have bh : x / 4294967296 * (y / 4294967296) + (x / 4294967296 * (y % 4294967296) + x % 4294967296 * (y % 4294967296) / 4294967296) / 4294967296 + ((x / 4294967296 * (y % 4294967296) + x % 4294967296 * (y % 4294967296) / 4294967296) % 4294967296 + x % 4294967296 * (y / 4294967296)) / 4294967296 < 18446744073709551616 := by omega
  go_enter Try.func58, Try.ntmps58
  go_wp2
  simp only [maskN x hx, maskN y hy, divN, mulN, addN, wrapN _ bd, wrapN _ bb', wrapN _ bt, maskN _ bt, wrapN _ bc', wrapN _ bw, wrapN _ ba', wrapN _ bh1, wrapN _ bh, wrapM]
  rw [hhi]
  go_ret2
  exact ⟨rfl, rfl⟩
set_option maxHeartbeats 2000000 in
theorem squareOf_any (x : Num) (w : World) (hx : x.Within 1000000000) :
    Calls Try.prog 39 #[.agg #[.int .i64 x.a, .int .i64 x.b, .int .i64 x.c, .int .i64 x.d]] w fun e w' => e = .returned (.agg #[.int .i64 x.sqP, .int .i64 x.sqQ]) ∧ Below w.heap.size w w' := by
  obtain ⟨ha, hb, hc, hd⟩ := hx
  have HP := hide (show x.sqP = x.a * x.a + x.b * x.b + x.c * x.c + x.d * x.d from rfl)
  have HQ := hide (show x.sqQ = x.a * x.b + x.b * x.c + x.c * x.d - x.a * x.d from rfl)
  obtain ⟨a, b, c, d⟩ := x
  simp only at ha hb hc hd HP HQ ⊢
  have m1 := mul_within ha ha
  have m2 := mul_within hb hb
  have m3 := mul_within hc hc
  have m4 := mul_within hd hd
  have m5 := mul_within ha hb
  have m6 := mul_within hb hc
  have m7 := mul_within hc hd
  have m8 := mul_within ha hd
  obtain ⟨P, hP⟩ : ∃ P, P = (⟨a, b, c, d⟩ : Num).sqP := ⟨_, rfl⟩
  obtain ⟨Q, hQ⟩ : ∃ Q, Q = (⟨a, b, c, d⟩ : Num).sqQ := ⟨_, rfl⟩
  rw [← hP] at HP ⊢
  rw [← hQ] at HQ ⊢
  clear hP hQ ha hb hc hd
  generalize e1 : a * a = aa at *
  generalize e2 : b * b = bb at *
  generalize e3 : c * c = cc at *
  generalize e4 : d * d = dd at *
  generalize e5 : a * b = ab at *
  generalize e6 : b * c = bc at *
  generalize e7 : c * d = cd at *
  generalize e8 : a * d = ad at *
  have q1 : IntKind.i64.wrap aa = aa := IntWalk.i64_in _ (by omega)
  have q2 : IntKind.i64.wrap bb = bb := IntWalk.i64_in _ (by omega)
  have q3 : IntKind.i64.wrap cc = cc := IntWalk.i64_in _ (by omega)
  have q4 : IntKind.i64.wrap dd = dd := IntWalk.i64_in _ (by omega)
  have q5 : IntKind.i64.wrap ab = ab := IntWalk.i64_in _ (by omega)
  have q6 : IntKind.i64.wrap bc = bc := IntWalk.i64_in _ (by omega)
  have q7 : IntKind.i64.wrap cd = cd := IntWalk.i64_in _ (by omega)
  have q8 : IntKind.i64.wrap ad = ad := IntWalk.i64_in _ (by omega)
  have q9 : IntKind.i64.wrap (aa + bb) = aa + bb := IntWalk.i64_in _ (by omega)
  have q10 : IntKind.i64.wrap (aa + bb + cc) = aa + bb + cc := IntWalk.i64_in _ (by omega)
  have q11 : IntKind.i64.wrap (aa + bb + cc + dd) = P := by rw [HP.out]; exact IntWalk.i64_in _ (by omega)
  have q12 : IntKind.i64.wrap (ab + bc) = ab + bc := IntWalk.i64_in _ (by omega)
  have q13 : IntKind.i64.wrap (ab + bc + cd) = ab + bc + cd := IntWalk.i64_in _ (by omega)
  have q14 : IntKind.i64.wrap (ab + bc + cd - ad) = Q := by rw [HQ.out]; exact IntWalk.i64_in _ (by omega)
  clear m1 m2 m3 m4 m5 m6 m7 m8
  go_enter Try.func39, Try.ntmps39
  go_wp2_with fail
  have hbx : Box ((w.alloc (.cells #[.int .i64 a, .int .i64 b, .int .i64 c, .int .i64 d] 46)).alloc (.cells #[.int .i64 P, .int .i64 Q] 81)) (w.heap.size + 1) 81 #[.int .i64 P, .int .i64 Q] := Box.made (by simp)
  have y0 := hbx.at_ 0
  have y1 := hbx.at_ 1
  simp only [List.getElem?_toArray] at y0 y1
  refine bodyPost_ret (v := .agg #[.int .i64 P, .int .i64 Q]) ?_ rfl ⟨rfl, by (repeat (first | (with_reducible exact Below.refl _ _) | (with_reducible refine Go.below_drewN ?_ _) | (with_reducible refine Below.drew ?_) | (with_reducible refine Below.alloc ?_ (by first | exact Nat.le_refl _ | (simp; done) | (simp; omega) | omega) _) | (with_reducible refine Below.setCell ?_ (by first | exact Nat.le_refl _ | (simp; done) | (simp; omega) | omega) _)))⟩
  simp [results, Try.results39, go_sem, y0, y1]
end Go.Proofs.Ytcndeegfkgfnkaa
