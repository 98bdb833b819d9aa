/- Lemmas: Vh, Oa, Ua, Ob, Oc. -/
import Derived.Deep.QuietTactic
import Derived.BigQuiet
import Derived.Test.YtmcgmlhpbpjmgaaBk01
import Derived.Test.YtmcgmlhpbpjmgaaBk03
import Derived.Test.YtmcgmlhpbpjmgaaBk04
import Derived.Test.YtmcgmlhpbpjmgaaBk07
import Derived.Test.YtmcgmlhpbpjmgaaBk08
set_option linter.unusedVariables false
set_option linter.unusedSimpArgs false
/- awake of chapter 4: the document's examples. -/
namespace Go.Proofs.Ytmcgmlhpbpjmgaa
open Go.RowKit Go.Great
theorem Box.path {w : World} {g lo : Nat} {t : TypeId} {a b c d e f : Int} (h : Box w g t #[.int .i64 a, .int .i64 b, .int .i64 c, .int .i64 d, .int .i64 e, .int .i64 f]) (hl : lo ≤ g) :
    PathsAt w lo (some ⟨g, 0, none⟩) 2 (fun i => if i = 0 then a else d) (fun i => if i = 0 then b else e) (fun i => if i = 0 then c else f) := fun i hi => by
  match i, hi with
  | 0, _ => exact ⟨g, 0, rfl, hl, h.lt, h.at_ 0, h.at_ 1, h.at_ 2⟩
  | 1, _ => exact ⟨g, 0, rfl, hl, h.lt, h.at_ 3, h.at_ 4, h.at_ 5⟩
theorem tDoc : turnedR ⟨0, 0, 0, 1⟩ 1 = ⟨-1, 0, 0, 0⟩ := by rfl
theorem tDocE : turnedE ⟨0, 0, 0, 1⟩ 1 = 0 := by decide
theorem chkDoc : chkE 2 (fun i => if i = 0 then 0 else 1) (fun i => if i = 0 then 1 else 2) (fun i => if i = 0 then 0 else 0) = 0 := by decide
theorem okDoc : PathsOk 2 (fun i => if i = 0 then 0 else 1) (fun i => if i = 0 then 1 else 2) (fun i => if i = 0 then 0 else 0) :=
  ⟨by decide, by decide, fun j hj => by match j, hj with | 0, _ => decide | 1, _ => decide, fun j hj => by match j, hj with | 0, _ => decide | 1, _ => decide⟩
theorem respDoc : respTo (fun i => if i = 0 then 0 else 1) (fun i => if i = 0 then 1 else 2) (fun i => if i = 0 then 0 else 0) 2 2 = ⟨1, 0, -2, 0⟩ := by rfl
def oneF (_ : Nat) : Num := ⟨1, 0, 0, 0⟩
def twoF (i : Nat) : Num := if i = 0 then ⟨1, 0, 0, 0⟩ else ⟨0, 0, 1, 0⟩
theorem offDoc : offR 2 2 oneF twoF = 2 := by kernel_rfl
theorem offDocE : offE 2 2 oneF twoF = 0 := by kernel_rfl
theorem seqDoc0 : seqF 0 0 = -1 := by decide
theorem seqDoc1 : seqF 0 1 = 1 := by decide
theorem Box.two {w : World} {g lo : Nat} {t : TypeId} {a b c d e f p q : Int} (h : Box w g t #[.int .i64 a, .int .i64 b, .int .i64 c, .int .i64 d, .int .i64 e, .int .i64 f, .int .i64 p, .int .i64 q]) (hl : lo ≤ g) (F : Nat → Num) (h0 : F 0 = ⟨a, b, c, d⟩) (h1 : F 1 = ⟨e, f, p, q⟩) :
    NumsAt w lo (some ⟨g, 0, none⟩) 2 F := fun i hi => by
  match i, hi with
  | 0, _ => rw [h0]; exact ⟨g, 0, rfl, hl, h.lt, h.at_ 0, h.at_ 1, h.at_ 2, h.at_ 3⟩
  | 1, _ => rw [h1]; exact ⟨g, 0, rfl, hl, h.lt, h.at_ 4, h.at_ 5, h.at_ 6, h.at_ 7⟩
set_option maxHeartbeats 8000000 in
set_option maxRecDepth 100000 in
theorem awake_any (w : World) : Calls Try.prog 7 #[] w fun e w' => e = .returned (.bool true) ∧ Below w.heap.size w w' := by
  have HT := hide (fun W => Turned_any ⟨0, 0, 0, 1⟩ 1 W)
  rw [tDoc, tDocE] at HT
  have HO := hide (fun A B c d W h k => OffsetOf_any A B 2 c 2 d oneF twoF W (by decide) (by decide) h k)
  rw [offDoc, offDocE] at HO
  have HS := hide (fun W => SequenceOf_right 0 W (by decide))
  go_enter Try.func7, Try.ntmps7
  go_wp2_with fail
  refine (HT.out _).mono ?_
  rintro e w1 ⟨rfl, hb1⟩
  simp only []
  go_wp2_with fail
  obtain ⟨W1, hW1⟩ : ∃ q : World, q = w1.alloc (.cells #[.int .i64 (-1), .int .i64 0, .int .i64 0, .int .i64 0] 36) := ⟨_, rfl⟩
  rw [← hW1]
  obtain ⟨g1, hg1⟩ : ∃ g, g = w1.heap.size := ⟨_, rfl⟩
  have b1 : Box W1 g1 36 #[.int .i64 (-1), .int .i64 0, .int .i64 0, .int .i64 0] := by rw [hW1]; exact Box.made hg1
  have hB1 : Below w.heap.size w W1 := by rw [hW1]; exact hb1.alloc hb1.size _
  have hs1 : w1.heap.size + 1 = W1.heap.size := by rw [hW1]; simp
  rw [hs1, ← hg1]
  clear hW1 hb1 hg1 hs1
  refine (ResponseOf_right _ 2 2 _ _ _ _ okDoc chkDoc ((Box.made rfl).path (Nat.zero_le _))).mono ?_
  rintro e w2 ⟨rfl, hb2⟩
  have hB2 : Below w.heap.size w w2 := hB1.trans ((below_behind hb2).mono hB1.size)
  replace b1 := b1.below (below_behind hb2)
  clear hb2 hB1
  obtain ⟨F, hF⟩ : ∃ F, F = fun k => respTo (fun i => if i = 0 then 0 else 1) (fun i => if i = 0 then 1 else 2) (fun i => if i = 0 then 0 else 0) k 2 := ⟨_, rfl⟩
  have HF := hide (show F 2 = ⟨1, 0, -2, 0⟩ from by rw [hF]; exact respDoc)
  rw [← hF]
  clear hF
  go_upto_region 3 with (first | (refine wpList_store8 rfl (.tmp 3) (.tmp 21) rfl w2.heap.size (fun _ => Num.zero) F rfl rfl (arrNums_alloc w2 _ _ rfl) ?_; intro W3 r3 o3) | (refine wpList_allocTo rfl (some 3) rfl (.pointer (some ⟨w2.heap.size, 0, none⟩)) (.cells (arr8 fun _ => Num.zero) 67) (by kernel_rfl) ?_))
  obtain ⟨g3, hg3⟩ : ∃ g, g = w2.heap.size := ⟨_, rfl⟩
  have hB3 : Below w.heap.size w W3 := (hB2.alloc hB2.size _).trans (o3.to_below hB2.size (Nat.le_trans hB2.size (by simp)))
  replace b1 := o3.box (b1.alloc _) (by have := b1.lt; omega)
  rw [← hg3] at r3
  rw [← hg3]
  clear hg3 o3 hB2
  go_wp2_with fail
  refine (HS.out _).mono ?_
  rintro e w4 ⟨A4, c4, rfl, hc4, hI4, hb4⟩
  replace r3 := r3.below hb4
  replace b1 := b1.below hb4
  have hB4 := hB3.trans (hb4.mono hB3.size)
  clear hb4 hB3
  go_wp2_with fail
  refine (HO.out _ _ _ _ _ (((Box.made rfl).two (Nat.zero_le _) oneF rfl rfl).alloc _) ((Box.made (by simp)).two (Nat.zero_le _) twoF rfl rfl)).mono ?_
  rintro e w5 ⟨rfl, hb5⟩
  have hc5 := below_behind (below_behind hb5)
  replace r3 := r3.below hc5
  replace b1 := b1.below hc5
  replace hI4 := hI4.below hc5
  have hB5 := hB4.trans (hc5.mono hB4.size)
  obtain ⟨b0, o0, rfl, -, -, i0⟩ := hI4 0 (by decide)
  obtain ⟨b0', o0', e0', -, -, i1⟩ := hI4 1 (by decide)
  injection e0' with e0'
  injection e0' with e1' e2'
  subst e1' e2'
  rw [seqDoc0, Nat.add_zero] at i0
  rw [seqDoc1] at i1
  have y0 := r3.part (show 2 < 8 by decide) (show 0 < 4 by decide)
  have y1 := r3.part (show 2 < 8 by decide) (show 1 < 4 by decide)
  have y2 := r3.part (show 2 < 8 by decide) (show 2 < 4 by decide)
  have y3 := r3.part (show 2 < 8 by decide) (show 3 < 4 by decide)
  rw [HF.out] at y0 y1 y2 y3
  replace y0 : w5.cell? ⟨g3, 8, none⟩ = some (.int .i64 1) := y0
  replace y1 : w5.cell? ⟨g3, 9, none⟩ = some (.int .i64 0) := y1
  replace y2 : w5.cell? ⟨g3, 10, none⟩ = some (.int .i64 (-2)) := y2
  replace y3 : w5.cell? ⟨g3, 11, none⟩ = some (.int .i64 0) := y3
  obtain ⟨x0, x1, x2, x3, -, -, -, -, -⟩ := b1.cells4
  clear r3 b1 hI4 hb5 hB4 hc5 HF HO HS HT
  go_wp2_with fail
  go_ret
  exact ⟨rfl, hB5⟩
end Go.Proofs.Ytmcgmlhpbpjmgaa
/- An append to a slice of numbers that the call made. -/
namespace Go.Proofs.Ytmcgmlhpbpjmgaa
open Go.RowKit
/-- F, and then G. -/
def catN (n : Nat) (F G : Nat → Num) : Nat → Num := fun j => if j < n then F j else G (j - n)
theorem numVals_cat (n m : Nat) (F G : Nat → Num) : numVals n F ++ numVals m G = numVals (n + m) (catN n F G) := by
  apply List.ext_getElem?
  intro j
  rw [List.getElem?_append, numVals_len, numVals_get, numVals_get, numVals_get]
  unfold catN
  by_cases h1 : j < n * 4
  · rw [if_pos h1, if_pos h1, if_pos (by omega), if_pos (by omega)]
  · rw [if_neg h1]
    by_cases h2 : j - n * 4 < m * 4
    · rw [if_pos h2, if_pos (by omega), if_neg (by omega), show (j - n * 4) / 4 = j / 4 - n by omega, show (j - n * 4) % 4 = j % 4 by omega]
    · rw [if_neg h2, if_neg (by omega)]
theorem ownNums_nil (w : World) (base : Nat) (F : Nat → Num) : OwnNums w base (.slice none 0 0) 0 F := World.ownsRow_nil _ _ _ _
theorem ownNums_form {w : World} {base n : Nat} {v : Value} {F : Nat → Num} (h : OwnNums w base v n F) : ∃ A c, v = .slice A n c ∧ n ≤ c ∧ NumsAt w base A n F := by
  rcases h.2 with ⟨rfl, hx⟩ | ⟨g, cap, cur, rfl, hb, hg, hnc, hm, hsz, htake⟩
  · subst hx
    exact ⟨_, _, rfl, Nat.le_refl _, NumsAt.nil_⟩
  · exact ⟨_, _, rfl, hnc, OwnNums.nums h⟩
theorem NumsAt.part {w : World} {lo n : Nat} {A : Option Addr} {F : Nat → Num} (h : NumsAt w lo A n F) {j : Nat} (hj : j < n * 4) : ∃ b o, A = some ⟨b, o, none⟩ ∧ w.cell? ⟨b, o + j, none⟩ = some (.int .i64 ((F (j / 4)).part (j % 4))) := by
  obtain ⟨b, o, rfl, -, -, h0, h1, h2, h3⟩ := h (j / 4) (by omega)
  refine ⟨b, o, rfl, ?_⟩
  have hlt := Nat.mod_lt j (show 0 < 4 by decide)
  have hd := Nat.div_add_mod j 4
  obtain e | e | e | e : j % 4 = 0 ∨ j % 4 = 1 ∨ j % 4 = 2 ∨ j % 4 = 3 := by omega
  · rw [e, show o + j = o + j / 4 * 4 by omega]; exact h0
  · rw [e, show o + j = o + j / 4 * 4 + 1 by omega]; exact h1
  · rw [e, show o + j = o + j / 4 * 4 + 2 by omega]; exact h2
  · rw [e, show o + j = o + j / 4 * 4 + 3 by omega]; exact h3
set_option maxRecDepth 100000 in
theorem run_append_nums (w : World) (ty : TypeId) (base lo : Nat) (v : Value) (n : Nat) (F : Nat → Num) (hown : OwnNums w base v n F)
    (A : Option Addr) (m c : Nat) (G : Nat → Num) (hr : NumsAt w lo A m G) (hnm : n + m ≤ 100000000) (hbase : base ≤ w.heap.size) :
    ∃ v' w', (Builtin.append_ #[22, 22] ty #[v, .slice A m c]).run Try.prog w = .ok v' w' ∧ OwnNums w' base v' (n + m) (catN n F G) ∧ Below base w w' := by
  obtain ⟨i0, hi, hz0, hz1, hz2⟩ := info_parts numInfo
  cases A with
  | none =>
    have hm : m = 0 := by
      rcases Nat.eq_zero_or_pos m with h0 | h0
      · exact h0
      · obtain ⟨b, o, e, -⟩ := hr 0 h0
        cases e
    subst hm
    have hrun : (Builtin.append_ #[22, 22] ty #[v, .slice none 0 c]).run Try.prog w = .ok v w := by
      rcases hown.2 with ⟨rfl, -⟩ | ⟨g, cap, cur, rfl, -, -, hnc, -⟩
      · simp [Builtin.append_, run_underlying Try.underlying22, sizeOf, typeInfo, hi, Builtin.lenOf, Builtin.firstCells]
      · simp [Builtin.append_, run_underlying Try.underlying22, sizeOf, typeInfo, hi, Builtin.lenOf, Builtin.firstCells, hnc, storeCells]
    exact ⟨v, w, hrun, OwnNums.congr (F := F) hown fun j hj => by unfold catN; rw [if_pos (show j < n by omega)], Below.refl _ _⟩
  | some ad =>
    obtain ⟨v', w', hrun, hown', hg, -, -⟩ := run_append_own_at (P := Try.prog) w base 22 ty 36 i0 (.agg #[.int .i64 0, .int .i64 0, .int .i64 0, .int .i64 0]) 4 32 Try.underlying22 hi hz0 hz1 hz2 rfl (by decide) v n _ hown ad m c (numVals m G) (by rw [numVals_len])
      (fun j u hu => by
        rw [numVals_get] at hu
        split at hu
        · rename_i hj
          obtain ⟨b, o, e, hc⟩ := hr.part hj
          injection e with e
          subst e
          injection hu with hu
          subst hu
          rw [Addr.add_lit]
          exact hc
        · cases hu)
      (fun u hu => by
        obtain ⟨j, -, rfl⟩ := List.mem_map.1 hu
        rfl) (by unfold maxLen; omega) (by omega) hbase
    rw [numVals_cat] at hown'
    exact ⟨v', w', hrun, hown', (Below.refl _ _).grown hg hbase (fun k hk => (World.ownsRow.lt hown k hk).1)⟩
theorem wp_append_nums {o : Oper} {a : Act} {K : Act → World → Prop} {Q : Exit → Act → World → Prop} (w : World) (s x : Operand)
    (ho : o.op = .call { callee := .builtin .append, args := #[s, x], argTypes := #[22, 22] })
    (base lo : Nat) (v : Value) (n : Nat) (F : Nat → Num) (hs : a.eval s = v) (hown : OwnNums w base v n F)
    (A : Option Addr) (m c : Nat) (G : Nat → Num) (hx : a.eval x = .slice A m c) (hr : NumsAt w lo A m G) (hnm : n + m ≤ 100000000) (hbase : base ≤ w.heap.size)
    (h : ∀ v' w', OwnNums w' base v' (n + m) (catN n F G) → Below base w w' → K (a.put o.dst v') w') : o.wp Try.prog a w K Q := by
  obtain ⟨v', w', hrun, h1, h2⟩ := run_append_nums w o.type base lo v n F hown A m c G hr hnm hbase
  unfold Oper.wp execOp
  simp only [ho, resolve, invoke, builtin, Sem.run_bind, Sem.run_pure, Result.andThen_ok, List.map_toArray, List.map_cons, List.map_nil, hs, hx, hrun]
  exact h v' w' h1 h2
theorem wpList_append_nums {ops : Array Oper} {rest : List Oper} {o : Oper} {a : Act} {Q : Exit → Act → World → Prop} (w : World) (hgd : o.guard = none) (s x : Operand)
    (ho : o.op = .call { callee := .builtin .append, args := #[s, x], argTypes := #[22, 22] })
    (base lo : Nat) (v : Value) (n : Nat) (F : Nat → Num) (hs : a.eval s = v) (hown : OwnNums w base v n F)
    (A : Option Addr) (m c : Nat) (G : Nat → Num) (hx : a.eval x = .slice A m c) (hr : NumsAt w lo A m G) (hnm : n + m ≤ 100000000) (hbase : base ≤ w.heap.size)
    (h : ∀ v' w', OwnNums w' base v' (n + m) (catN n F G) → Below base w w' → wpList Try.prog ops Q rest (a.put o.dst v') w') : wpList Try.prog ops Q (o :: rest) a w :=
  wpList_plain hgd fun _ hK => wp_append_nums w s x ho base lo v n F hs hown A m c G hx hr hnm hbase fun v' w' h1 h2 => hK _ _ (h v' w' h1 h2)
theorem step_append_nums {ops : Array Oper} {o : Oper} {a : Act} {K : Act → World → Prop} {Q : Exit → Act → World → Prop} {E : Prop} (w : World) (hgd : o.guard = none) (s x : Operand)
    (ho : o.op = .call { callee := .builtin .append, args := #[s, x], argTypes := #[22, 22] })
    (base lo : Nat) (v : Value) (n : Nat) (F : Nat → Num) (hs : a.eval s = v) (hown : OwnNums w base v n F)
    (A : Option Addr) (m c : Nat) (G : Nat → Num) (hx : a.eval x = .slice A m c) (hr : NumsAt w lo A m G) (hnm : n + m ≤ 100000000) (hbase : base ≤ w.heap.size)
    (h : ∀ v' w', OwnNums w' base v' (n + m) (catN n F G) → Below base w w' → K (a.put o.dst v') w') :
    if Region.wanted o (yielded ops a.tmps) = true then Oper.wp Try.prog o a w K Q else E := by
  have hw : Region.wanted o (yielded ops a.tmps) = true := by simp [Region.wanted, hgd]
  rw [if_pos hw]
  exact wp_append_nums w s x ho base lo v n F hs hown A m c G hx hr hnm hbase h
end Go.Proofs.Ytmcgmlhpbpjmgaa
/- within, IsSmall, EighthsErr, Turn, Plus of the reference; Mod of the base. -/
namespace Go.Proofs.Ytmcgmlhpbpjmgaa
open Go.RowKit
set_option maxHeartbeats 400000 in
theorem modN_any (n m : Int) (w : World) (h0 : 0 < m) (h1 : m ≤ 1000000000) :
    Calls Try.prog 87 #[.int .i64 n, .int .i64 m] w fun e w' => e = .returned (.int .i64 (n % m)) ∧ w = w' := by
  have hm0 : ¬ m = 0 := by omega
  by_cases hn : 0 ≤ n
  · have hb := Int.emod_nonneg n (show m ≠ 0 by omega)
    have hb2 := Int.emod_lt_of_pos n h0
    go_enter Try.func87, Try.ntmps87
    go_wp2_with fail
    go_ret
    exact ⟨rfl, rfl⟩
  · have hneg : n < 0 := by omega
    obtain ⟨r, hr⟩ : ∃ r, r = n.tmod m := ⟨_, rfl⟩
    have hr' := hr.symm
    have hle : -m < r ∧ r ≤ 0 := by
      rw [hr]
      have e := Int.neg_tmod (-n) m
      rw [Int.neg_neg] at e
      rw [e]
      have h2 : (-n).tmod m = (-n) % m := Int.tmod_eq_emod_of_nonneg (by omega)
      rw [h2]
      have := Int.emod_nonneg (-n) (show m ≠ 0 by omega)
      have := Int.emod_lt_of_pos (-n) h0
      omega
    have hdm : n % m = if r < 0 then r + m else r := by
      have h3 := Int.mul_tdiv_add_tmod n m
      rw [← hr] at h3
      split
      · have : n = (r + m) + m * (n.tdiv m - 1) := by rw [Int.mul_sub]; omega
        rw [this, Int.add_mul_emod_self_left]
        exact Int.emod_eq_of_lt (by omega) (by omega)
      · have h0r : r = 0 := by omega
        have : n = 0 + m * n.tdiv m := by omega
        rw [this, Int.add_mul_emod_self_left, h0r]
        rfl
    have HD := hide hdm
    obtain ⟨l1, l2⟩ := hle
    have hnn : ¬ 0 ≤ n := hn
    clear hdm hr hn
    by_cases hrz : r < 0
    · go_enter Try.func87, Try.ntmps87
      go_wp2_with fail
      go_ret
      exact ⟨ret_int (by rw [HD.out, if_pos hrz]), rfl⟩
    · have hr0 : 0 ≤ r := by omega
      have HRZ := hide hrz
      clear hrz
      go_enter Try.func87, Try.ntmps87
      go_wp2_with fail
      go_ret
      exact ⟨ret_int (by rw [HD.out, if_neg (Int.not_lt.2 HRZ.out)]), rfl⟩


theorem mod8 (n : Int) (w : World) : Calls Try.prog 87 #[.int .i64 n, .int .i64 8] w fun e w' => e = .returned (.int .i64 (n % 8)) ∧ w = w' := modN_any n 8 w (by decide) (by decide)
set_option maxHeartbeats 2000000 in
theorem turnR_any (x : Num) (n : Int) (w : World) (hx : x.Within 4611686018427387904) :
    Calls Try.prog 52 #[.agg #[.int .i64 x.a, .int .i64 x.b, .int .i64 x.c, .int .i64 x.d], .int .i64 n] w fun e w' => e = .returned (.agg #[.int .i64 (x.turns (n % 8).toNat).a, .int .i64 (x.turns (n % 8).toNat).b, .int .i64 (x.turns (n % 8).toNat).c, .int .i64 (x.turns (n % 8).toNat).d]) ∧ Below w.heap.size w w' := by
  have HX := hide hx
  clear hx
  obtain ⟨k, hk⟩ : ∃ k, k = (n % 8).toNat := ⟨_, rfl⟩
  have hkz : n % 8 = (k : Int) := by have := Int.emod_nonneg n (show (8 : Int) ≠ 0 by decide); omega
  have hk8 : k < 8 := by have := Int.emod_lt_of_pos n (show (0 : Int) < 8 by decide); omega
  rw [← hk]
  have HM := hide (fun W => mod8 n W)
  rw [hkz] at HM
  clear hk hkz
  go_enter Try.func52, Try.ntmps52
  go_wp2_with fail
  go_loopw [5] (fun i wr => ∃ j : Nat, j ≤ k ∧ i = .int .i64 (j : Int) ∧ Box wr w.heap.size 36 #[.int .i64 (x.turns j).a, .int .i64 (x.turns j).b, .int .i64 (x.turns j).c, .int .i64 (x.turns j).d] ∧ Box wr (w.heap.size + 1) 36 #[.int .i64 0, .int .i64 0, .int .i64 0, .int .i64 0] ∧ Below w.heap.size w wr) (fun i _ => k - (Go.RowKit.intOf i).toNat)
  case atStart => exact ⟨0, Nat.zero_le _, rfl, (Box.made rfl).alloc _, Box.made (by simp), by (repeat (first | (with_reducible exact Below.refl _ _) | (with_reducible refine Go.below_drewN ?_ _) | (with_reducible refine Below.drew ?_) | (with_reducible refine Below.alloc ?_ (by first | exact Nat.le_refl _ | (simp; done) | (simp; omega) | omega) _) | (with_reducible refine Below.setCell ?_ (by first | exact Nat.le_refl _ | (simp; done) | (simp; omega) | omega) _)))⟩
  case round =>
    obtain ⟨j, hj, rfl, bx, by', hB⟩ := hrel
    have hy := HX.out.turns j
    have HT := hide (show x.turns (j + 1) = (x.turns j).turn from rfl)
    obtain ⟨y, hyx⟩ : ∃ y, x.turns j = y := ⟨_, rfl⟩
    rw [hyx] at bx hy HT
    have HYX := hide hyx
    clear hyx
    obtain ⟨h1, h2, h3, h4⟩ := hy
    obtain ⟨z0, z1, z2, z3, f0, f1, f2, f3, hl⟩ := bx.cells4
    by_cases hlt : j < k
    · have hltz : (j : Int) < (k : Int) := by omega
      have q1 : IntKind.i64.wrap (-y.d) = -y.d := IntWalk.i64_in _ (by omega)
      have HBX := hide (bx.put4 (.int .i64 (-y.d)) (.int .i64 y.a) (.int .i64 y.b) (.int .i64 y.c))
      have HBY := hide (by'.other4 (c := w.heap.size) (by omega) (.int .i64 (-y.d)) (.int .i64 y.a) (.int .i64 y.b) (.int .i64 y.c))
      have HBL := hide (Below.put4 hB (Nat.le_refl _) (.int .i64 (-y.d)) (.int .i64 y.a) (.int .i64 y.b) (.int .i64 y.c))
      clear bx by' hB h1 h2 h3 h4
      go_wp2_with (go_at_call 87; refine (HM.out _).mono ?_; rintro e w' ⟨rfl, rfl⟩)
      go_roundw
      case rel => exact ⟨j + 1, by omega, by go_num, by rw [HT.out]; exact HBX.out, HBY.out, HBL.out⟩
      case measure => simp [Go.RowKit.intOf]; omega
    · obtain rfl : j = k := by omega
      obtain ⟨y0, y1, y2, y3, g0, g1, g2, g3, hl'⟩ := by'.cells4
      have HBY := hide (by'.put4 (.int .i64 y.a) (.int .i64 y.b) (.int .i64 y.c) (.int .i64 y.d))
      have HBL := hide (Below.put4 hB (Nat.le_succ _) (.int .i64 y.a) (.int .i64 y.b) (.int .i64 y.c) (.int .i64 y.d))
      clear bx by' hB h1 h2 h3 h4
      go_wp2_with (go_at_call 87; refine (HM.out _).mono ?_; rintro e w' ⟨rfl, rfl⟩)
      refine bodyPost_ret (v := .agg #[.int .i64 y.a, .int .i64 y.b, .int .i64 y.c, .int .i64 y.d]) ?_ rfl ⟨by rw [HYX.out], HBL.out⟩
      obtain ⟨y0, y1, y2, y3, -⟩ := HBY.out.cells4
      simp [results, Try.results52, go_sem, y0, y1, y2, y3]

set_option maxHeartbeats 2000000 in
theorem withinR_any (x : Num) (M : Int) (w : World) (hM : 0 ≤ M ∧ M ≤ 9000000000000000000) :
    Calls Try.prog 53 #[.agg #[.int .i64 x.a, .int .i64 x.b, .int .i64 x.c, .int .i64 x.d], .int .i64 M] w fun e w' => e = .returned (.bool (x.isIn M)) ∧ Below w.heap.size w w' := by
  have q1 : IntKind.i64.wrap (-M) = -M := IntWalk.i64_in _ (by omega)
  have HI := hide (show x.isIn M = (((withinB x.a (-M) M && withinB x.b (-M) M) && withinB x.c (-M) M) && withinB x.d (-M) M) from by
    unfold Num.isIn
    cases withinB x.a (-M) M <;> cases withinB x.b (-M) M <;> cases withinB x.c (-M) M <;> cases withinB x.d (-M) M <;> rfl)
  generalize x.isIn M = v at *
  clear hM
  cases ea : withinB x.a (-M) M
  · have HV := hide (show v = false from by rw [HI.out, ea]; rfl)
    clear HI
    go_enter Try.func53, Try.ntmps53
    go_wp2_with (go_at_call 22; refine (within_any _ _ _ _).mono ?_; rintro e w' ⟨rfl, rfl⟩; rw [ea])
    go_ret
    exact ⟨by rw [HV.out]; rfl, by (repeat (first | (with_reducible exact Below.refl _ _) | (with_reducible refine Go.below_drewN ?_ _) | (with_reducible refine Below.drew ?_) | (with_reducible refine Below.alloc ?_ (by first | exact Nat.le_refl _ | (simp; done) | (simp; omega) | omega) _) | (with_reducible refine Below.setCell ?_ (by first | exact Nat.le_refl _ | (simp; done) | (simp; omega) | omega) _)))⟩
  cases eb : withinB x.b (-M) M
  · have HV := hide (show v = false from by rw [HI.out, ea, eb]; rfl)
    clear HI
    go_enter Try.func53, Try.ntmps53
    go_wp2_with (go_at_call 22; refine (within_any _ _ _ _).mono ?_; rintro e w' ⟨rfl, rfl⟩; first | rw [ea] | rw [eb])
    go_ret
    exact ⟨by rw [HV.out]; rfl, by (repeat (first | (with_reducible exact Below.refl _ _) | (with_reducible refine Go.below_drewN ?_ _) | (with_reducible refine Below.drew ?_) | (with_reducible refine Below.alloc ?_ (by first | exact Nat.le_refl _ | (simp; done) | (simp; omega) | omega) _) | (with_reducible refine Below.setCell ?_ (by first | exact Nat.le_refl _ | (simp; done) | (simp; omega) | omega) _)))⟩
  cases ec : withinB x.c (-M) M
  · have HV := hide (show v = false from by rw [HI.out, ea, eb, ec]; rfl)
    clear HI
    go_enter Try.func53, Try.ntmps53
    go_wp2_with (go_at_call 22; refine (within_any _ _ _ _).mono ?_; rintro e w' ⟨rfl, rfl⟩; first | rw [ea] | rw [eb] | rw [ec])
    go_ret
    exact ⟨by rw [HV.out]; rfl, by (repeat (first | (with_reducible exact Below.refl _ _) | (with_reducible refine Go.below_drewN ?_ _) | (with_reducible refine Below.drew ?_) | (with_reducible refine Below.alloc ?_ (by first | exact Nat.le_refl _ | (simp; done) | (simp; omega) | omega) _) | (with_reducible refine Below.setCell ?_ (by first | exact Nat.le_refl _ | (simp; done) | (simp; omega) | omega) _)))⟩
  have HV := hide (show v = withinB x.d (-M) M from by rw [HI.out, ea, eb, ec]; simp)
  clear HI
  go_enter Try.func53, Try.ntmps53
  go_wp2_with (go_at_call 22; refine (within_any _ _ _ _).mono ?_; rintro e w' ⟨rfl, rfl⟩; first | rw [ea] | rw [eb] | rw [ec] | skip)
  go_ret
  exact ⟨by rw [HV.out]; rfl, by (repeat (first | (with_reducible exact Below.refl _ _) | (with_reducible refine Go.below_drewN ?_ _) | (with_reducible refine Below.drew ?_) | (with_reducible refine Below.alloc ?_ (by first | exact Nat.le_refl _ | (simp; done) | (simp; omega) | omega) _) | (with_reducible refine Below.setCell ?_ (by first | exact Nat.le_refl _ | (simp; done) | (simp; omega) | omega) _)))⟩
theorem isSmall_any (x : Num) (w : World) :
    Calls Try.prog 86 #[.agg #[.int .i64 x.a, .int .i64 x.b, .int .i64 x.c, .int .i64 x.d]] w fun e w' => e = .returned (.bool (x.isIn 1000000000)) ∧ Below w.heap.size w w' := by
  have HX := hide (fun W => withinR_any x 1000000000 W (by decide))
  generalize x.isIn 1000000000 = v at *
  go_enter Try.func86, Try.ntmps86
  go_wp2_with fail
  refine (HX.out _).mono ?_
  rintro e w' ⟨rfl, hb⟩
  go_wp2_with fail
  go_ret
  exact ⟨rfl, ((Below.refl _ _).alloc (Nat.le_refl _) _).trans (hb.mono (by simp))⟩
theorem eighthsErr_any (n : Int) (w : World) :
    Calls Try.prog 12 #[.int .i64 n] w fun e w' => e = .returned (.int .i64 (unI (withinB n 0 7) 2)) ∧ w = w' := by
  have HX := hide (fun W => within_any n 0 7 W)
  generalize withinB n 0 7 = v at *
  cases v
  all_goals
    go_enter Try.func12, Try.ntmps12
    go_wp2_with (go_at_call 22; refine (HX.out _).mono ?_; rintro e w' ⟨rfl, rfl⟩)
    go_ret
    exact ⟨rfl, rfl⟩
set_option maxHeartbeats 2000000 in
set_option maxRecDepth 100000 in
theorem plusR_any (x y : Num) (M : Int) (w : World) (hx : (x.add y).Within M) (hM : M ≤ 9223372036854775807) :
    Calls Try.prog 54 #[.agg #[.int .i64 x.a, .int .i64 x.b, .int .i64 x.c, .int .i64 x.d], .agg #[.int .i64 y.a, .int .i64 y.b, .int .i64 y.c, .int .i64 y.d]] w fun e w' => e = .returned (.agg #[.int .i64 (x.add y).a, .int .i64 (x.add y).b, .int .i64 (x.add y).c, .int .i64 (x.add y).d]) ∧ Below w.heap.size w w' := by
  obtain ⟨h1, h2, h3, h4⟩ := hx
  have q1 : IntKind.i64.wrap (x.a + y.a) = x.a + y.a := IntWalk.i64_in _ (by have : -M ≤ x.a + y.a ∧ x.a + y.a ≤ M := h1; omega)
  have q2 : IntKind.i64.wrap (x.b + y.b) = x.b + y.b := IntWalk.i64_in _ (by have : -M ≤ x.b + y.b ∧ x.b + y.b ≤ M := h2; omega)
  have q3 : IntKind.i64.wrap (x.c + y.c) = x.c + y.c := IntWalk.i64_in _ (by have : -M ≤ x.c + y.c ∧ x.c + y.c ≤ M := h3; omega)
  have q4 : IntKind.i64.wrap (x.d + y.d) = x.d + y.d := IntWalk.i64_in _ (by have : -M ≤ x.d + y.d ∧ x.d + y.d ≤ M := h4; omega)
  clear h1 h2 h3 h4 hM
  go_enter Try.func54, Try.ntmps54
  go_wp2_with fail
  have hb : Box (((w.alloc (.cells #[.int .i64 x.a, .int .i64 x.b, .int .i64 x.c, .int .i64 x.d] 36)).alloc (.cells #[.int .i64 y.a, .int .i64 y.b, .int .i64 y.c, .int .i64 y.d] 36)).alloc (.cells #[.int .i64 (x.a + y.a), .int .i64 (x.b + y.b), .int .i64 (x.c + y.c), .int .i64 (x.d + y.d)] 36)) (w.heap.size + 1 + 1) 36 #[.int .i64 (x.a + y.a), .int .i64 (x.b + y.b), .int .i64 (x.c + y.c), .int .i64 (x.d + y.d)] := Box.made (by simp)
  obtain ⟨y0, y1, y2, y3, -⟩ := hb.cells4
  refine bodyPost_ret (v := .agg #[.int .i64 (x.a + y.a), .int .i64 (x.b + y.b), .int .i64 (x.c + y.c), .int .i64 (x.d + y.d)]) ?_ rfl ⟨rfl, by (repeat (first | (with_reducible exact Below.refl _ _) | (with_reducible refine Go.below_drewN ?_ _) | (with_reducible refine Below.drew ?_) | (with_reducible refine Below.alloc ?_ (by first | exact Nat.le_refl _ | (simp; done) | (simp; omega) | omega) _) | (with_reducible refine Below.setCell ?_ (by first | exact Nat.le_refl _ | (simp; done) | (simp; omega) | omega) _)))⟩
  simp [results, Try.results54, go_sem, y0, y1, y2, y3]
end Go.Proofs.Ytmcgmlhpbpjmgaa
/- The reference: CopyNumbers, NumbersErr, SamplesErr, Conj. -/
namespace Go.Proofs.Ytmcgmlhpbpjmgaa
open Go.RowKit
theorem OwnNums.empty (w : World) (g : Nat) (hg : g = w.heap.size) (F : Nat → Num) : OwnNums (w.alloc (.cells #[] 36)) w.heap.size (.slice (some ⟨g, 0, none⟩) 0 0) 0 F := by
  subst hg
  exact World.ownsRow_made w #[] 0 (Nat.le_refl _) (by decide) rfl
set_option maxHeartbeats 1000000 in
theorem copyNumbers_own (A : Option Addr) (n c : Nat) (F : Nat → Num) (w : World) (hn : n ≤ 10000000) (hI : NumsAt w 0 A n F) :
    Calls Try.prog 9 #[.slice A n c] w fun e w' => ∃ v, e = .returned v ∧ OwnNums w' w.heap.size v n F ∧ Below w.heap.size w w' := by
  have HI := hide (hI.alloc (.cells #[] 36))
  have HE := hide (OwnNums.empty w _ rfl F)
  clear hI
  go_enter Try.func9, Try.ntmps9
  go_wp2_with (at_builtin; refine wpList_append_nums _ rfl (.tmp 3) (.tmp 4) rfl w.heap.size 0 (.slice (some ⟨w.heap.size, 0, none⟩) 0 0) 0 F rfl HE.out A n c F rfl HI.out (by omega) (by simp) ?_; intro v' w' h1 hb1)
  go_ret
  have hB : Below w.heap.size w w' := ((Below.refl _ _).alloc (Nat.le_refl _) _).trans hb1
  rw [Nat.zero_add] at h1
  exact ⟨_, rfl, h1.congr fun j _ => by simp [catN], hB⟩
set_option maxHeartbeats 2000000 in
set_option maxRecDepth 100000 in
theorem numbersErrR_any (A : Option Addr) (n c : Nat) (F : Nat → Num) (w : World) (hn : n ≤ 1000000) (hI : NumsAt w 0 A n F) :
    Calls Try.prog 51 #[.slice A n c] w fun e w' => e = .returned (.int .i64 (numsE 1000000000 F n)) ∧ Below w.heap.size w w' := by
  have HI := hide hI
  have HX := hide (fun j W => isSmall_any (F j) W)
  clear hI
  go_enter Try.func51, Try.ntmps51
  go_wp2_with fail
  go_loopw [3] (fun i wr => ∃ k : Nat, k ≤ n ∧ i = .int .i64 (k : Int) ∧ Hid (badE (fun j => (F j).err 1000000000) k = 0) ∧ Below w.heap.size w wr) (fun i _ => n - (Go.RowKit.intOf i).toNat)
  case atStart => exact ⟨0, Nat.zero_le _, rfl, hide rfl, Below.refl _ _⟩
  case round =>
    obtain ⟨k, hk, rfl, HZ, hB⟩ := hrel
    obtain ⟨wA, rfl⟩ : ∃ x : World, x = wr := ⟨_, rfl⟩
    by_cases hlt : k < n
    · have hltz : (k : Int) < (n : Int) := by omega
      obtain ⟨b, o, rfl, -, hb, c0, c1, c2, c3⟩ := (HI.out.below hB) k hlt
      have HXk := hide (HX.out k)
      have HG := hide (badE_succ HZ.out)
      have HQ := hide (fun h => badE_at (g := fun j => (F j).err 1000000000) HZ.out h n hlt)
      have HV := hide (show (F k).err 1000000000 = unI ((F k).isIn 1000000000) 2 from rfl)
      have HB := hide hB
      clear hB
      cases hv : (F k).isIn 1000000000
      · rw [hv] at HXk HV
        have HE := hide (show numsE 1000000000 F n = 2 from (HQ.out (by show (F k).err 1000000000 ≠ 0; rw [HV.out]; decide)).trans HV.out)
        clear HQ HG HV hv HZ
        generalize F k = x at *
        go_wp2_with fail
        refine (HXk.out _).mono ?_
        rintro e w2 ⟨rfl, hb2⟩
        have HB2 := hide (HB.out.trans (hb2.mono HB.out.size))
        clear hb2 c0 c1 c2 c3
        go_wp2_with fail
        go_ret
        exact ⟨by rw [HE.out]; rfl, HB2.out⟩
      · rw [hv] at HXk HV
        have HE := hide (show badE (fun j => (F j).err 1000000000) (k + 1) = 0 from HG.out.trans HV.out)
        clear HQ HG HV hv HZ
        generalize F k = x at *
        go_wp2_with fail
        refine (HXk.out _).mono ?_
        rintro e w2 ⟨rfl, hb2⟩
        have HB2 := hide (HB.out.trans (hb2.mono HB.out.size))
        clear hb2 c0 c1 c2 c3
        go_wp2_with fail
        go_roundw
        case rel => exact ⟨k + 1, by omega, by go_num, HE, HB2.out⟩
        case measure => simp [Go.RowKit.intOf]; omega
    · obtain rfl : k = n := by omega
      have hltz : ¬ ((k : Int) < (k : Int)) := by omega
      have HE := hide (show numsE 1000000000 F k = 0 from HZ.out)
      have HB := hide hB
      clear HZ hB
      go_wp2_with fail
      go_ret
      exact ⟨by rw [HE.out]; rfl, HB.out⟩
/-- The error of samples. -/
def sampE (n : Nat) (F : Nat → Num) : Int := if 120 < n then 8 else numsE 1000000000 F n
set_option maxHeartbeats 1000000 in
theorem samplesErrR_any (A : Option Addr) (n c : Nat) (F : Nat → Num) (w : World) (hn : n ≤ 1000000) (hI : NumsAt w 0 A n F) :
    Calls Try.prog 11 #[.slice A n c] w fun e w' => e = .returned (.int .i64 (sampE n F)) ∧ Below w.heap.size w w' := by
  have HX := hide (numbersErrR_any A n c F w hn hI)
  clear hI
  by_cases h : 120 < n
  · have HE := hide (show sampE n F = 8 from if_pos h)
    have hz : (n : Int) > 120 := by omega
    generalize sampE n F = v at *
    clear HX h
    go_enter Try.func11, Try.ntmps11
    go_wp2_with fail
    go_ret
    exact ⟨by rw [HE.out]; rfl, Below.refl _ _⟩
  · have HE := hide (show sampE n F = numsE 1000000000 F n from if_neg h)
    have hz : ¬ ((n : Int) > 120) := by omega
    generalize numsE 1000000000 F n = u at *
    generalize sampE n F = v at *
    clear h
    go_enter Try.func11, Try.ntmps11
    go_wp2_with fail
    refine HX.out.mono ?_
    rintro e w2 ⟨rfl, hb⟩
    go_wp2_with fail
    go_ret
    exact ⟨by rw [HE.out]; rfl, hb⟩
end Go.Proofs.Ytmcgmlhpbpjmgaa
/- The reference: Same, Conj, Shifted. -/
namespace Go.Proofs.Ytmcgmlhpbpjmgaa
open Go.RowKit
set_option maxHeartbeats 1000000 in
theorem conjR_any (x : Num) (w : World) (hx : x.Within 4611686018427387904) :
    Calls Try.prog 56 #[.agg #[.int .i64 x.a, .int .i64 x.b, .int .i64 x.c, .int .i64 x.d]] w fun e w' => e = .returned (.agg #[.int .i64 x.conj.a, .int .i64 x.conj.b, .int .i64 x.conj.c, .int .i64 x.conj.d]) ∧ Below w.heap.size w w' := by
  obtain ⟨ha, hb, hc, hd⟩ := hx
  obtain ⟨a, b, c, d⟩ := x
  simp only [Num.conj] at ha hb hc hd ⊢
  have q1 : IntKind.i64.wrap (-b) = -b := IntWalk.i64_in _ (by omega)
  have q2 : IntKind.i64.wrap (-c) = -c := IntWalk.i64_in _ (by omega)
  have q3 : IntKind.i64.wrap (-d) = -d := IntWalk.i64_in _ (by omega)
  clear ha hb hc hd
  go_enter Try.func56, Try.ntmps56
  go_wp2_with fail
  have hbx : Box ((w.alloc (.cells #[.int .i64 a, .int .i64 b, .int .i64 c, .int .i64 d] 36)).alloc (.cells #[.int .i64 a, .int .i64 (-d), .int .i64 (-c), .int .i64 (-b)] 36)) (w.heap.size + 1) 36 #[.int .i64 a, .int .i64 (-d), .int .i64 (-c), .int .i64 (-b)] := Box.made (by simp)
  have y0 := hbx.at_ 0
  have y1 := hbx.at_ 1
  have y2 := hbx.at_ 2
  have y3 := hbx.at_ 3
  simp only [List.getElem?_toArray] at y0 y1 y2 y3
  refine bodyPost_ret (v := .agg #[.int .i64 a, .int .i64 (-d), .int .i64 (-c), .int .i64 (-b)]) ?_ rfl ⟨rfl, by (repeat (first | (with_reducible exact Below.refl _ _) | (with_reducible refine Go.below_drewN ?_ _) | (with_reducible refine Below.drew ?_) | (with_reducible refine Below.alloc ?_ (by first | exact Nat.le_refl _ | (simp; done) | (simp; omega) | omega) _) | (with_reducible refine Below.setCell ?_ (by first | exact Nat.le_refl _ | (simp; done) | (simp; omega) | omega) _)))⟩
  simp [results, Try.results56, go_sem, y0, y1, y2, y3]
set_option maxHeartbeats 2000000 in
set_option maxRecDepth 100000 in
/-- Two lists that are alike. -/
theorem same_alike (A B : Option Addr) (n c d : Nat) (F G : Nat → Num) (w : World) (hn : n ≤ 1000000) (hI : NumsAt w 0 A n F) (hJ : NumsAt w 0 B n G) (he : ∀ j, j < n → F j = G j) :
    Calls Try.prog 13 #[.slice A n c, .slice B n d] w fun e w' => e = .returned (.bool true) ∧ Below w.heap.size w w' := by
  have HI := hide hI
  have HJ := hide (hJ.congr fun j hj => (he j hj).symm)
  have t1 : ((n : Int) != (n : Int)) = false := by simp
  clear hI hJ he
  go_enter Try.func13, Try.ntmps13
  go_wp2_with fail
  go_loopw [5] (fun i wr => ∃ k : Nat, k ≤ n ∧ i = .int .i64 (k : Int) ∧ Below w.heap.size w wr) (fun i _ => n - (Go.RowKit.intOf i).toNat)
  case atStart => exact ⟨0, Nat.zero_le _, rfl, Below.refl _ _⟩
  case round =>
    obtain ⟨k, hk, rfl, hB⟩ := hrel
    obtain ⟨wA, rfl⟩ : ∃ x : World, x = wr := ⟨_, rfl⟩
    by_cases hlt : k < n
    · have hltz : (k : Int) < (n : Int) := by omega
      obtain ⟨b, o, rfl, -, -, c0, c1, c2, c3⟩ := (HI.out.below hB) k hlt
      obtain ⟨b', o', rfl, -, -, d0, d1, d2, d3⟩ := (HJ.out.below hB) k hlt
      generalize F k = x at *
      have HB := hide hB
      clear hB
      go_wp2_with fail
      go_quiet (fail)
      go_wp2_with fail
      go_roundw
      case rel => exact ⟨k + 1, by omega, by go_num, Go.below_drewN HB.out _⟩
      case measure => simp [Go.RowKit.intOf]; omega
    · obtain rfl : k = n := by omega
      have hltz : ¬ ((k : Int) < (k : Int)) := by omega
      have HB := hide hB
      clear hB
      go_wp2_with fail
      go_ret
      exact ⟨rfl, HB.out⟩
/-- Numbers that are turned on. -/
def shiftN (F : Nat → Num) (q : Int) (j : Nat) : Num := (F j).turns ((q * (j : Int)) % 8).toNat
set_option maxHeartbeats 2000000 in
set_option maxRecDepth 100000 in
theorem shiftedR_any (A : Option Addr) (n c : Nat) (F : Nat → Num) (q : Int) (w : World) (hn : n ≤ 1000000) (hq : 0 ≤ q ∧ q ≤ 7) (hI : NumsAt w 0 A n F) (hF : ∀ j, j < n → (F j).Within 4611686018427387904) :
    Calls Try.prog 14 #[.slice A n c, .int .i64 q] w fun e w' => ∃ v, e = .returned v ∧ OwnNums w' w.heap.size v n (shiftN F q) ∧ Below w.heap.size w w' := by
  have HI := hide hI
  have HT := hide (fun j (hj : j < n) W => turnR_any (F j) (q * (j : Int)) W (hF j hj))
  clear hI hF
  go_enter Try.func14, Try.ntmps14
  go_wp2_with fail
  go_loopw [5, 6] (fun v i wr => ∃ k : Nat, k ≤ n ∧ i = .int .i64 (k : Int) ∧ OwnNums wr w.heap.size v k (shiftN F q) ∧ Below w.heap.size w wr) (fun _ i _ => n - (Go.RowKit.intOf i).toNat)
  case atStart => exact ⟨0, Nat.zero_le _, rfl, ownNums_nil _ _ _, Below.refl _ _⟩
  case round =>
    obtain ⟨k, hk, rfl, ho, hB⟩ := hrel
    obtain ⟨wA, rfl⟩ : ∃ x : World, x = wr := ⟨_, rfl⟩
    obtain ⟨O, o9, rfl, ho9, hO⟩ := ownNums_form ho
    by_cases hlt : k < n
    · have hltz : (k : Int) < (n : Int) := by omega
      obtain ⟨b, o, rfl, -, -, c0, c1, c2, c3⟩ := (HI.out.below hB) k hlt
      have HTk := hide (fun W => HT.out k hlt W)
      obtain ⟨z, hz⟩ : ∃ z, z = shiftN F q k := ⟨_, rfl⟩
      have hqk : 0 ≤ q * (k : Int) ∧ q * (k : Int) ≤ 7 * 1000000 := ⟨Int.mul_nonneg hq.1 (by omega), Int.mul_le_mul hq.2 (by omega) (by omega) (by decide)⟩
      have q1 : IntKind.i64.wrap (q * (k : Int)) = q * (k : Int) := IntWalk.i64_in _ (by omega)
      rw [show (F k).turns ((q * (k : Int)) % 8).toNat = z from hz.symm] at HTk
      have HZ := hide hz
      generalize F k = x at *
      have HO := hide ho
      have HB := hide hB
      clear hz ho hB hO hqk
      go_wp2_with fail
      refine (HTk.out _).mono ?_
      rintro e w2 ⟨rfl, hb2⟩
      have HO2 := hide (HO.out.below hb2)
      have HB2 := hide (HB.out.trans (hb2.mono HB.out.size))
      have hs2 := HB2.out.size
      clear hb2 HO HB c0 c1 c2 c3 q1
      go_wp2_with (at_builtin; refine wpList_append_nums _ rfl (.tmp 13) (.tmp 22) rfl w.heap.size 0 (.slice O k o9) k _ rfl (HO2.out.alloc _) (some ⟨_, 0, none⟩) 1 1 (fun _ => z) rfl (NumsAt.one (Box.made rfl)) (by omega) (by simp; omega) ?_; intro v' w' h1 hb4)
      go_roundw
      case rel =>
        refine ⟨k + 1, by omega, by go_num, h1.congr fun j hj => ?_, (HB2.out.alloc hs2 _).trans hb4⟩
        unfold catN
        by_cases e : j < k
        · rw [if_pos e]
        · obtain rfl : j = k := by omega
          rw [if_neg e, HZ.out]
      case measure => simp [Go.RowKit.intOf]; omega
    · obtain rfl : k = n := by omega
      have hltz : ¬ ((k : Int) < (k : Int)) := by omega
      have HO := hide ho
      have HB := hide hB
      clear ho hB hO
      go_wp2_with fail
      go_ret
      exact ⟨_, rfl, HO.out, HB.out⟩
end Go.Proofs.Ytmcgmlhpbpjmgaa
