/- Lemmas: Mi. -/
import Derived.Test.YtcpcndacodcopaaZs09
import Derived.Test.YtcpcndacodcopaaZs10
set_option linter.unusedVariables false
set_option linter.unusedSimpArgs false
/- Segments of the code. -/
namespace Go.Proofs.Ytcpcndacodcopaa
open Go.RowKit Go.Shelf
attribute [local go_sem] Oper.semAt_some
def idx {C : Nat} (pre : List (Fin C)) (i : Nat) : Nat := ((pre[i]?).map fun x => x.1).getD 0
theorem idx_left {C : Nat} {pre : List (Fin C)} {x : Fin C} {i : Nat} (h : i < pre.length) : idx (pre ++ [x]) i = idx pre i := by unfold idx; rw [List.getElem?_append_left h]
theorem idx_last {C : Nat} {pre : List (Fin C)} {x : Fin C} : idx (pre ++ [x]) pre.length = x.1 := by unfold idx; simp
theorem seqTo_length {C : Nat} : ∀ {j : Nat}, j ≤ C → (seqTo C j).length = j
  | 0, _ => rfl
  | j + 1, h => by rw [seqTo_succ (show j < C by omega), List.length_append, seqTo_length (by omega)]; rfl
theorem idx_seq {C : Nat} : ∀ {j : Nat}, j ≤ C → ∀ i, i < j → idx (seqTo C j) i = i
  | 0, _, i, hi => absurd hi (Nat.not_lt_zero _)
  | j + 1, h, i, hi => by
    rw [seqTo_succ (show j < C by omega)]
    rcases Nat.lt_or_ge i j with h1 | h1
    · rw [idx_left (by rw [seqTo_length (by omega)]; exact h1)]
      exact idx_seq (by omega) i h1
    · obtain rfl : i = j := by omega
      have := idx_last (pre := seqTo C i) (x := ⟨i, by omega⟩)
      rwa [seqTo_length (by omega)] at this
section
variable {W Y : World} {row : Option Nat}
theorem IntsAt.own {lo n : Nat} {A : Option Addr} {F : Nat → Int} (h : IntsAt W lo A n F) (hg : W.grownBy Y row) (hr : ∀ r, row = some r → ∃ o : Obj, W.heap[r]? = some o ∧ o.isCells = false) : IntsAt Y lo A n F := fun k hk => by
  obtain ⟨b, o, e, h1, h2, h3⟩ := h k hk
  exact ⟨b, o, e, h1, Nat.lt_of_lt_of_le h2 hg.size, cell_kept h3 hg hr⟩
theorem Box.own {b : Nat} {t : TypeId} {cs : Array Value} (h : Box W b t cs) (hg : W.grownBy Y row) (hr : ∀ r, row = some r → ∃ o : Obj, W.heap[r]? = some o ∧ o.isCells = false) : Box Y b t cs :=
  (hg.block b h.lt (fun e => by
    obtain ⟨o, h1, h2⟩ := hr b e.symm
    have : W.heap[b]? = some (.cells cs t (0, 0)) := h
    rw [this] at h1
    injection h1 with h1
    subst h1
    cases h2)).trans h
theorem OwnLists.own {base n : Nat} {v : Value} {L : Nat → Nat} {F : Nat → Nat → Int} (h : OwnLists W base v n L F) (hg : W.grownBy Y row) (hr : ∀ r, row = some r → ∃ o : Obj, W.heap[r]? = some o ∧ o.isCells = false) : OwnLists Y base v n L F := by
  obtain ⟨xs, h1, h2⟩ := h
  refine ⟨xs, World.ownsRow.kept h1 hg ?_, fun i hi => ?_⟩
  · rcases h1.2 with ⟨rfl, -⟩ | ⟨g, cap, cur, rfl, -, hgg, -⟩
    · exact .inl rfl
    · refine .inr fun e => ?_
      obtain ⟨o, h3, h4⟩ := hr g e.symm
      rw [hgg] at h3
      injection h3 with h3
      subst h3
      cases h4
  · obtain ⟨Ai, ci, e, h3, h4, h5, h6⟩ := h2 i hi
    exact ⟨Ai, ci, e, h3, h4, h5.own hg hr, fun b o e => ⟨(h6 b o e).1, Nat.lt_of_lt_of_le (h6 b o e).2 hg.size⟩⟩
end
/-- What holds between two rounds: the variable parts, in the block p, has the segments so far; nothing else has turned. -/
structure SInv (w5 W : World) (p x y a f cnt : Nat) (B : Nat → Int) (pre : List (Fin cnt)) (v : Value) : Prop where
  box : Box W p 36 #[v]
  own : OwnLists W w5.heap.size v pre.length (fun _ => a + x) (fun i => segF x y a f B (idx pre i))
  only : Only p w5 W
theorem SInv.grown {w5 W Y : World} {p x y a f cnt : Nat} {B : Nat → Int} {pre : List (Fin cnt)} {v : Value} {row : Option Nat} (h : SInv w5 W p x y a f cnt B pre v) (hg : W.grownBy Y row) (hr : ∀ r, row = some r → w5.heap.size ≤ r ∧ ∃ o : Obj, W.heap[r]? = some o ∧ o.isCells = false) : SInv w5 Y p x y a f cnt B pre v :=
  ⟨h.box.own hg (fun r e => (hr r e).2), h.own.own hg (fun r e => (hr r e).2), ⟨hg.os.trans h.only.os, hg.tape.trans h.only.tape, hg.output.trans h.only.output, Nat.le_trans h.only.size hg.size, fun i hi hn => (hg.block i (Nat.lt_of_lt_of_le hi h.only.size) (fun e => by have := (hr i e.symm).1; omega)).trans (h.only.block i hi hn)⟩⟩
theorem OwnLists.other {w : World} {base n p : Nat} {v : Value} {L : Nat → Nat} {F : Nat → Nat → Int} (h : OwnLists w base v n L F) (hp : p < base) (o : Nat) (u : Value) : OwnLists (w.setCell ⟨p, o, none⟩ u) base v n L F := by
  obtain ⟨xs, h1, h2⟩ := h
  refine ⟨xs, World.ownsRow.kept h1 ((Only.refl p w).set_ o u) ?_, fun i hi => ?_⟩
  · cases e : v.ownBlock with
    | none => exact .inl rfl
    | some g => exact .inr (fun e2 => by injection e2 with e2; have := (World.ownsRow.lt h1 g e).1; omega)
  · obtain ⟨Ai, ci, e, h3, h4, h5, h6⟩ := h2 i hi
    exact ⟨Ai, ci, e, h3, h4, h5.other hp _, fun b o e => ⟨(h6 b o e).1, by simpa [World.setCell] using (h6 b o e).2⟩⟩
theorem step_append_listIn {Fc : Fence} {fu : Nat} {ops : Array Oper} {o : Oper} {a : Act} {K : Act → World → Prop} {Q : Exit → Act → World → Prop} {E : Prop} (w : World) (hgd : o.guard = none) (s x : Operand)
    (ho : o.op = .call { callee := .builtin .append, args := #[s, x], argTypes := #[36, 36] })
    (base : Nat) (v : Value) (n : Nat) (L : Nat → Nat) (F : Nat → Nat → Int) (hs : a.eval s = v) (hown : OwnLists w base v n L F)
    (g1 : Nat) (A : Option Addr) (m c : Nat) (G : Nat → Int) (hx : a.eval x = .slice (some ⟨g1, 0, none⟩) 1 1) (hc : w.cell? ⟨g1, 0, none⟩ = some (.slice A m c)) (hmc : m ≤ c) (hc9 : c ≤ 9223372036854775807) (hr : IntsAt w base A m G) (ha : ∀ b o, A = some ⟨b, o, none⟩ → v.ownBlock ≠ some b ∧ b < w.heap.size) (hn : n ≤ 1000000) (hbase : base ≤ w.heap.size)
    (h : ∀ v' w', OwnLists w' base v' (n + 1) (snocN n L m) (snocF n F G) → Below base w w' → w.grownBy w' v.ownBlock → K (a.put o.dst v') w') :
    if Region.wanted o (yielded ops a.tmps) = true then Oper.wpIn Fc fu Try.prog o a w K Q else E := by
  have hw : Region.wanted o (yielded ops a.tmps) = true := by simp [Region.wanted, hgd]
  rw [if_pos hw]
  obtain ⟨v', w', hrun, h1, h2, h3⟩ := run_append_list w o.type base v n L F hown g1 A m c G hc hmc hc9 hr ha hn hbase
  unfold Oper.wpIn
  refine ⟨?_, ?_⟩
  · simp [Oper.about, ho, resolve, Target.leads, Sem.run_pure]
  · rw [Oper.semAt_plain Fc _ _ (by rw [ho]; intro c hc'; cases hc')]
    simp [execOp, ho, resolve, invoke, builtin, hs, hx, hrun, Result.andThen]
    exact h v' w' h1 h2 h3
theorem OwnLists.weak {w : World} {base base' n : Nat} {v : Value} {L : Nat → Nat} {F : Nat → Nat → Int} (h : OwnLists w base v n L F) (hb : base' ≤ base) : OwnLists w base' v n L F := by
  obtain ⟨xs, h1, h2⟩ := h
  exact ⟨xs, ⟨h1.1, h1.2.elim Or.inl (fun ⟨g, cap, cur, hv, hg, r⟩ => Or.inr ⟨g, cap, cur, hv, Nat.le_trans hb hg, r⟩)⟩, fun i hi => by obtain ⟨Ai, ci, e, h3, h4, h5, h6⟩ := h2 i hi; exact ⟨Ai, ci, e, h3, h4, h5.weak hb, h6⟩⟩
theorem seg_fin {w6 W w7 w8 : World} {p x y a f cnt u c7 : Nat} {B : Nat → Int} {pre : List (Fin cnt)} {xx : Fin cnt} {v v' : Value} {A7 : Option Addr} (hp : p + 2 < w6.heap.size) (hM : SInv w6 W p x y a f cnt B pre v) (hb7 : Below W.heap.size W w7)
    (h8 : OwnLists w8 w6.heap.size v' (pre.length + 1) (snocN pre.length (fun _ => a + x) (a + x)) (snocF pre.length (fun i => segF x y a f B (idx pre i)) (catF a (fun j => fillF f B (u + j)) (remB x y a fun j => fillF f B (u + j)))))
    (hb8 : Below w6.heap.size (w7.alloc (.cells #[.slice A7 (a + x) c7] 26)) w8) (hg8 : (w7.alloc (.cells #[.slice A7 (a + x) c7] 26)).grownBy w8 v.ownBlock) (hU : (fun j => fillF f B (u + j)) = (fun j => fillF f B (xx.1 * a + j))) :
    KeepsFrom w6.heap.size W (w8.setCell ⟨p, 0, none⟩ v') ∧ K2 (p + 1) W (w8.setCell ⟨p, 0, none⟩ v') ∧ ∃ v2, SInv w6 (w8.setCell ⟨p, 0, none⟩ v') p x y a f cnt B (pre ++ [xx]) v2 := by
  have s1 := hM.only.size
  have s2 := hb7.size
  have s3 := hb8.size
  rw [World.size_alloc] at s3
  have hb7a : Below W.heap.size W (w7.alloc (.cells #[.slice A7 (a + x) c7] 26)) := hb7.alloc s2 _
  have hW8 : Below w6.heap.size W w8 := (hb7a.mono s1).trans hb8
  have hsz : (w8.setCell ⟨p, 0, none⟩ v').heap.size = w8.heap.size := by simp [World.setCell]
  have hset : ∀ q, q ≠ p → (w8.setCell ⟨p, 0, none⟩ v').heap[q]? = w8.heap[q]? := fun q hq => Below.heap_setCell _ _ _ _ hq
  refine ⟨⟨by rw [hsz]; omega, fun q o hq hk ho => ?_⟩, ⟨by rw [hsz]; omega, ?_, ?_⟩, v', ?_, ?_, ?_⟩
  · rw [hset q (by omega)]
    have hqW : q < W.heap.size := (Array.getElem?_eq_some_iff.1 hk).1
    have h1 := (hb7a.block q hqW).trans hk
    refine (hg8.block q (by simp; omega) (fun e => ?_)).trans h1
    obtain ⟨xs, g1, -⟩ := hM.own
    rcases g1.2 with ⟨rfl, -⟩ | ⟨g, cap, cur, rfl, -, hgg, -⟩
    · cases e
    · have e' : q = g := by injection e
      subst e'
      rw [hgg] at hk
      injection hk with hk
      subst hk
      cases ho
  · rw [hset _ (by omega)]; exact hW8.block _ (by omega)
  · rw [hset _ (by omega)]; exact hW8.block _ (by omega)
  · have := ((hM.box.below hb7).alloc (.cells #[.slice A7 (a + x) c7] 26)).kept hb8 (by omega)
    exact this.set_ 0 v'
  · rw [List.length_append, List.length_singleton]
    refine (h8.other (by omega) 0 v').congr fun i hi => ?_
    unfold snocN snocF
    by_cases e : i < pre.length
    · rw [if_pos e, if_pos e, idx_left e]; exact ⟨rfl, fun _ _ => rfl⟩
    · obtain rfl : i = pre.length := by omega
      rw [if_neg e, if_neg e, idx_last, hU]; exact ⟨rfl, fun _ _ => rfl⟩
  · refine Only.set_ ⟨hW8.os.trans hM.only.os, hW8.tape.trans hM.only.tape, hW8.output.trans hM.only.output, Nat.le_trans s1 (by omega), fun i hi hn => (hW8.block i hi).trans (hM.only.block i hi hn)⟩ 0 v'
set_option maxHeartbeats 8000000 in
set_option maxRecDepth 100000 in
theorem Segments_ok (x y m n c : Nat) (A : Option Addr) (B : Nat → Int) (w : World) (hr0 : ruleErrI x y m = 0) (h0 : 1 ≤ x) (h1 : x ≤ 16) (t1 : y < 2 ^ x) (hx : x < m) (hm : m ≤ 100) (n0 : 0 < n) (n9 : n ≤ 200) (hI : IntsAt w 0 A n B) (hb : ∀ k, k < n → IsBit (B k)) :
    Calls Try.prog 11 #[.agg #[.int .i64 (x : Int), .int .i64 (y : Int), .int .i64 (m : Int)], .slice A n c] w fun e w' => ∃ v, e = .returned (.tuple #[v, .int .i64 0]) ∧ OwnLists w' w.heap.size v (cntN x m n) (fun _ => aheadN x m n + x) (segF x y (aheadN x m n) (cntN x m n * aheadN x m n - n) B) ∧ Below w.heap.size w w' := by
  obtain ⟨c1, c2, c3, c4, c5, c6⟩ := cut_facts hx hm n0 n9
  have HI := hide hI
  have HCO := hide (fun W => cutOf_any x y m n W hx hm n0 n9)
  have HRE := hide (fun W => ruleError_any x y m W)
  have HBE := hide (bitsErr_ok' n0 n9 hb)
  rw [hr0] at HRE
  generalize cntN x m n = cnt at *
  generalize aheadN x m n = a at *
  obtain ⟨s, hs⟩ : ∃ s : Nat, s = cnt * a := ⟨_, rfl⟩
  rw [← hs] at c5 c6 HCO ⊢
  obtain ⟨f, hf⟩ : ∃ f : Nat, f = s - n := ⟨_, rfl⟩
  rw [← hf] at HCO ⊢
  have hsf : s = f + n := by omega
  have HS := hide hs
  have HB := hide (fillF_bit (f := f) hb)
  obtain ⟨i0, hi, hz0, hz1, hz2⟩ := info_parts intInfo
  have hmk := fun W => run_make_row (P := Try.prog) 26 3 i0 (.int .i64 0) Try.underlying26 hi hz0 hz1 rfl .i64 .i64 f (by rw [hz2]; omega) (by omega) W
  clear hI hs hf hb hr0 hi hz0 hz1 hz2
  refine (callsIn_wide (n := 9)).1 ?_
  refine callsIn_of_wp_marks Try.func11 rfl trivial ?_ rfl
  refine wpIn_wide.2 ?_
  simp only [Try.ntmps11, List.size_toArray, List.length_cons, List.length_nil, Nat.reduceAdd, Nat.reduceSub, Array.replicate_succ, Array.replicate_zero, List.push_toArray, List.append_toArray, List.nil_append, List.cons_append]
  go_wp2_with fail
  refine (HRE.out _).mono ?_
  rintro e w1 ⟨rfl, hb1⟩
  have hB1 := below_of_alloc hb1
  have bx1 : Box w1 w.heap.size 25 #[.int .i64 (x : Int), .int .i64 (y : Int), .int .i64 (m : Int)] := (Box.made rfl).below hb1
  go_wp2_with fail
  refine (bitsError_any A n c B _ (by omega) (HI.out.below hB1)).mono ?_
  rintro e w2 ⟨rfl, hb2⟩
  rw [HBE.out]
  have hB2 := hB1.trans (hb2.mono hB1.size)
  have bx2 := bx1.below hb2
  go_wp2_with fail
  refine (firstError_laid [0, 0] 2 _ _ rfl (by decide)).mono ?_
  rintro e w3 ⟨rfl, hw3⟩
  rw [show firstE [0, 0] = (0 : Int) from rfl]
  have bx3 : Box w3 w.heap.size 25 #[.int .i64 (x : Int), .int .i64 (y : Int), .int .i64 (m : Int)] := by rw [← hw3]; exact bx2.alloc _
  have hB3 : Below w.heap.size w w3 := by rw [← hw3]; exact hB2.alloc hB2.size _
  clear hw3 hb1 hb2 hB1 hB2 bx1 bx2
  obtain ⟨x0, x1, x2, hl3⟩ := rule_cells bx3
  go_wp2_with fail
  refine (HCO.out _).mono ?_
  rintro e w4 ⟨rfl, hb4⟩
  have bx4 := bx3.below hb4
  have hB4 := hB3.trans (hb4.mono hB3.size)
  clear x0 x1 x2 hl3 bx3 hb4 hB3
  go_wp2_with (at_builtin; refine wpList_append_ints _ rfl (.tmp 26) (.tmp 27) rfl (w4.heap.size + 1) 0 (.slice (some ⟨w4.heap.size + 1, 0, none⟩) f f) f (fun _ => 0) rfl (OwnInts.made (w4.alloc (.cells #[.int .i64 (cnt : Int), .int .i64 (a : Int), .int .i64 (f : Int)] 90)) (w4.heap.size + 1) (w4.heap.size + 1) f (by simp) (by simp) (by unfold maxLen; omega)) A n c B rfl (((HI.out.below hB4).alloc _).alloc _) (by omega) (by simp) ?_; intro v5 w5 hownA hb5; have bc5 : Box w5 w4.heap.size 90 #[.int .i64 (cnt : Int), .int .i64 (a : Int), .int .i64 (f : Int)] := ((Box.made rfl).alloc _).kept hb5 (Nat.lt_succ_self _); obtain ⟨z0, z1, z2, hlz⟩ := cutb_cells bc5)
  have hownA : OwnInts w5 (w4.heap.size + 1) v5 s (fillF f B) := by rw [hsf]; exact hownA
  have hB5a : Below w.heap.size w ((w4.alloc (.cells #[.int .i64 (cnt : Int), .int .i64 (a : Int), .int .i64 (f : Int)] 90)).alloc (.cells (madeCells #[.int .i64 0] f) 3)) := (hB4.alloc hB4.size _).alloc (by have := hB4.size; simp; omega) _
  have hB5 : Below w.heap.size w w5 := hB5a.trans (hb5.mono (by have := hB4.size; omega))
  have bx5 : Box w5 w.heap.size 25 #[.int .i64 (x : Int), .int .i64 (y : Int), .int .i64 (m : Int)] := ((bx4.alloc _).alloc _).kept hb5 (by have := bx4.lt; omega)
  obtain ⟨ga, capa, rfl, hga, hga2⟩ := hownA.row (by omega)
  obtain ⟨hsc, hcap9⟩ := hownA.cap_any
  obtain ⟨Aa, ca, ea, -, hIa⟩ := hownA.form
  injection ea with ea _ ea2; subst ea; subst ea2
  have HIA := hide (hIa.weak (Nat.zero_le _))
  have HB5 := hide hB5
  clear hIa hownA hB5 hB5a hb5 hmk bx4 hB4 bc5 z0 z1 z2
  refine (chunk_any (some ⟨ga, 0, none⟩) s capa a _ c3).mono ?_
  rintro e w6 ⟨rfl, hw6⟩
  have hz6 : w6.heap.size = w5.heap.size + 3 := by rw [← hw6]; simp
  have bs : Box w6 (w5.heap.size + 1) 26 #[.slice (some ⟨ga, 0, none⟩) s capa] := by rw [← hw6]; exact (Box.made (by simp)).alloc _
  have bn : Box w6 (w5.heap.size + 1 + 1) 3 #[.int .i64 (a : Int)] := by rw [← hw6]; exact Box.made (by simp)
  have bp : Box w6 w5.heap.size 36 #[.slice none 0 0] := by rw [← hw6]; exact ((Box.made rfl).alloc _).alloc _
  have hB6 : Below w5.heap.size w5 w6 := by rw [← hw6]; (repeat (first | (with_reducible exact Below.refl _ _) | (with_reducible refine below_drewN ?_ _) | (with_reducible refine Below.drew ?_) | (with_reducible refine Below.alloc ?_ (by first | exact Nat.le_refl _ | (simp; done) | (simp; omega) | omega) _) | (with_reducible refine Below.setCell ?_ (by first | exact Nat.le_refl _ | (simp; done) | (simp; omega) | omega) _)))
  have bx6 := bx5.below hB6
  clear hw6
  have HZ6 := hide hz6
  have HB6 := hide hB6
  have HBX := hide bx5
  have h5 := HB5.out.size
  clear hz6 hB6 bx6 bx5
  simp only [World.size_alloc]
  go_wp2_with fail
  refine (wpIn_wide (n := 9)).1 ?_
  apply wpIn_rangeFunc_ownG (n := 9) (encs := encC ga a cnt) (Kp := K2 (w5.heap.size + 1)) rfl (by decide) rfl trivial (enters_of Try.func87 (by kernel_rfl) rfl)
    (chunk_stops 8 (w5.heap.size + 1) ga a cnt s capa w6 bs bn c3 HS.out (by omega) hsc hcap9)
    K2.trans (fun W l o o' hl h _ _ => K2.put (by have := HZ6.out; omega)) (Below.refl _ _) (fun _ => rfl)
    (fun pre W => ∃ v, SInv w6 W w5.heap.size x y a f cnt B pre v) (fun _ _ _ => False)
  case hI => exact fun pre X Y row ⟨v, hs⟩ hg hr => ⟨v, hs.grown hg hr⟩
  case hIx => exact fun c s X Y row hs _ _ => hs
  case h0 => exact ⟨_, bp, OwnLists.nil_ _ _ _ _, Only.refl _ _⟩
  case hassign =>
    intro l xx W K hK
    unfold encC
    gi_wp2
    exact hK
  case hbody =>
    rintro l pre xx W ⟨v, hM⟩ hlen
    have hx2 := xx.2
    have y0 : W.cell? ⟨w5.heap.size, 0, none⟩ = some v := hM.box.at_ 0
    have hBW : Below w5.heap.size w5 W := HB6.out.trans (hM.only.to_below (Nat.le_refl _) (by have := HZ6.out; omega))
    have bxW := HBX.out.below hBW
    obtain ⟨x0, x1, x2, hlx⟩ := rule_cells bxW
    obtain ⟨u, hu⟩ : ∃ u : Nat, u = xx.1 * a := ⟨_, rfl⟩
    have hmul : (xx.1 + 1) * a ≤ cnt * a := Nat.mul_le_mul_right a hx2
    rw [← HS.out, Nat.add_mul, Nat.one_mul, ← hu] at hmul
    have hIK : IntsAt W 0 (some ⟨ga, u, none⟩) a (fun j => fillF f B (u + j)) := by
      have h6 := IntsAt.cut (j := u) (m := a) (HIA.out.below hBW) (by omega)
      rw [Nat.zero_add] at h6
      exact h6
    have HBB := hide (fun j (hj : j < a) => HB.out (u + j) (by omega))
    have HU := hide (show (fun j => fillF f B (u + j)) = (fun j => fillF f B (xx.1 * a + j)) from by rw [hu])
    have HIK := hide hIK
    have HCK := hide (fun W' (hW' : Below W.heap.size W W') => checked_own x y (some ⟨ga, u, none⟩) a a (fun j => fillF f B (u + j)) W' h0 h1 t1 (by omega) (HIK.out.below hW') HBB.out)
    rw [← hu]
    clear hu hmul hIK
    gi_wp2_with fail
    have hW6 : w6.heap.size ≤ W.heap.size := hM.only.size
    have HFIN := hide (fun (w7 w8 : World) (v' : Value) (A7 : Option Addr) (c7 : Nat) (hb7 : Below W.heap.size W w7) (h8 : OwnLists w8 w6.heap.size v' (pre.length + 1) (snocN pre.length (fun _ => a + x) (a + x)) (snocF pre.length (fun i => segF x y a f B (idx pre i)) (catF a (fun j => fillF f B (u + j)) (remB x y a fun j => fillF f B (u + j))))) (hb8 : Below w6.heap.size (w7.alloc (.cells #[.slice A7 (a + x) c7] 26)) w8) (hg8 : (w7.alloc (.cells #[.slice A7 (a + x) c7] 26)).grownBy w8 v.ownBlock) => seg_fin (by have := HZ6.out; omega) hM hb7 h8 hb8 hg8 HU.out)
    have HOW := hide hM.own
    have hp6 : w5.heap.size < w6.heap.size := by have := HZ6.out; omega
    have HBOX := hide hM.box
    have hlW := hM.box.lt
    have HAP := hide (fun (w7 : World) (A7 : Option Addr) (c7 : Nat) (hI7 : IntsAt w7 W.heap.size A7 (a + x) (catF a (fun j => fillF f B (u + j)) (remB x y a fun j => fillF f B (u + j)))) (b' o' : Nat) (e : A7 = some ⟨b', o', none⟩) => (by
      subst e
      have h7 := hI7.block (show 0 < a + x by omega)
      exact ⟨fun zz => (by have h2 := (HOW.out.lt zz).2; omega), (by simp; omega)⟩ : v.ownBlock ≠ some b' ∧ b' < (w7.alloc (.cells #[.slice A7 (a + x) c7] 26)).heap.size))
    refine wpIn_region_any (by kernel_rfl) ?_
    change wpAnyIn _ _ _ _ _ _ _ _ _ (World.drew _)
    refine wpAnyIn_ready (rs := [0, 1, 3]) (by kernel_rfl) (by simp) ?_
    refine AllReadyIn.cons rfl (fun K hK => ?_) (AllReadyIn.cons rfl (fun K hK => ?_) (AllReadyIn.cons rfl (fun K hK => ?_) (AllReadyIn.nil)))
    · go_simp
      refine hK _ _ ?_
      clear hK K
      refine wpAnyIn_ready (rs := [1, 3]) (by kernel_rfl) (by simp) ?_
      refine AllReadyIn.cons rfl (fun K hK => ?_) (AllReadyIn.cons rfl (fun K hK => ?_) (AllReadyIn.nil))
      · go_simp
        refine hK _ _ ?_
        clear hK K
        refine wpAnyIn_ready (rs := [2, 3]) (by kernel_rfl) (by simp) ?_
        refine AllReadyIn.cons rfl (fun K hK => ?_) (AllReadyIn.cons rfl (fun K hK => ?_) (AllReadyIn.nil))
        · go_simp
          refine hK _ _ ?_
          clear hK K
          refine wpAnyIn_ready (rs := [3]) (by kernel_rfl) (by simp) ?_
          refine AllReadyIn.cons rfl (fun K hK => ?_) (AllReadyIn.nil)
          · go_simp
            refine hK _ _ ?_
            clear hK K
            refine wpAnyIn_ready (rs := [4]) (by kernel_rfl) (by simp) ?_
            refine AllReadyIn.cons rfl (fun K hK => ?_) (AllReadyIn.nil)
            · go_simp
              refine ⟨trivial, CallsIn.inRound l (callsIn_wide.2 ((HCK.out _ (Below.refl _ _).drew).mono ?_))⟩
              rintro r w7 ⟨A7, c7, rfl, hc7, hc79, hI7, hb7⟩
              have hr7 := below_of_drew hb7
              have b7 := HBOX.out.below hr7
              have y7 : w7.cell? ⟨w5.heap.size, 0, none⟩ = some v := b7.at_ 0
              have hl7 := b7.lt
              refine hK _ _ ?_
              clear hK K
              refine wpAnyIn_ready (rs := [5]) (by kernel_rfl) (by simp) ?_
              refine AllReadyIn.cons rfl (fun K hK => ?_) (AllReadyIn.nil)
              · go_simp
                refine hK _ _ ?_
                clear hK K
                refine wpAnyIn_ready (rs := [6]) (by kernel_rfl) (by simp) ?_
                refine AllReadyIn.cons rfl (fun K hK => ?_) (AllReadyIn.nil)
                · refine step_append_listIn (w7.alloc (.cells #[.slice A7 (a + x) c7] 26)) rfl (.tmp 34) (.tmp 39) rfl w6.heap.size v pre.length (fun _ => a + x) (fun i => segF x y a f B (idx pre i)) rfl ((HOW.out.below hr7).alloc _) w7.heap.size A7 (a + x) c7 _ rfl ((Box.made rfl : Box _ w7.heap.size 26 #[.slice A7 (a + x) c7]).at_ 0) hc7 hc79 ((hI7.weak hW6).alloc _) (HAP.out w7 A7 c7 hI7) (by omega) (by have := hr7.size; simp; omega) ?_
                  intro v' w8 h8 hb8 hg8
                  obtain ⟨A8, c8, rfl, -, -, -⟩ := h8.form
                  have b8 := (b7.alloc _).kept hb8 hp6
                  have y8 : w8.cell? ⟨w5.heap.size, 0, none⟩ = some v := b8.at_ 0
                  have yf8 := b8.free 0
                  have hl8 := b8.lt
                  refine hK _ _ ?_
                  clear hK K
                  refine wpAnyIn_ready (rs := [7]) (by kernel_rfl) (by simp) ?_
                  refine AllReadyIn.cons rfl (fun K hK => ?_) (AllReadyIn.nil)
                  · go_simp
                    refine hK _ _ ?_
                    clear hK K
                    refine wpAnyIn_done (by kernel_rfl) ?_ _
                    (try simp only [Exit.inBlock])
                    exact HFIN.out w7 w8 _ A7 c7 hr7 h8 hb8 hg8
        · go_simp
          refine hK _ _ ?_
          clear hK K
          refine wpAnyIn_ready (rs := [2]) (by kernel_rfl) (by simp) ?_
          refine AllReadyIn.cons rfl (fun K hK => ?_) (AllReadyIn.nil)
          · go_simp
            refine hK _ _ ?_
            clear hK K
            refine wpAnyIn_ready (rs := [4]) (by kernel_rfl) (by simp) ?_
            refine AllReadyIn.cons rfl (fun K hK => ?_) (AllReadyIn.nil)
            · go_simp
              refine ⟨trivial, CallsIn.inRound l (callsIn_wide.2 ((HCK.out _ (Below.refl _ _).drew).mono ?_))⟩
              rintro r w7 ⟨A7, c7, rfl, hc7, hc79, hI7, hb7⟩
              have hr7 := below_of_drew hb7
              have b7 := HBOX.out.below hr7
              have y7 : w7.cell? ⟨w5.heap.size, 0, none⟩ = some v := b7.at_ 0
              have hl7 := b7.lt
              refine hK _ _ ?_
              clear hK K
              refine wpAnyIn_ready (rs := [5]) (by kernel_rfl) (by simp) ?_
              refine AllReadyIn.cons rfl (fun K hK => ?_) (AllReadyIn.nil)
              · go_simp
                refine hK _ _ ?_
                clear hK K
                refine wpAnyIn_ready (rs := [6]) (by kernel_rfl) (by simp) ?_
                refine AllReadyIn.cons rfl (fun K hK => ?_) (AllReadyIn.nil)
                · refine step_append_listIn (w7.alloc (.cells #[.slice A7 (a + x) c7] 26)) rfl (.tmp 34) (.tmp 39) rfl w6.heap.size v pre.length (fun _ => a + x) (fun i => segF x y a f B (idx pre i)) rfl ((HOW.out.below hr7).alloc _) w7.heap.size A7 (a + x) c7 _ rfl ((Box.made rfl : Box _ w7.heap.size 26 #[.slice A7 (a + x) c7]).at_ 0) hc7 hc79 ((hI7.weak hW6).alloc _) (HAP.out w7 A7 c7 hI7) (by omega) (by have := hr7.size; simp; omega) ?_
                  intro v' w8 h8 hb8 hg8
                  obtain ⟨A8, c8, rfl, -, -, -⟩ := h8.form
                  have b8 := (b7.alloc _).kept hb8 hp6
                  have y8 : w8.cell? ⟨w5.heap.size, 0, none⟩ = some v := b8.at_ 0
                  have yf8 := b8.free 0
                  have hl8 := b8.lt
                  refine hK _ _ ?_
                  clear hK K
                  refine wpAnyIn_ready (rs := [7]) (by kernel_rfl) (by simp) ?_
                  refine AllReadyIn.cons rfl (fun K hK => ?_) (AllReadyIn.nil)
                  · go_simp
                    refine hK _ _ ?_
                    clear hK K
                    refine wpAnyIn_done (by kernel_rfl) ?_ _
                    (try simp only [Exit.inBlock])
                    exact HFIN.out w7 w8 _ A7 c7 hr7 h8 hb8 hg8
      · go_simp
        refine hK _ _ ?_
        clear hK K
        refine wpAnyIn_ready (rs := [1]) (by kernel_rfl) (by simp) ?_
        refine AllReadyIn.cons rfl (fun K hK => ?_) (AllReadyIn.nil)
        · go_simp
          refine hK _ _ ?_
          clear hK K
          refine wpAnyIn_ready (rs := [2]) (by kernel_rfl) (by simp) ?_
          refine AllReadyIn.cons rfl (fun K hK => ?_) (AllReadyIn.nil)
          · go_simp
            refine hK _ _ ?_
            clear hK K
            refine wpAnyIn_ready (rs := [4]) (by kernel_rfl) (by simp) ?_
            refine AllReadyIn.cons rfl (fun K hK => ?_) (AllReadyIn.nil)
            · go_simp
              refine ⟨trivial, CallsIn.inRound l (callsIn_wide.2 ((HCK.out _ (Below.refl _ _).drew).mono ?_))⟩
              rintro r w7 ⟨A7, c7, rfl, hc7, hc79, hI7, hb7⟩
              have hr7 := below_of_drew hb7
              have b7 := HBOX.out.below hr7
              have y7 : w7.cell? ⟨w5.heap.size, 0, none⟩ = some v := b7.at_ 0
              have hl7 := b7.lt
              refine hK _ _ ?_
              clear hK K
              refine wpAnyIn_ready (rs := [5]) (by kernel_rfl) (by simp) ?_
              refine AllReadyIn.cons rfl (fun K hK => ?_) (AllReadyIn.nil)
              · go_simp
                refine hK _ _ ?_
                clear hK K
                refine wpAnyIn_ready (rs := [6]) (by kernel_rfl) (by simp) ?_
                refine AllReadyIn.cons rfl (fun K hK => ?_) (AllReadyIn.nil)
                · refine step_append_listIn (w7.alloc (.cells #[.slice A7 (a + x) c7] 26)) rfl (.tmp 34) (.tmp 39) rfl w6.heap.size v pre.length (fun _ => a + x) (fun i => segF x y a f B (idx pre i)) rfl ((HOW.out.below hr7).alloc _) w7.heap.size A7 (a + x) c7 _ rfl ((Box.made rfl : Box _ w7.heap.size 26 #[.slice A7 (a + x) c7]).at_ 0) hc7 hc79 ((hI7.weak hW6).alloc _) (HAP.out w7 A7 c7 hI7) (by omega) (by have := hr7.size; simp; omega) ?_
                  intro v' w8 h8 hb8 hg8
                  obtain ⟨A8, c8, rfl, -, -, -⟩ := h8.form
                  have b8 := (b7.alloc _).kept hb8 hp6
                  have y8 : w8.cell? ⟨w5.heap.size, 0, none⟩ = some v := b8.at_ 0
                  have yf8 := b8.free 0
                  have hl8 := b8.lt
                  refine hK _ _ ?_
                  clear hK K
                  refine wpAnyIn_ready (rs := [7]) (by kernel_rfl) (by simp) ?_
                  refine AllReadyIn.cons rfl (fun K hK => ?_) (AllReadyIn.nil)
                  · go_simp
                    refine hK _ _ ?_
                    clear hK K
                    refine wpAnyIn_done (by kernel_rfl) ?_ _
                    (try simp only [Exit.inBlock])
                    exact HFIN.out w7 w8 _ A7 c7 hr7 h8 hb8 hg8
    · go_simp
      refine hK _ _ ?_
      clear hK K
      refine wpAnyIn_ready (rs := [0, 2, 3]) (by kernel_rfl) (by simp) ?_
      refine AllReadyIn.cons rfl (fun K hK => ?_) (AllReadyIn.cons rfl (fun K hK => ?_) (AllReadyIn.cons rfl (fun K hK => ?_) (AllReadyIn.nil)))
      · go_simp
        refine hK _ _ ?_
        clear hK K
        refine wpAnyIn_ready (rs := [2, 3]) (by kernel_rfl) (by simp) ?_
        refine AllReadyIn.cons rfl (fun K hK => ?_) (AllReadyIn.cons rfl (fun K hK => ?_) (AllReadyIn.nil))
        · go_simp
          refine hK _ _ ?_
          clear hK K
          refine wpAnyIn_ready (rs := [3]) (by kernel_rfl) (by simp) ?_
          refine AllReadyIn.cons rfl (fun K hK => ?_) (AllReadyIn.nil)
          · go_simp
            refine hK _ _ ?_
            clear hK K
            refine wpAnyIn_ready (rs := [4]) (by kernel_rfl) (by simp) ?_
            refine AllReadyIn.cons rfl (fun K hK => ?_) (AllReadyIn.nil)
            · go_simp
              refine ⟨trivial, CallsIn.inRound l (callsIn_wide.2 ((HCK.out _ (Below.refl _ _).drew).mono ?_))⟩
              rintro r w7 ⟨A7, c7, rfl, hc7, hc79, hI7, hb7⟩
              have hr7 := below_of_drew hb7
              have b7 := HBOX.out.below hr7
              have y7 : w7.cell? ⟨w5.heap.size, 0, none⟩ = some v := b7.at_ 0
              have hl7 := b7.lt
              refine hK _ _ ?_
              clear hK K
              refine wpAnyIn_ready (rs := [5]) (by kernel_rfl) (by simp) ?_
              refine AllReadyIn.cons rfl (fun K hK => ?_) (AllReadyIn.nil)
              · go_simp
                refine hK _ _ ?_
                clear hK K
                refine wpAnyIn_ready (rs := [6]) (by kernel_rfl) (by simp) ?_
                refine AllReadyIn.cons rfl (fun K hK => ?_) (AllReadyIn.nil)
                · refine step_append_listIn (w7.alloc (.cells #[.slice A7 (a + x) c7] 26)) rfl (.tmp 34) (.tmp 39) rfl w6.heap.size v pre.length (fun _ => a + x) (fun i => segF x y a f B (idx pre i)) rfl ((HOW.out.below hr7).alloc _) w7.heap.size A7 (a + x) c7 _ rfl ((Box.made rfl : Box _ w7.heap.size 26 #[.slice A7 (a + x) c7]).at_ 0) hc7 hc79 ((hI7.weak hW6).alloc _) (HAP.out w7 A7 c7 hI7) (by omega) (by have := hr7.size; simp; omega) ?_
                  intro v' w8 h8 hb8 hg8
                  obtain ⟨A8, c8, rfl, -, -, -⟩ := h8.form
                  have b8 := (b7.alloc _).kept hb8 hp6
                  have y8 : w8.cell? ⟨w5.heap.size, 0, none⟩ = some v := b8.at_ 0
                  have yf8 := b8.free 0
                  have hl8 := b8.lt
                  refine hK _ _ ?_
                  clear hK K
                  refine wpAnyIn_ready (rs := [7]) (by kernel_rfl) (by simp) ?_
                  refine AllReadyIn.cons rfl (fun K hK => ?_) (AllReadyIn.nil)
                  · go_simp
                    refine hK _ _ ?_
                    clear hK K
                    refine wpAnyIn_done (by kernel_rfl) ?_ _
                    (try simp only [Exit.inBlock])
                    exact HFIN.out w7 w8 _ A7 c7 hr7 h8 hb8 hg8
        · go_simp
          refine hK _ _ ?_
          clear hK K
          refine wpAnyIn_ready (rs := [2]) (by kernel_rfl) (by simp) ?_
          refine AllReadyIn.cons rfl (fun K hK => ?_) (AllReadyIn.nil)
          · go_simp
            refine hK _ _ ?_
            clear hK K
            refine wpAnyIn_ready (rs := [4]) (by kernel_rfl) (by simp) ?_
            refine AllReadyIn.cons rfl (fun K hK => ?_) (AllReadyIn.nil)
            · go_simp
              refine ⟨trivial, CallsIn.inRound l (callsIn_wide.2 ((HCK.out _ (Below.refl _ _).drew).mono ?_))⟩
              rintro r w7 ⟨A7, c7, rfl, hc7, hc79, hI7, hb7⟩
              have hr7 := below_of_drew hb7
              have b7 := HBOX.out.below hr7
              have y7 : w7.cell? ⟨w5.heap.size, 0, none⟩ = some v := b7.at_ 0
              have hl7 := b7.lt
              refine hK _ _ ?_
              clear hK K
              refine wpAnyIn_ready (rs := [5]) (by kernel_rfl) (by simp) ?_
              refine AllReadyIn.cons rfl (fun K hK => ?_) (AllReadyIn.nil)
              · go_simp
                refine hK _ _ ?_
                clear hK K
                refine wpAnyIn_ready (rs := [6]) (by kernel_rfl) (by simp) ?_
                refine AllReadyIn.cons rfl (fun K hK => ?_) (AllReadyIn.nil)
                · refine step_append_listIn (w7.alloc (.cells #[.slice A7 (a + x) c7] 26)) rfl (.tmp 34) (.tmp 39) rfl w6.heap.size v pre.length (fun _ => a + x) (fun i => segF x y a f B (idx pre i)) rfl ((HOW.out.below hr7).alloc _) w7.heap.size A7 (a + x) c7 _ rfl ((Box.made rfl : Box _ w7.heap.size 26 #[.slice A7 (a + x) c7]).at_ 0) hc7 hc79 ((hI7.weak hW6).alloc _) (HAP.out w7 A7 c7 hI7) (by omega) (by have := hr7.size; simp; omega) ?_
                  intro v' w8 h8 hb8 hg8
                  obtain ⟨A8, c8, rfl, -, -, -⟩ := h8.form
                  have b8 := (b7.alloc _).kept hb8 hp6
                  have y8 : w8.cell? ⟨w5.heap.size, 0, none⟩ = some v := b8.at_ 0
                  have yf8 := b8.free 0
                  have hl8 := b8.lt
                  refine hK _ _ ?_
                  clear hK K
                  refine wpAnyIn_ready (rs := [7]) (by kernel_rfl) (by simp) ?_
                  refine AllReadyIn.cons rfl (fun K hK => ?_) (AllReadyIn.nil)
                  · go_simp
                    refine hK _ _ ?_
                    clear hK K
                    refine wpAnyIn_done (by kernel_rfl) ?_ _
                    (try simp only [Exit.inBlock])
                    exact HFIN.out w7 w8 _ A7 c7 hr7 h8 hb8 hg8
      · go_simp
        refine hK _ _ ?_
        clear hK K
        refine wpAnyIn_ready (rs := [0, 3]) (by kernel_rfl) (by simp) ?_
        refine AllReadyIn.cons rfl (fun K hK => ?_) (AllReadyIn.cons rfl (fun K hK => ?_) (AllReadyIn.nil))
        · go_simp
          refine hK _ _ ?_
          clear hK K
          refine wpAnyIn_ready (rs := [3]) (by kernel_rfl) (by simp) ?_
          refine AllReadyIn.cons rfl (fun K hK => ?_) (AllReadyIn.nil)
          · go_simp
            refine hK _ _ ?_
            clear hK K
            refine wpAnyIn_ready (rs := [4]) (by kernel_rfl) (by simp) ?_
            refine AllReadyIn.cons rfl (fun K hK => ?_) (AllReadyIn.nil)
            · go_simp
              refine ⟨trivial, CallsIn.inRound l (callsIn_wide.2 ((HCK.out _ (Below.refl _ _).drew).mono ?_))⟩
              rintro r w7 ⟨A7, c7, rfl, hc7, hc79, hI7, hb7⟩
              have hr7 := below_of_drew hb7
              have b7 := HBOX.out.below hr7
              have y7 : w7.cell? ⟨w5.heap.size, 0, none⟩ = some v := b7.at_ 0
              have hl7 := b7.lt
              refine hK _ _ ?_
              clear hK K
              refine wpAnyIn_ready (rs := [5]) (by kernel_rfl) (by simp) ?_
              refine AllReadyIn.cons rfl (fun K hK => ?_) (AllReadyIn.nil)
              · go_simp
                refine hK _ _ ?_
                clear hK K
                refine wpAnyIn_ready (rs := [6]) (by kernel_rfl) (by simp) ?_
                refine AllReadyIn.cons rfl (fun K hK => ?_) (AllReadyIn.nil)
                · refine step_append_listIn (w7.alloc (.cells #[.slice A7 (a + x) c7] 26)) rfl (.tmp 34) (.tmp 39) rfl w6.heap.size v pre.length (fun _ => a + x) (fun i => segF x y a f B (idx pre i)) rfl ((HOW.out.below hr7).alloc _) w7.heap.size A7 (a + x) c7 _ rfl ((Box.made rfl : Box _ w7.heap.size 26 #[.slice A7 (a + x) c7]).at_ 0) hc7 hc79 ((hI7.weak hW6).alloc _) (HAP.out w7 A7 c7 hI7) (by omega) (by have := hr7.size; simp; omega) ?_
                  intro v' w8 h8 hb8 hg8
                  obtain ⟨A8, c8, rfl, -, -, -⟩ := h8.form
                  have b8 := (b7.alloc _).kept hb8 hp6
                  have y8 : w8.cell? ⟨w5.heap.size, 0, none⟩ = some v := b8.at_ 0
                  have yf8 := b8.free 0
                  have hl8 := b8.lt
                  refine hK _ _ ?_
                  clear hK K
                  refine wpAnyIn_ready (rs := [7]) (by kernel_rfl) (by simp) ?_
                  refine AllReadyIn.cons rfl (fun K hK => ?_) (AllReadyIn.nil)
                  · go_simp
                    refine hK _ _ ?_
                    clear hK K
                    refine wpAnyIn_done (by kernel_rfl) ?_ _
                    (try simp only [Exit.inBlock])
                    exact HFIN.out w7 w8 _ A7 c7 hr7 h8 hb8 hg8
        · go_simp
          refine hK _ _ ?_
          clear hK K
          refine wpAnyIn_ready (rs := [0, 4]) (by kernel_rfl) (by simp) ?_
          refine AllReadyIn.cons rfl (fun K hK => ?_) (AllReadyIn.cons rfl (fun K hK => ?_) (AllReadyIn.nil))
          · go_simp
            refine hK _ _ ?_
            clear hK K
            refine wpAnyIn_ready (rs := [4]) (by kernel_rfl) (by simp) ?_
            refine AllReadyIn.cons rfl (fun K hK => ?_) (AllReadyIn.nil)
            · go_simp
              refine ⟨trivial, CallsIn.inRound l (callsIn_wide.2 ((HCK.out _ (Below.refl _ _).drew).mono ?_))⟩
              rintro r w7 ⟨A7, c7, rfl, hc7, hc79, hI7, hb7⟩
              have hr7 := below_of_drew hb7
              have b7 := HBOX.out.below hr7
              have y7 : w7.cell? ⟨w5.heap.size, 0, none⟩ = some v := b7.at_ 0
              have hl7 := b7.lt
              refine hK _ _ ?_
              clear hK K
              refine wpAnyIn_ready (rs := [5]) (by kernel_rfl) (by simp) ?_
              refine AllReadyIn.cons rfl (fun K hK => ?_) (AllReadyIn.nil)
              · go_simp
                refine hK _ _ ?_
                clear hK K
                refine wpAnyIn_ready (rs := [6]) (by kernel_rfl) (by simp) ?_
                refine AllReadyIn.cons rfl (fun K hK => ?_) (AllReadyIn.nil)
                · refine step_append_listIn (w7.alloc (.cells #[.slice A7 (a + x) c7] 26)) rfl (.tmp 34) (.tmp 39) rfl w6.heap.size v pre.length (fun _ => a + x) (fun i => segF x y a f B (idx pre i)) rfl ((HOW.out.below hr7).alloc _) w7.heap.size A7 (a + x) c7 _ rfl ((Box.made rfl : Box _ w7.heap.size 26 #[.slice A7 (a + x) c7]).at_ 0) hc7 hc79 ((hI7.weak hW6).alloc _) (HAP.out w7 A7 c7 hI7) (by omega) (by have := hr7.size; simp; omega) ?_
                  intro v' w8 h8 hb8 hg8
                  obtain ⟨A8, c8, rfl, -, -, -⟩ := h8.form
                  have b8 := (b7.alloc _).kept hb8 hp6
                  have y8 : w8.cell? ⟨w5.heap.size, 0, none⟩ = some v := b8.at_ 0
                  have yf8 := b8.free 0
                  have hl8 := b8.lt
                  refine hK _ _ ?_
                  clear hK K
                  refine wpAnyIn_ready (rs := [7]) (by kernel_rfl) (by simp) ?_
                  refine AllReadyIn.cons rfl (fun K hK => ?_) (AllReadyIn.nil)
                  · go_simp
                    refine hK _ _ ?_
                    clear hK K
                    refine wpAnyIn_done (by kernel_rfl) ?_ _
                    (try simp only [Exit.inBlock])
                    exact HFIN.out w7 w8 _ A7 c7 hr7 h8 hb8 hg8
          · go_simp
            refine ⟨trivial, CallsIn.inRound l (callsIn_wide.2 ((HCK.out _ (Below.refl _ _).drew).mono ?_))⟩
            rintro r w7 ⟨A7, c7, rfl, hc7, hc79, hI7, hb7⟩
            have hr7 := below_of_drew hb7
            have b7 := HBOX.out.below hr7
            have y7 : w7.cell? ⟨w5.heap.size, 0, none⟩ = some v := b7.at_ 0
            have hl7 := b7.lt
            refine hK _ _ ?_
            clear hK K
            refine wpAnyIn_ready (rs := [0, 5]) (by kernel_rfl) (by simp) ?_
            refine AllReadyIn.cons rfl (fun K hK => ?_) (AllReadyIn.cons rfl (fun K hK => ?_) (AllReadyIn.nil))
            · go_simp
              refine hK _ _ ?_
              clear hK K
              refine wpAnyIn_ready (rs := [5]) (by kernel_rfl) (by simp) ?_
              refine AllReadyIn.cons rfl (fun K hK => ?_) (AllReadyIn.nil)
              · go_simp
                refine hK _ _ ?_
                clear hK K
                refine wpAnyIn_ready (rs := [6]) (by kernel_rfl) (by simp) ?_
                refine AllReadyIn.cons rfl (fun K hK => ?_) (AllReadyIn.nil)
                · refine step_append_listIn (w7.alloc (.cells #[.slice A7 (a + x) c7] 26)) rfl (.tmp 34) (.tmp 39) rfl w6.heap.size v pre.length (fun _ => a + x) (fun i => segF x y a f B (idx pre i)) rfl ((HOW.out.below hr7).alloc _) w7.heap.size A7 (a + x) c7 _ rfl ((Box.made rfl : Box _ w7.heap.size 26 #[.slice A7 (a + x) c7]).at_ 0) hc7 hc79 ((hI7.weak hW6).alloc _) (HAP.out w7 A7 c7 hI7) (by omega) (by have := hr7.size; simp; omega) ?_
                  intro v' w8 h8 hb8 hg8
                  obtain ⟨A8, c8, rfl, -, -, -⟩ := h8.form
                  have b8 := (b7.alloc _).kept hb8 hp6
                  have y8 : w8.cell? ⟨w5.heap.size, 0, none⟩ = some v := b8.at_ 0
                  have yf8 := b8.free 0
                  have hl8 := b8.lt
                  refine hK _ _ ?_
                  clear hK K
                  refine wpAnyIn_ready (rs := [7]) (by kernel_rfl) (by simp) ?_
                  refine AllReadyIn.cons rfl (fun K hK => ?_) (AllReadyIn.nil)
                  · go_simp
                    refine hK _ _ ?_
                    clear hK K
                    refine wpAnyIn_done (by kernel_rfl) ?_ _
                    (try simp only [Exit.inBlock])
                    exact HFIN.out w7 w8 _ A7 c7 hr7 h8 hb8 hg8
            · go_simp
              refine hK _ _ ?_
              clear hK K
              refine wpAnyIn_ready (rs := [0]) (by kernel_rfl) (by simp) ?_
              refine AllReadyIn.cons rfl (fun K hK => ?_) (AllReadyIn.nil)
              · go_simp
                refine hK _ _ ?_
                clear hK K
                refine wpAnyIn_ready (rs := [6]) (by kernel_rfl) (by simp) ?_
                refine AllReadyIn.cons rfl (fun K hK => ?_) (AllReadyIn.nil)
                · refine step_append_listIn (w7.alloc (.cells #[.slice A7 (a + x) c7] 26)) rfl (.tmp 34) (.tmp 39) rfl w6.heap.size v pre.length (fun _ => a + x) (fun i => segF x y a f B (idx pre i)) rfl ((HOW.out.below hr7).alloc _) w7.heap.size A7 (a + x) c7 _ rfl ((Box.made rfl : Box _ w7.heap.size 26 #[.slice A7 (a + x) c7]).at_ 0) hc7 hc79 ((hI7.weak hW6).alloc _) (HAP.out w7 A7 c7 hI7) (by omega) (by have := hr7.size; simp; omega) ?_
                  intro v' w8 h8 hb8 hg8
                  obtain ⟨A8, c8, rfl, -, -, -⟩ := h8.form
                  have b8 := (b7.alloc _).kept hb8 hp6
                  have y8 : w8.cell? ⟨w5.heap.size, 0, none⟩ = some v := b8.at_ 0
                  have yf8 := b8.free 0
                  have hl8 := b8.lt
                  refine hK _ _ ?_
                  clear hK K
                  refine wpAnyIn_ready (rs := [7]) (by kernel_rfl) (by simp) ?_
                  refine AllReadyIn.cons rfl (fun K hK => ?_) (AllReadyIn.nil)
                  · go_simp
                    refine hK _ _ ?_
                    clear hK K
                    refine wpAnyIn_done (by kernel_rfl) ?_ _
                    (try simp only [Exit.inBlock])
                    exact HFIN.out w7 w8 _ A7 c7 hr7 h8 hb8 hg8
      · go_simp
        refine hK _ _ ?_
        clear hK K
        refine wpAnyIn_ready (rs := [0, 2]) (by kernel_rfl) (by simp) ?_
        refine AllReadyIn.cons rfl (fun K hK => ?_) (AllReadyIn.cons rfl (fun K hK => ?_) (AllReadyIn.nil))
        · go_simp
          refine hK _ _ ?_
          clear hK K
          refine wpAnyIn_ready (rs := [2]) (by kernel_rfl) (by simp) ?_
          refine AllReadyIn.cons rfl (fun K hK => ?_) (AllReadyIn.nil)
          · go_simp
            refine hK _ _ ?_
            clear hK K
            refine wpAnyIn_ready (rs := [4]) (by kernel_rfl) (by simp) ?_
            refine AllReadyIn.cons rfl (fun K hK => ?_) (AllReadyIn.nil)
            · go_simp
              refine ⟨trivial, CallsIn.inRound l (callsIn_wide.2 ((HCK.out _ (Below.refl _ _).drew).mono ?_))⟩
              rintro r w7 ⟨A7, c7, rfl, hc7, hc79, hI7, hb7⟩
              have hr7 := below_of_drew hb7
              have b7 := HBOX.out.below hr7
              have y7 : w7.cell? ⟨w5.heap.size, 0, none⟩ = some v := b7.at_ 0
              have hl7 := b7.lt
              refine hK _ _ ?_
              clear hK K
              refine wpAnyIn_ready (rs := [5]) (by kernel_rfl) (by simp) ?_
              refine AllReadyIn.cons rfl (fun K hK => ?_) (AllReadyIn.nil)
              · go_simp
                refine hK _ _ ?_
                clear hK K
                refine wpAnyIn_ready (rs := [6]) (by kernel_rfl) (by simp) ?_
                refine AllReadyIn.cons rfl (fun K hK => ?_) (AllReadyIn.nil)
                · refine step_append_listIn (w7.alloc (.cells #[.slice A7 (a + x) c7] 26)) rfl (.tmp 34) (.tmp 39) rfl w6.heap.size v pre.length (fun _ => a + x) (fun i => segF x y a f B (idx pre i)) rfl ((HOW.out.below hr7).alloc _) w7.heap.size A7 (a + x) c7 _ rfl ((Box.made rfl : Box _ w7.heap.size 26 #[.slice A7 (a + x) c7]).at_ 0) hc7 hc79 ((hI7.weak hW6).alloc _) (HAP.out w7 A7 c7 hI7) (by omega) (by have := hr7.size; simp; omega) ?_
                  intro v' w8 h8 hb8 hg8
                  obtain ⟨A8, c8, rfl, -, -, -⟩ := h8.form
                  have b8 := (b7.alloc _).kept hb8 hp6
                  have y8 : w8.cell? ⟨w5.heap.size, 0, none⟩ = some v := b8.at_ 0
                  have yf8 := b8.free 0
                  have hl8 := b8.lt
                  refine hK _ _ ?_
                  clear hK K
                  refine wpAnyIn_ready (rs := [7]) (by kernel_rfl) (by simp) ?_
                  refine AllReadyIn.cons rfl (fun K hK => ?_) (AllReadyIn.nil)
                  · go_simp
                    refine hK _ _ ?_
                    clear hK K
                    refine wpAnyIn_done (by kernel_rfl) ?_ _
                    (try simp only [Exit.inBlock])
                    exact HFIN.out w7 w8 _ A7 c7 hr7 h8 hb8 hg8
        · go_simp
          refine hK _ _ ?_
          clear hK K
          refine wpAnyIn_ready (rs := [0, 4]) (by kernel_rfl) (by simp) ?_
          refine AllReadyIn.cons rfl (fun K hK => ?_) (AllReadyIn.cons rfl (fun K hK => ?_) (AllReadyIn.nil))
          · go_simp
            refine hK _ _ ?_
            clear hK K
            refine wpAnyIn_ready (rs := [4]) (by kernel_rfl) (by simp) ?_
            refine AllReadyIn.cons rfl (fun K hK => ?_) (AllReadyIn.nil)
            · go_simp
              refine ⟨trivial, CallsIn.inRound l (callsIn_wide.2 ((HCK.out _ (Below.refl _ _).drew).mono ?_))⟩
              rintro r w7 ⟨A7, c7, rfl, hc7, hc79, hI7, hb7⟩
              have hr7 := below_of_drew hb7
              have b7 := HBOX.out.below hr7
              have y7 : w7.cell? ⟨w5.heap.size, 0, none⟩ = some v := b7.at_ 0
              have hl7 := b7.lt
              refine hK _ _ ?_
              clear hK K
              refine wpAnyIn_ready (rs := [5]) (by kernel_rfl) (by simp) ?_
              refine AllReadyIn.cons rfl (fun K hK => ?_) (AllReadyIn.nil)
              · go_simp
                refine hK _ _ ?_
                clear hK K
                refine wpAnyIn_ready (rs := [6]) (by kernel_rfl) (by simp) ?_
                refine AllReadyIn.cons rfl (fun K hK => ?_) (AllReadyIn.nil)
                · refine step_append_listIn (w7.alloc (.cells #[.slice A7 (a + x) c7] 26)) rfl (.tmp 34) (.tmp 39) rfl w6.heap.size v pre.length (fun _ => a + x) (fun i => segF x y a f B (idx pre i)) rfl ((HOW.out.below hr7).alloc _) w7.heap.size A7 (a + x) c7 _ rfl ((Box.made rfl : Box _ w7.heap.size 26 #[.slice A7 (a + x) c7]).at_ 0) hc7 hc79 ((hI7.weak hW6).alloc _) (HAP.out w7 A7 c7 hI7) (by omega) (by have := hr7.size; simp; omega) ?_
                  intro v' w8 h8 hb8 hg8
                  obtain ⟨A8, c8, rfl, -, -, -⟩ := h8.form
                  have b8 := (b7.alloc _).kept hb8 hp6
                  have y8 : w8.cell? ⟨w5.heap.size, 0, none⟩ = some v := b8.at_ 0
                  have yf8 := b8.free 0
                  have hl8 := b8.lt
                  refine hK _ _ ?_
                  clear hK K
                  refine wpAnyIn_ready (rs := [7]) (by kernel_rfl) (by simp) ?_
                  refine AllReadyIn.cons rfl (fun K hK => ?_) (AllReadyIn.nil)
                  · go_simp
                    refine hK _ _ ?_
                    clear hK K
                    refine wpAnyIn_done (by kernel_rfl) ?_ _
                    (try simp only [Exit.inBlock])
                    exact HFIN.out w7 w8 _ A7 c7 hr7 h8 hb8 hg8
          · go_simp
            refine ⟨trivial, CallsIn.inRound l (callsIn_wide.2 ((HCK.out _ (Below.refl _ _).drew).mono ?_))⟩
            rintro r w7 ⟨A7, c7, rfl, hc7, hc79, hI7, hb7⟩
            have hr7 := below_of_drew hb7
            have b7 := HBOX.out.below hr7
            have y7 : w7.cell? ⟨w5.heap.size, 0, none⟩ = some v := b7.at_ 0
            have hl7 := b7.lt
            refine hK _ _ ?_
            clear hK K
            refine wpAnyIn_ready (rs := [0, 5]) (by kernel_rfl) (by simp) ?_
            refine AllReadyIn.cons rfl (fun K hK => ?_) (AllReadyIn.cons rfl (fun K hK => ?_) (AllReadyIn.nil))
            · go_simp
              refine hK _ _ ?_
              clear hK K
              refine wpAnyIn_ready (rs := [5]) (by kernel_rfl) (by simp) ?_
              refine AllReadyIn.cons rfl (fun K hK => ?_) (AllReadyIn.nil)
              · go_simp
                refine hK _ _ ?_
                clear hK K
                refine wpAnyIn_ready (rs := [6]) (by kernel_rfl) (by simp) ?_
                refine AllReadyIn.cons rfl (fun K hK => ?_) (AllReadyIn.nil)
                · refine step_append_listIn (w7.alloc (.cells #[.slice A7 (a + x) c7] 26)) rfl (.tmp 34) (.tmp 39) rfl w6.heap.size v pre.length (fun _ => a + x) (fun i => segF x y a f B (idx pre i)) rfl ((HOW.out.below hr7).alloc _) w7.heap.size A7 (a + x) c7 _ rfl ((Box.made rfl : Box _ w7.heap.size 26 #[.slice A7 (a + x) c7]).at_ 0) hc7 hc79 ((hI7.weak hW6).alloc _) (HAP.out w7 A7 c7 hI7) (by omega) (by have := hr7.size; simp; omega) ?_
                  intro v' w8 h8 hb8 hg8
                  obtain ⟨A8, c8, rfl, -, -, -⟩ := h8.form
                  have b8 := (b7.alloc _).kept hb8 hp6
                  have y8 : w8.cell? ⟨w5.heap.size, 0, none⟩ = some v := b8.at_ 0
                  have yf8 := b8.free 0
                  have hl8 := b8.lt
                  refine hK _ _ ?_
                  clear hK K
                  refine wpAnyIn_ready (rs := [7]) (by kernel_rfl) (by simp) ?_
                  refine AllReadyIn.cons rfl (fun K hK => ?_) (AllReadyIn.nil)
                  · go_simp
                    refine hK _ _ ?_
                    clear hK K
                    refine wpAnyIn_done (by kernel_rfl) ?_ _
                    (try simp only [Exit.inBlock])
                    exact HFIN.out w7 w8 _ A7 c7 hr7 h8 hb8 hg8
            · go_simp
              refine hK _ _ ?_
              clear hK K
              refine wpAnyIn_ready (rs := [0]) (by kernel_rfl) (by simp) ?_
              refine AllReadyIn.cons rfl (fun K hK => ?_) (AllReadyIn.nil)
              · go_simp
                refine hK _ _ ?_
                clear hK K
                refine wpAnyIn_ready (rs := [6]) (by kernel_rfl) (by simp) ?_
                refine AllReadyIn.cons rfl (fun K hK => ?_) (AllReadyIn.nil)
                · refine step_append_listIn (w7.alloc (.cells #[.slice A7 (a + x) c7] 26)) rfl (.tmp 34) (.tmp 39) rfl w6.heap.size v pre.length (fun _ => a + x) (fun i => segF x y a f B (idx pre i)) rfl ((HOW.out.below hr7).alloc _) w7.heap.size A7 (a + x) c7 _ rfl ((Box.made rfl : Box _ w7.heap.size 26 #[.slice A7 (a + x) c7]).at_ 0) hc7 hc79 ((hI7.weak hW6).alloc _) (HAP.out w7 A7 c7 hI7) (by omega) (by have := hr7.size; simp; omega) ?_
                  intro v' w8 h8 hb8 hg8
                  obtain ⟨A8, c8, rfl, -, -, -⟩ := h8.form
                  have b8 := (b7.alloc _).kept hb8 hp6
                  have y8 : w8.cell? ⟨w5.heap.size, 0, none⟩ = some v := b8.at_ 0
                  have yf8 := b8.free 0
                  have hl8 := b8.lt
                  refine hK _ _ ?_
                  clear hK K
                  refine wpAnyIn_ready (rs := [7]) (by kernel_rfl) (by simp) ?_
                  refine AllReadyIn.cons rfl (fun K hK => ?_) (AllReadyIn.nil)
                  · go_simp
                    refine hK _ _ ?_
                    clear hK K
                    refine wpAnyIn_done (by kernel_rfl) ?_ _
                    (try simp only [Exit.inBlock])
                    exact HFIN.out w7 w8 _ A7 c7 hr7 h8 hb8 hg8
    · go_simp
      refine hK _ _ ?_
      clear hK K
      refine wpAnyIn_ready (rs := [0, 1]) (by kernel_rfl) (by simp) ?_
      refine AllReadyIn.cons rfl (fun K hK => ?_) (AllReadyIn.cons rfl (fun K hK => ?_) (AllReadyIn.nil))
      · go_simp
        refine hK _ _ ?_
        clear hK K
        refine wpAnyIn_ready (rs := [1]) (by kernel_rfl) (by simp) ?_
        refine AllReadyIn.cons rfl (fun K hK => ?_) (AllReadyIn.nil)
        · go_simp
          refine hK _ _ ?_
          clear hK K
          refine wpAnyIn_ready (rs := [2]) (by kernel_rfl) (by simp) ?_
          refine AllReadyIn.cons rfl (fun K hK => ?_) (AllReadyIn.nil)
          · go_simp
            refine hK _ _ ?_
            clear hK K
            refine wpAnyIn_ready (rs := [4]) (by kernel_rfl) (by simp) ?_
            refine AllReadyIn.cons rfl (fun K hK => ?_) (AllReadyIn.nil)
            · go_simp
              refine ⟨trivial, CallsIn.inRound l (callsIn_wide.2 ((HCK.out _ (Below.refl _ _).drew).mono ?_))⟩
              rintro r w7 ⟨A7, c7, rfl, hc7, hc79, hI7, hb7⟩
              have hr7 := below_of_drew hb7
              have b7 := HBOX.out.below hr7
              have y7 : w7.cell? ⟨w5.heap.size, 0, none⟩ = some v := b7.at_ 0
              have hl7 := b7.lt
              refine hK _ _ ?_
              clear hK K
              refine wpAnyIn_ready (rs := [5]) (by kernel_rfl) (by simp) ?_
              refine AllReadyIn.cons rfl (fun K hK => ?_) (AllReadyIn.nil)
              · go_simp
                refine hK _ _ ?_
                clear hK K
                refine wpAnyIn_ready (rs := [6]) (by kernel_rfl) (by simp) ?_
                refine AllReadyIn.cons rfl (fun K hK => ?_) (AllReadyIn.nil)
                · refine step_append_listIn (w7.alloc (.cells #[.slice A7 (a + x) c7] 26)) rfl (.tmp 34) (.tmp 39) rfl w6.heap.size v pre.length (fun _ => a + x) (fun i => segF x y a f B (idx pre i)) rfl ((HOW.out.below hr7).alloc _) w7.heap.size A7 (a + x) c7 _ rfl ((Box.made rfl : Box _ w7.heap.size 26 #[.slice A7 (a + x) c7]).at_ 0) hc7 hc79 ((hI7.weak hW6).alloc _) (HAP.out w7 A7 c7 hI7) (by omega) (by have := hr7.size; simp; omega) ?_
                  intro v' w8 h8 hb8 hg8
                  obtain ⟨A8, c8, rfl, -, -, -⟩ := h8.form
                  have b8 := (b7.alloc _).kept hb8 hp6
                  have y8 : w8.cell? ⟨w5.heap.size, 0, none⟩ = some v := b8.at_ 0
                  have yf8 := b8.free 0
                  have hl8 := b8.lt
                  refine hK _ _ ?_
                  clear hK K
                  refine wpAnyIn_ready (rs := [7]) (by kernel_rfl) (by simp) ?_
                  refine AllReadyIn.cons rfl (fun K hK => ?_) (AllReadyIn.nil)
                  · go_simp
                    refine hK _ _ ?_
                    clear hK K
                    refine wpAnyIn_done (by kernel_rfl) ?_ _
                    (try simp only [Exit.inBlock])
                    exact HFIN.out w7 w8 _ A7 c7 hr7 h8 hb8 hg8
      · go_simp
        refine hK _ _ ?_
        clear hK K
        refine wpAnyIn_ready (rs := [0, 2]) (by kernel_rfl) (by simp) ?_
        refine AllReadyIn.cons rfl (fun K hK => ?_) (AllReadyIn.cons rfl (fun K hK => ?_) (AllReadyIn.nil))
        · go_simp
          refine hK _ _ ?_
          clear hK K
          refine wpAnyIn_ready (rs := [2]) (by kernel_rfl) (by simp) ?_
          refine AllReadyIn.cons rfl (fun K hK => ?_) (AllReadyIn.nil)
          · go_simp
            refine hK _ _ ?_
            clear hK K
            refine wpAnyIn_ready (rs := [4]) (by kernel_rfl) (by simp) ?_
            refine AllReadyIn.cons rfl (fun K hK => ?_) (AllReadyIn.nil)
            · go_simp
              refine ⟨trivial, CallsIn.inRound l (callsIn_wide.2 ((HCK.out _ (Below.refl _ _).drew).mono ?_))⟩
              rintro r w7 ⟨A7, c7, rfl, hc7, hc79, hI7, hb7⟩
              have hr7 := below_of_drew hb7
              have b7 := HBOX.out.below hr7
              have y7 : w7.cell? ⟨w5.heap.size, 0, none⟩ = some v := b7.at_ 0
              have hl7 := b7.lt
              refine hK _ _ ?_
              clear hK K
              refine wpAnyIn_ready (rs := [5]) (by kernel_rfl) (by simp) ?_
              refine AllReadyIn.cons rfl (fun K hK => ?_) (AllReadyIn.nil)
              · go_simp
                refine hK _ _ ?_
                clear hK K
                refine wpAnyIn_ready (rs := [6]) (by kernel_rfl) (by simp) ?_
                refine AllReadyIn.cons rfl (fun K hK => ?_) (AllReadyIn.nil)
                · refine step_append_listIn (w7.alloc (.cells #[.slice A7 (a + x) c7] 26)) rfl (.tmp 34) (.tmp 39) rfl w6.heap.size v pre.length (fun _ => a + x) (fun i => segF x y a f B (idx pre i)) rfl ((HOW.out.below hr7).alloc _) w7.heap.size A7 (a + x) c7 _ rfl ((Box.made rfl : Box _ w7.heap.size 26 #[.slice A7 (a + x) c7]).at_ 0) hc7 hc79 ((hI7.weak hW6).alloc _) (HAP.out w7 A7 c7 hI7) (by omega) (by have := hr7.size; simp; omega) ?_
                  intro v' w8 h8 hb8 hg8
                  obtain ⟨A8, c8, rfl, -, -, -⟩ := h8.form
                  have b8 := (b7.alloc _).kept hb8 hp6
                  have y8 : w8.cell? ⟨w5.heap.size, 0, none⟩ = some v := b8.at_ 0
                  have yf8 := b8.free 0
                  have hl8 := b8.lt
                  refine hK _ _ ?_
                  clear hK K
                  refine wpAnyIn_ready (rs := [7]) (by kernel_rfl) (by simp) ?_
                  refine AllReadyIn.cons rfl (fun K hK => ?_) (AllReadyIn.nil)
                  · go_simp
                    refine hK _ _ ?_
                    clear hK K
                    refine wpAnyIn_done (by kernel_rfl) ?_ _
                    (try simp only [Exit.inBlock])
                    exact HFIN.out w7 w8 _ A7 c7 hr7 h8 hb8 hg8
        · go_simp
          refine hK _ _ ?_
          clear hK K
          refine wpAnyIn_ready (rs := [0, 4]) (by kernel_rfl) (by simp) ?_
          refine AllReadyIn.cons rfl (fun K hK => ?_) (AllReadyIn.cons rfl (fun K hK => ?_) (AllReadyIn.nil))
          · go_simp
            refine hK _ _ ?_
            clear hK K
            refine wpAnyIn_ready (rs := [4]) (by kernel_rfl) (by simp) ?_
            refine AllReadyIn.cons rfl (fun K hK => ?_) (AllReadyIn.nil)
            · go_simp
              refine ⟨trivial, CallsIn.inRound l (callsIn_wide.2 ((HCK.out _ (Below.refl _ _).drew).mono ?_))⟩
              rintro r w7 ⟨A7, c7, rfl, hc7, hc79, hI7, hb7⟩
              have hr7 := below_of_drew hb7
              have b7 := HBOX.out.below hr7
              have y7 : w7.cell? ⟨w5.heap.size, 0, none⟩ = some v := b7.at_ 0
              have hl7 := b7.lt
              refine hK _ _ ?_
              clear hK K
              refine wpAnyIn_ready (rs := [5]) (by kernel_rfl) (by simp) ?_
              refine AllReadyIn.cons rfl (fun K hK => ?_) (AllReadyIn.nil)
              · go_simp
                refine hK _ _ ?_
                clear hK K
                refine wpAnyIn_ready (rs := [6]) (by kernel_rfl) (by simp) ?_
                refine AllReadyIn.cons rfl (fun K hK => ?_) (AllReadyIn.nil)
                · refine step_append_listIn (w7.alloc (.cells #[.slice A7 (a + x) c7] 26)) rfl (.tmp 34) (.tmp 39) rfl w6.heap.size v pre.length (fun _ => a + x) (fun i => segF x y a f B (idx pre i)) rfl ((HOW.out.below hr7).alloc _) w7.heap.size A7 (a + x) c7 _ rfl ((Box.made rfl : Box _ w7.heap.size 26 #[.slice A7 (a + x) c7]).at_ 0) hc7 hc79 ((hI7.weak hW6).alloc _) (HAP.out w7 A7 c7 hI7) (by omega) (by have := hr7.size; simp; omega) ?_
                  intro v' w8 h8 hb8 hg8
                  obtain ⟨A8, c8, rfl, -, -, -⟩ := h8.form
                  have b8 := (b7.alloc _).kept hb8 hp6
                  have y8 : w8.cell? ⟨w5.heap.size, 0, none⟩ = some v := b8.at_ 0
                  have yf8 := b8.free 0
                  have hl8 := b8.lt
                  refine hK _ _ ?_
                  clear hK K
                  refine wpAnyIn_ready (rs := [7]) (by kernel_rfl) (by simp) ?_
                  refine AllReadyIn.cons rfl (fun K hK => ?_) (AllReadyIn.nil)
                  · go_simp
                    refine hK _ _ ?_
                    clear hK K
                    refine wpAnyIn_done (by kernel_rfl) ?_ _
                    (try simp only [Exit.inBlock])
                    exact HFIN.out w7 w8 _ A7 c7 hr7 h8 hb8 hg8
          · go_simp
            refine ⟨trivial, CallsIn.inRound l (callsIn_wide.2 ((HCK.out _ (Below.refl _ _).drew).mono ?_))⟩
            rintro r w7 ⟨A7, c7, rfl, hc7, hc79, hI7, hb7⟩
            have hr7 := below_of_drew hb7
            have b7 := HBOX.out.below hr7
            have y7 : w7.cell? ⟨w5.heap.size, 0, none⟩ = some v := b7.at_ 0
            have hl7 := b7.lt
            refine hK _ _ ?_
            clear hK K
            refine wpAnyIn_ready (rs := [0, 5]) (by kernel_rfl) (by simp) ?_
            refine AllReadyIn.cons rfl (fun K hK => ?_) (AllReadyIn.cons rfl (fun K hK => ?_) (AllReadyIn.nil))
            · go_simp
              refine hK _ _ ?_
              clear hK K
              refine wpAnyIn_ready (rs := [5]) (by kernel_rfl) (by simp) ?_
              refine AllReadyIn.cons rfl (fun K hK => ?_) (AllReadyIn.nil)
              · go_simp
                refine hK _ _ ?_
                clear hK K
                refine wpAnyIn_ready (rs := [6]) (by kernel_rfl) (by simp) ?_
                refine AllReadyIn.cons rfl (fun K hK => ?_) (AllReadyIn.nil)
                · refine step_append_listIn (w7.alloc (.cells #[.slice A7 (a + x) c7] 26)) rfl (.tmp 34) (.tmp 39) rfl w6.heap.size v pre.length (fun _ => a + x) (fun i => segF x y a f B (idx pre i)) rfl ((HOW.out.below hr7).alloc _) w7.heap.size A7 (a + x) c7 _ rfl ((Box.made rfl : Box _ w7.heap.size 26 #[.slice A7 (a + x) c7]).at_ 0) hc7 hc79 ((hI7.weak hW6).alloc _) (HAP.out w7 A7 c7 hI7) (by omega) (by have := hr7.size; simp; omega) ?_
                  intro v' w8 h8 hb8 hg8
                  obtain ⟨A8, c8, rfl, -, -, -⟩ := h8.form
                  have b8 := (b7.alloc _).kept hb8 hp6
                  have y8 : w8.cell? ⟨w5.heap.size, 0, none⟩ = some v := b8.at_ 0
                  have yf8 := b8.free 0
                  have hl8 := b8.lt
                  refine hK _ _ ?_
                  clear hK K
                  refine wpAnyIn_ready (rs := [7]) (by kernel_rfl) (by simp) ?_
                  refine AllReadyIn.cons rfl (fun K hK => ?_) (AllReadyIn.nil)
                  · go_simp
                    refine hK _ _ ?_
                    clear hK K
                    refine wpAnyIn_done (by kernel_rfl) ?_ _
                    (try simp only [Exit.inBlock])
                    exact HFIN.out w7 w8 _ A7 c7 hr7 h8 hb8 hg8
            · go_simp
              refine hK _ _ ?_
              clear hK K
              refine wpAnyIn_ready (rs := [0]) (by kernel_rfl) (by simp) ?_
              refine AllReadyIn.cons rfl (fun K hK => ?_) (AllReadyIn.nil)
              · go_simp
                refine hK _ _ ?_
                clear hK K
                refine wpAnyIn_ready (rs := [6]) (by kernel_rfl) (by simp) ?_
                refine AllReadyIn.cons rfl (fun K hK => ?_) (AllReadyIn.nil)
                · refine step_append_listIn (w7.alloc (.cells #[.slice A7 (a + x) c7] 26)) rfl (.tmp 34) (.tmp 39) rfl w6.heap.size v pre.length (fun _ => a + x) (fun i => segF x y a f B (idx pre i)) rfl ((HOW.out.below hr7).alloc _) w7.heap.size A7 (a + x) c7 _ rfl ((Box.made rfl : Box _ w7.heap.size 26 #[.slice A7 (a + x) c7]).at_ 0) hc7 hc79 ((hI7.weak hW6).alloc _) (HAP.out w7 A7 c7 hI7) (by omega) (by have := hr7.size; simp; omega) ?_
                  intro v' w8 h8 hb8 hg8
                  obtain ⟨A8, c8, rfl, -, -, -⟩ := h8.form
                  have b8 := (b7.alloc _).kept hb8 hp6
                  have y8 : w8.cell? ⟨w5.heap.size, 0, none⟩ = some v := b8.at_ 0
                  have yf8 := b8.free 0
                  have hl8 := b8.lt
                  refine hK _ _ ?_
                  clear hK K
                  refine wpAnyIn_ready (rs := [7]) (by kernel_rfl) (by simp) ?_
                  refine AllReadyIn.cons rfl (fun K hK => ?_) (AllReadyIn.nil)
                  · go_simp
                    refine hK _ _ ?_
                    clear hK K
                    refine wpAnyIn_done (by kernel_rfl) ?_ _
                    (try simp only [Exit.inBlock])
                    exact HFIN.out w7 w8 _ A7 c7 hr7 h8 hb8 hg8
  case hdone =>
    rintro D xs W hD hxs ⟨v, hM⟩ hK
    have y0 : W.cell? ⟨w5.heap.size, 0, none⟩ = some v := hM.box.at_ 0
    have hK' := hide hK
    have HXS := hide hxs
    clear hxs hK
    have hlt := hM.box.lt
    go_wp2_with fail
    refine ⟨by simp, .inl ⟨_, _, rfl, run_takeDeferred hK'.out, ?_⟩⟩
    refine ⟨_, results_tmp2 rfl _ _ _, _, rfl, ?_⟩
    have hz5 := HZ6.out
    have hB5 := HB5.out
    have hDz : D < W.heap.size := (Array.getElem?_eq_some_iff.1 hK'.out).1
    have hM3 : SInv w6 (W.putObj D (.deferred none)) w5.heap.size x y a f cnt B xs v := hM.grown (grownBy_putObj' W D _) (fun r e => by cases e; exact ⟨by omega, _, hK'.out, rfl⟩)
    rw [HXS.out] at hM3
    refine ⟨?_, ?_⟩
    · show OwnLists _ _ v _ _ _
      have h9 := hM3.own
      rw [seqTo_length (Nat.le_refl _)] at h9
      exact (h9.weak (by omega)).congr fun i hi => ⟨rfl, fun k _ => by rw [idx_seq (Nat.le_refl _) i hi]⟩
    · exact hB5.trans (((HB6.out.trans ((hM3.only.to_below (Nat.le_refl _) (by omega))))).mono (by omega))
  case hstop => exact fun D c pre W _ _ h _ => h.elim
end Go.Proofs.Ytcpcndacodcopaa
