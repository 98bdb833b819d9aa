/- Lemmas: Ph, Pj. -/
import Derived.Deep.RegionLaw
import Derived.Test.YtnglmfdcnoglhaaBk12
import Derived.Test.YtnglmfdcnoglhaaBk13
set_option linter.unusedVariables false
set_option linter.unusedSimpArgs false
/- Begin, of the code and of the reference: empty buffers. -/
namespace Go.Proofs.Ytnglmfdcnoglhaa
open Go.RowKit Go.Shelf Go.Lib
theorem catA_same {α : Type} (n : Nat) (a : α) : catA n (fun _ => a) (fun _ => a) = fun _ => a := by
  funext j
  unfold catA
  split <;> rfl
/-- One buffer appended, as a step of a region that draws its order. -/
theorem step_append_proc1 {ops : Array Oper} {o : Oper} {a : Act} {Kk : Act → World → Prop} {Q : Exit → Act → World → Prop} {E : Prop} (w : World) (hgd : o.guard = none) (s x : Operand)
    (ho : o.op = .call { callee := .builtin .append, args := #[s, x], argTypes := #[34, 34] })
    (base lo : Nat) (v : Value) (n : Nat) (T K : Nat → Int) (L : Nat → Nat) (A : Nat → Option Addr) (C : Nat → Nat) (S : Nat → Nat → Int) (hs : a.eval s = v) (hown : OwnProcs w base lo v n T K L A C S)
    (g1 : Nat) (t k : Int) (A1 : Option Addr) (l1 c1 : Nat) (S1 : Nat → Int) (hx : a.eval x = .slice (some ⟨g1, 0, none⟩) 1 1) (bx : Box w g1 55 #[.int .i64 t, .int .i64 k, .slice A1 l1 c1])
    (hI : IntsAt w lo A1 l1 S1) (hA : ∀ b o, A1 = some ⟨b, o, none⟩ → v.ownBlock ≠ some b ∧ b < w.heap.size) (hn : n + 1 ≤ 1000000) (hbase : base ≤ w.heap.size)
    (h : ∀ v' w', OwnProcs w' base lo v' (n + 1) (catA n T (fun _ => t)) (catA n K (fun _ => k)) (catA n L (fun _ => l1)) (catA n A (fun _ => A1)) (catA n C (fun _ => c1)) (catA n S (fun _ => S1)) → Below base w w' → Kk (a.put o.dst v') w') :
    if Region.wanted o (yielded ops a.tmps) = true then Oper.wp Try.prog o a w Kk Q else E := by
  have hw : Region.wanted o (yielded ops a.tmps) = true := by simp [Region.wanted, hgd]
  rw [if_pos hw]
  obtain ⟨v', w', hrun, h1, h2, -⟩ := run_append_procs w o.type base lo v n T K L A C S hown ⟨g1, 0, none⟩ 1 1 (fun _ => t) (fun _ => k) (fun _ => l1) (fun _ => A1) (fun _ => c1) (fun _ => S1)
    (fun i hi => by
      obtain rfl : i = 0 := by omega
      exact ⟨g1, 0, rfl, bx.at_ 0, bx.at_ 1, bx.at_ 2⟩)
    (fun i _ => ⟨hI, hA⟩) hn hbase
  unfold Oper.wp execOp
  simp only [ho, resolve, invoke, builtin, Sem.run_bind, Sem.run_pure, Result.andThen_ok, List.map_toArray, List.map_cons, List.map_nil, hs, hx, hrun]
  exact h v' w' h1 h2
/-- The error where buffers are begun. -/
def beginErrI (len cnt : Int) : Int := if withinB len 1 200 = true ∧ withinB cnt 1 8 = true then 0 else 2
theorem beginErr_first (len cnt : Int) : firstE [unI (withinB len 1 200) 2, unI (withinB cnt 1 8) 2] = beginErrI len cnt := by
  unfold beginErrI
  cases withinB len 1 200 <;> cases withinB cnt 1 8 <;> rfl
/-- Buffers that were begun, one after the other. -/
structure BegI (w : World) (base h0 q n : Nat) (W : World) : Prop where
  own : ∃ D c, W.cell? ⟨h0, 1, none⟩ = some (.slice D n c) ∧ Box W h0 36 #[.int .i64 (q : Int), .slice D n c] ∧ ∃ A C, OwnProcs W base base (.slice D n c) n (fun _ => -1) (fun _ => 0) (fun _ => q) A C (fun _ _ => 0)
  below : Below w.heap.size w W
  res : Box W w.heap.size 36 #[.int .i64 0, .slice none 0 0]
  b1 : base ≤ W.heap.size
theorem BegI.step {w wr W w' : World} {base h0 q j c' : Nat} {D' : Option Addr} {A' : Nat → Option Addr} {C' : Nat → Nat} (h : BegI w base h0 q j wr) (hW : Below wr.heap.size wr W) (h0b : h0 < base) (hq : 1 ≤ q) (hws : w.heap.size < h0)
    (h1 : OwnProcs w' base base (.slice D' (j + 1) c') (j + 1) (catA j (fun _ => -1) (fun _ => -1)) (catA j (fun _ => 0) (fun _ => 0)) (catA j (fun _ => q) (fun _ => q)) A' C' (catA j (fun _ _ => 0) (fun _ => fun _ => 0))) (hb2 : Below base W w') : BegI w base h0 q (j + 1) (w'.setCell ⟨h0, 1, none⟩ (.slice D' (j + 1) c')) := by
  rw [catA_same, catA_same, catA_same, catA_same] at h1
  obtain ⟨⟨D, c, -, bb, A, C, hown⟩, hB, br, hbs⟩ := h
  have bb2 : Box (w'.setCell ⟨h0, 1, none⟩ (.slice D' (j + 1) c')) h0 36 #[.int .i64 (q : Int), .slice D' (j + 1) c'] := ((bb.below hW).kept hb2 h0b).set_ 1 (.slice D' (j + 1) c')
  have hown2 := h1.other (k := h0) 1 (.slice D' (j + 1) c') (fun e => by have := (h1.lt e).1; omega) (fun i hi b o e => by
    have hI := (h1.2 i hi).1
    rw [e] at hI
    have := (hI.block hq).1
    omega)
  have s1 := hW.size
  have s2 := hb2.size
  refine ⟨⟨D', c', bb2.at_ 1, bb2, _, _, hown2⟩, ?_, ?_, ?_⟩
  · exact ((hB.trans (hW.mono hB.size)).trans (hb2.mono (by omega))).setCell (by simp; omega) _
  · exact ((br.below hW).kept hb2 (by omega)).other (by simp; omega) _
  · simp [World.setCell]; omega
theorem IntsAt.made_zero (w : World) (lo q : Nat) (hlo : lo ≤ w.heap.size) (X : Obj) : IntsAt ((w.drew.alloc (.cells (madeCells #[.int .i64 0] q) 3)).alloc X) lo (some ⟨w.heap.size, 0, none⟩) q (fun _ => 0) :=
  (IntsAt.of_row (World.rowIs_made w.drew (.int .i64 0) q 3) hlo).alloc X
theorem firstError_at (es : List Int) (n : Nat) (t : TypeId) (W : World) (b : Nat) (hb : b = W.heap.size) (hn : es.length = n) (h9 : n ≤ 100) :
    Calls Try.prog 36 #[.slice (some ⟨b, 0, none⟩) n n] (W.alloc (.cells (es.map (Value.int .i64)).toArray t)) fun x w' => x = .returned (.int .i64 (firstE es)) ∧ W.alloc (.cells (es.map (Value.int .i64)).toArray t) = w' := by
  subst hb
  exact firstError_laid es n t W hn h9
set_option maxHeartbeats 2000000 in
set_option maxRecDepth 100000 in
theorem Begin_any (len cnt : Int) (w : World) : Calls Try.prog 10 #[.int .i64 len, .int .i64 cnt] w fun r w' => GaveBufs (beginErrI len cnt) len cnt.toNat (fun _ => -1) (fun _ => 0) (fun _ => len.toNat) (fun _ _ => 0) w r w' := by
  have HF := hide (beginErr_first len cnt)
  go_enter Try.func10, Try.ntmps10
  go_wp2_with (first
    | (go_at_call 37; refine (lengthError_any _ _).mono ?_; rintro e w' ⟨rfl, rfl⟩)
    | (go_at_call 39; refine (isWithin_any _ _ _ _).mono ?_; rintro e w' ⟨rfl, rfl⟩)
    | (go_at_call 38; refine (unless_any _ _ _).mono ?_; rintro e w' ⟨rfl, rfl⟩))
  refine (firstError_at [unI (withinB len 1 200) 2, unI (withinB cnt 1 8) 2] 2 _ _ _ (by simp) rfl (by decide)).mono ?_
  rintro r w3 ⟨rfl, hw3⟩
  rw [HF.out]
  have br3 : Box w3 w.heap.size 36 #[.int .i64 0, .slice none 0 0] := by rw [← hw3]; exact (Box.made rfl).alloc _
  have hB3 : Below w.heap.size w w3 := by rw [← hw3]; exact ((Below.refl _ _).alloc (Nat.le_refl _) _).alloc (by simp) _
  have hs3 := hide (show w3.heap.size = w.heap.size + 2 from by rw [← hw3]; simp)
  clear hw3
  have fr0 := br3.free 0
  have fr1 := br3.free 1
  obtain ⟨r0, r1, hlr⟩ := bufs_cells br3
  by_cases hE : withinB len 1 200 = true ∧ withinB cnt 1 8 = true
  · have HZ := hide (show beginErrI len cnt = 0 from if_pos hE)
    obtain ⟨l1, l2⟩ := withinB_of hE.1
    obtain ⟨c1, c2⟩ := withinB_of hE.2
    obtain ⟨q, rfl⟩ := Int.eq_ofNat_of_zero_le (show 0 ≤ len by omega)
    obtain ⟨n, rfl⟩ := Int.eq_ofNat_of_zero_le (show 0 ≤ cnt by omega)
    have q1 : 1 ≤ q := by omega
    have q9 : q ≤ 200 := by omega
    have n1 : 1 ≤ n := by omega
    have n9 : n ≤ 8 := by omega
    rw [HZ.out]
    clear hE l1 l2 c1 c2 r0 r1 hlr fr0 fr1
    go_wp2_with fail
    obtain ⟨i0, hi, hm0, hm1, hm2⟩ := info_parts intInfo
    have hmk := fun W => run_make_row (P := Try.prog) 24 3 i0 (.int .i64 0) Try.underlying24 hi hm0 hm1 rfl .i64 .i64 q (by rw [hm2]; omega) (by omega) W
    clear hi hm0 hm1 hm2
    go_loopw [22] (fun i wr => ∃ j : Nat, j ≤ n ∧ i = .int .i64 j ∧ Hid (BegI w (w3.heap.size + 1) w3.heap.size q j wr)) (fun i _ => n - (intOf i).toNat)
    case atStart => exact ⟨0, Nat.zero_le _, rfl, hide ⟨⟨_, _, (Box.made rfl : Box _ w3.heap.size 36 #[.int .i64 (q : Int), .slice none 0 0]).at_ 1, Box.made rfl, fun _ => none, fun _ => 0, OwnProcs.nil_⟩, hB3.alloc hB3.size _, br3.alloc _, by simp⟩⟩
    case round =>
      obtain ⟨j, hj, rfl, HG⟩ := hrel
      obtain ⟨⟨D, c, hd1, bb, A, C, hown⟩, hB, br, hbs⟩ := HG.out
      obtain ⟨z0, z1, hlz⟩ := bufs_cells bb
      by_cases hlt : j < n
      · have hltz : (j : Int) < (n : Int) := by omega
        have HO := hide (fun W' (h : Below wr.heap.size wr W') => hown.below h)
        have HI := hide (IntsAt.made_zero wr (w3.heap.size + 1) q hbs)
        have HA := hide (fun X b o (e : (some ⟨wr.heap.size, 0, none⟩ : Option Addr) = some ⟨b, o, none⟩) => (by
          injection e with e; injection e with e e'
          subst e
          exact ⟨fun h => by have := (hown.lt h).2; omega, by simp; omega⟩ : (Value.slice D j c).ownBlock ≠ some b ∧ b < ((wr.drew.alloc (.cells (madeCells #[.int .i64 0] q) 3)).alloc X).heap.size))
        have HZ1 := hide (fun W W' (h : Below wr.heap.size wr W) (h' : Below (w3.heap.size + 1) W W') => (⟨((bb.below h).kept h' (Nat.lt_succ_self _)).at_ 1, ((bb.below h).kept h' (Nat.lt_succ_self _)).free 1⟩ : W'.cell? ⟨w3.heap.size, 1, none⟩ = some (.slice D j c) ∧ W'.frozen? ⟨w3.heap.size, 1, none⟩ = false))
        clear hown bb br hB hd1
        go_wp2_with fail
        go_region_law (first | (refine step_append_proc1 _ rfl (.tmp 25) (.tmp 29) rfl (w3.heap.size + 1) (w3.heap.size + 1) (.slice D j c) j (fun _ => -1) (fun _ => 0) (fun _ => q) A C (fun _ _ => 0) (by first | rfl | simp [Act.eval, Act.put]) (HO.out _ (by (repeat (first | (with_reducible exact Below.refl _ _) | (with_reducible refine below_drewN ?_ _) | (with_reducible refine Below.drew ?_) | (with_reducible refine Below.alloc ?_ (by first | exact Nat.le_refl _ | (simp; done) | (simp; omega) | omega) _) | (with_reducible refine Below.setCell ?_ (by first | exact Nat.le_refl _ | (simp; done) | (simp; omega) | omega) _))))) _ (-1) 0 (some ⟨wr.heap.size, 0, none⟩) q q (fun _ => 0) (by first | rfl | simp [Act.eval, Act.put]) (Box.made (by simp)) (HI.out _) (HA.out _) (by omega) (by simp; omega) ?_; intro v' w' h1 hb2; obtain ⟨D', c', rfl, -, -, -⟩ := h1.form (Nat.le_refl _); have HN := hide (HG.out.step (by (repeat (first | (with_reducible exact Below.refl _ _) | (with_reducible refine below_drewN ?_ _) | (with_reducible refine Below.drew ?_) | (with_reducible refine Below.alloc ?_ (by first | exact Nat.le_refl _ | (simp; done) | (simp; omega) | omega) _) | (with_reducible refine Below.setCell ?_ (by first | exact Nat.le_refl _ | (simp; done) | (simp; omega) | omega) _)))) (Nat.lt_succ_self _) q1 (by have := hs3.out; omega) h1 hb2); obtain ⟨z1', f1'⟩ := HZ1.out _ _ (by (repeat (first | (with_reducible exact Below.refl _ _) | (with_reducible refine below_drewN ?_ _) | (with_reducible refine Below.drew ?_) | (with_reducible refine Below.alloc ?_ (by first | exact Nat.le_refl _ | (simp; done) | (simp; omega) | omega) _) | (with_reducible refine Below.setCell ?_ (by first | exact Nat.le_refl _ | (simp; done) | (simp; omega) | omega) _)))) hb2))
        all_goals
          go_wp2_with fail
          go_roundw
          case rel => exact ⟨j + 1, by omega, by go_num, HN⟩
          case measure => simp [intOf]; omega
      · obtain rfl : j = n := by omega
        have fr0 := br.free 0
        have fr1 := br.free 1
        obtain ⟨r0, r1, hlr⟩ := bufs_cells br
        have HR := hide br
        have hw3 := hs3.out
        have HOW := hide (((hown.other (k := w.heap.size) 0 (.int .i64 (q : Int)) (fun e => by have := (hown.lt e).1; omega) (fun i hi b o e => by have hI := (hown.2 i hi).1; rw [e] at hI; have := (hI.block q1).1; omega)).other (k := w.heap.size) 1 (.slice D j c) (fun e => by have := (hown.lt e).1; omega) (fun i hi b o e => by have hI := (hown.2 i hi).1; rw [e] at hI; have := (hI.block q1).1; omega)))
        have HB := hide hB
        clear hown hB hd1 bb br hw3
        go_wp2_with fail
        refine bodyPost_ret (v := .tuple #[.agg #[.int .i64 (q : Int), .slice D j c], .int .i64 0]) ?_ rfl ?_
        · have hz := (HR.out.set_ 0 (.int .i64 (q : Int))).set_ 1 (.slice D j c)
          have z0 := hz.at_ 0
          have z1 := hz.at_ 1
          simp at z0 z1
          simp [results, Try.results10, go_sem, z0, z1]
        · rw [HZ.out]
          simp only [Int.toNat_natCast]
          obtain ⟨D1, c1, e1, -, -, hP⟩ := HOW.out.form (Nat.le_refl _)
          injection e1 with e1 e2 e3
          subst e1
          exact ⟨⟨_, rfl, .inr ⟨rfl, D, c, rfl, hP.at_.weak (by have := hs3.out; omega)⟩⟩, (HB.out.setCell (by simp) _).setCell (by simp) _⟩
  · have HZ := hide (show beginErrI len cnt = 2 from if_neg hE)
    rw [HZ.out]
    clear hE
    go_wp2_with fail
    refine bodyPost_ret (v := .tuple #[.agg #[.int .i64 0, .slice none 0 0], .int .i64 2]) ?_ rfl ?_
    · have hz := (br3.set_ 0 (.int .i64 0)).set_ 1 (.slice none 0 0)
      have z0 := hz.at_ 0
      have z1 := hz.at_ 1
      simp at z0 z1
      simp [results, Try.results10, go_sem, z0, z1]
    · rw [HZ.out]
      exact ⟨⟨_, rfl, .inl ⟨by decide, rfl⟩⟩, (hB3.setCell (by simp) _).setCell (by simp) _⟩
end Go.Proofs.Ytnglmfdcnoglhaa
/- Receive of the code. -/
namespace Go.Proofs.Ytnglmfdcnoglhaa
open Go.RowKit Go.Shelf Go.Lib
/-- What a buffer is behind a reception: its error, or its parts. -/
def BehV (E : Int) (tx tp k : Int) (len : Nat) (Sp g : Nat → Int) (lo : Nat) (a1 a2 : Int) (Av : Option Addr) (lv cv : Nat) (w' : World) : Prop :=
  (E ≠ 0) ∨ (E = 0 ∧ a1 = tx ∧ a2 = (if tx = tp then k + 1 else 1) ∧ lv = len ∧ IntsAt w' lo Av len (if tx = tp then fun j => Sp j + g j else g))
theorem BehV.below {E tx tp k : Int} {len : Nat} {Sp g : Nat → Int} {lo : Nat} {a1 a2 : Int} {Av : Option Addr} {lv cv : Nat} {w w' : World} (h : BehV E tx tp k len Sp g lo a1 a2 Av lv cv w) (hb : Below w.heap.size w w') : BehV E tx tp k len Sp g lo a1 a2 Av lv cv w' :=
  h.imp id fun ⟨h1, h2, h3, h4, h5⟩ => ⟨h1, h2, h3, h4, h5.below hb⟩
theorem processBehind_any (len l v : Nat) (tp k p tx : Int) (A D : Option Addr) (c e : Nat) (Sp Sx : Nat → Int) (w : World) (hv : v ≤ 3) (h1 : 1 ≤ len) (h2 : len ≤ 200) (hl : l ≤ 400) (hk : 0 ≤ k ∧ k ≤ 1000000000) (hS : ∀ j, j < l → -1000000 ≤ Sx j ∧ Sx j ≤ 1000000) (hP : ∀ j, j < len → -1000000000 ≤ Sp j ∧ Sp j ≤ 1000000000) (hI : IntsAt w 0 A len Sp) (hJ : IntsAt w 0 D l Sx) :
    Calls Try.prog 51 #[.agg #[.int .i64 tp, .int .i64 k, .slice A len c], .agg #[.int .i64 p, .int .i64 tx, .int .i64 (v : Int), .slice D l e], .int .i64 (len : Int)] w fun r w' =>
      ∃ a1 a2 Av lv cv, r = .returned (.tuple #[.agg #[.int .i64 a1, .int .i64 a2, .slice Av lv cv], .int .i64 (if tx = tp then addErrI k len Sp (gatherF v len Sx l) else 0)]) ∧ Hid (BehV (if tx = tp then addErrI k len Sp (gatherF v len Sx l) else 0) tx tp k len Sp (gatherF v len Sx l) w.heap.size a1 a2 Av lv cv w') ∧ Below w.heap.size w w' := by
  by_cases ht : tx = tp
  · subst ht
    rw [if_pos rfl]
    refine (processBehind_same len l v tx k p A D c e Sp Sx w hv h1 h2 hl hk hS hP hI hJ).mono ?_
    rintro r w' ⟨h, hb⟩
    rcases h with ⟨h0, rfl⟩ | ⟨h0, Av, cv, rfl, hI'⟩
    · exact ⟨_, _, _, _, _, rfl, hide (.inl h0), hb⟩
    · refine ⟨_, _, Av, _, cv, by rw [h0], hide (.inr ⟨h0, rfl, by rw [if_pos rfl], rfl, by rw [if_pos rfl]; exact hI'⟩), hb⟩
  · rw [if_neg ht]
    refine (processBehind_new len l v tp k p tx A D c e Sx w hv h1 h2 hl hS ht hJ).mono ?_
    rintro r w' ⟨Av, cv, rfl, hI', hb⟩
    exact ⟨_, _, Av, _, cv, rfl, hide (.inr ⟨rfl, rfl, by rw [if_neg ht], rfl, by rw [if_neg ht]; exact hI'⟩), hb⟩
/-- One thing of a list changed. -/
def upd {α : Type} (f : Nat → α) (a : Nat) (x : α) (i : Nat) : α := if i = a then x else f i
theorem procVals_set (n a : Nat) (T K : Nat → Int) (L : Nat → Nat) (A : Nat → Option Addr) (C : Nat → Nat) (t k : Int) (Av : Option Addr) (cv : Nat) :
    (((procVals n T K L A C).set (a * 3) (.int .i64 t)).set (a * 3 + 1) (.int .i64 k)).set (a * 3 + 2) (.slice Av (L a) cv) = procVals n (setF T a t) (setF K a k) L (upd A a Av) (upd C a cv) := by
  apply List.ext_getElem?
  intro j
  simp only [List.getElem?_set, List.length_set, procVals_len, procVals_get]
  by_cases hj : j < n * 3
  · rw [if_pos hj, if_pos hj]
    unfold procCell setF upd
    by_cases ea : j / 3 = a
    · subst ea
      by_cases e0 : j % 3 = 0
      · rw [if_neg (by omega), if_neg (by omega), if_pos (by omega), if_pos (by omega), if_pos e0, if_pos rfl]
      · by_cases e1 : j % 3 = 1
        · rw [if_neg (by omega), if_pos (by omega), if_pos (by omega), if_neg e0, if_pos e1, if_pos rfl]
        · rw [if_pos (by omega), if_pos (by omega), if_neg e0, if_neg e1, if_pos rfl, if_pos rfl]
    · rw [if_neg (show ¬ a * 3 + 2 = j by omega), if_neg (show ¬ a * 3 + 1 = j by omega), if_neg (show ¬ a * 3 = j by omega), if_neg ea, if_neg ea, if_neg ea, if_neg ea]
  · rw [if_neg hj, if_neg hj]
    by_cases e2 : a * 3 + 2 = j
    · rw [if_pos e2, if_neg (by omega)]
    · rw [if_neg e2]
      by_cases e1 : a * 3 + 1 = j
      · rw [if_pos e1, if_neg (by omega)]
      · rw [if_neg e1]
        by_cases e0 : a * 3 = j
        · rw [if_pos e0, if_neg (by omega)]
        · rw [if_neg e0]
theorem OwnProcs.setProc {w : World} {base lo n c g : Nat} {T K : Nat → Int} {L : Nat → Nat} {A : Nat → Option Addr} {C : Nat → Nat} {S : Nat → Nat → Int} (h : OwnProcs w base lo (.slice (some ⟨g, 0, none⟩) n c) n T K L A C S) {a cv : Nat} {t k : Int} {Av : Option Addr} {S1 : Nat → Int} (hI : IntsAt w lo Av (L a) S1) (hA : ∀ b o, Av = some ⟨b, o, none⟩ → g ≠ b ∧ b < w.heap.size) :
    OwnProcs (((w.setCell ⟨g, a * 3, none⟩ (.int .i64 t)).setCell ⟨g, a * 3 + 1, none⟩ (.int .i64 k)).setCell ⟨g, a * 3 + 2, none⟩ (.slice Av (L a) cv)) base lo (.slice (some ⟨g, 0, none⟩) n c) n (setF T a t) (setF K a k) L (upd A a Av) (upd C a cv) (upd S a S1) := by
  have h1 := (World.ownsRow.stored (World.ownsRow.stored (World.ownsRow.stored h.1 (a * 3) (.int .i64 t)).1 (a * 3 + 1) (.int .i64 k)).1 (a * 3 + 2) (.slice Av (L a) cv)).1
  rw [procVals_set] at h1
  have hon : w.grownBy (((w.setCell ⟨g, a * 3, none⟩ (.int .i64 t)).setCell ⟨g, a * 3 + 1, none⟩ (.int .i64 k)).setCell ⟨g, a * 3 + 2, none⟩ (.slice Av (L a) cv)) (some g) := (((Only.refl g w).set_ (a * 3) _).set_ (a * 3 + 1) _).set_ (a * 3 + 2) _
  refine ⟨h1, fun i hi => ?_⟩
  unfold upd
  by_cases e : i = a
  · subst e
    rw [if_pos rfl, if_pos rfl]
    exact ⟨hI.grown hon (fun b o e2 e3 => by injection e3 with e3; exact (hA b o e2).1 e3), fun b o e2 => ⟨fun e3 => by injection e3 with e3; exact (hA b o e2).1 e3, Nat.lt_of_lt_of_le (hA b o e2).2 hon.size⟩⟩
  · obtain ⟨k1, k2⟩ := h.2 i hi
    rw [if_neg e, if_neg e]
    exact ⟨k1.grown hon fun b o e2 => (k2 b o e2).1, fun b o e2 => ⟨(k2 b o e2).1, Nat.lt_of_lt_of_le (k2 b o e2).2 hon.size⟩⟩
theorem OwnProcs.low {w : World} {base lo lo' n : Nat} {v : Value} {T K : Nat → Int} {L : Nat → Nat} {A : Nat → Option Addr} {C : Nat → Nat} {S : Nat → Nat → Int} (h : OwnProcs w base lo v n T K L A C S) (hl : lo' ≤ lo) : OwnProcs w base lo' v n T K L A C S :=
  ⟨h.1, fun i hi => ⟨(h.2 i hi).1.weak hl, (h.2 i hi).2⟩⟩
theorem upd_behS (T : Nat → Int) (S : Nat → Nat → Int) (a : Nat) (t : Int) (x : Nat → Int) : upd S a (if t = T a then fun j => S a j + x j else x) = behS T S a t x := rfl
set_option maxHeartbeats 4000000 in
set_option maxRecDepth 100000 in
theorem Receive_any (len p t v : Int) (A D : Option Addr) (n c l e : Nat) (T K : Nat → Int) (L : Nat → Nat) (S : Nat → Nat → Int) (Sx : Nat → Int) (w : World) (hn : n ≤ 1000) (hL : ∀ i, i < n → L i ≤ 100000) (hl : l ≤ 100000) (hI : ProcsAt w 0 A n T K L S) (hJ : IntsAt w 0 D l Sx) :
    Calls Try.prog 17 #[.agg #[.int .i64 len, .slice A n c], .agg #[.int .i64 p, .int .i64 t, .int .i64 v, .slice D l e]] w fun r w' =>
      GaveBufs (recvErrI len n T K L S p t v l Sx) len n (setF T p.toNat t) (behK T K p.toNat t) L (behS T S p.toNat t (gatherF v.toNat len.toNat Sx l)) w r w' := by
  have HI := hide hI
  have HJ := hide hJ
  have HL := hide hL
  clear hI hJ hL
  obtain ⟨E1, hE1⟩ : ∃ z, z = firstE [bufErrI len n T K L S, recepErrI n p t v l Sx] := ⟨_, rfl⟩
  have HF := hide hE1.symm
  clear hE1
  go_enter Try.func17, Try.ntmps17
  go_wp2_with fail
  generalize hW : World.alloc (World.alloc (World.alloc w _) _) _ = W
  have bb : Box W w.heap.size 36 #[.int .i64 len, .slice A n c] := by rw [← hW]; exact ((Box.made rfl).alloc _).alloc _
  have bx : Box W (w.heap.size + 1) 51 #[.int .i64 p, .int .i64 t, .int .i64 v, .slice D l e] := by rw [← hW]; exact (Box.made (by simp)).alloc _
  have br : Box W (w.heap.size + 1 + 1) 36 #[.int .i64 0, .slice none 0 0] := by rw [← hW]; exact Box.made (by simp)
  have hB : Below w.heap.size w W := by rw [← hW]; exact (((Below.refl _ _).alloc (Nat.le_refl _) _).alloc (by simp) _).alloc (by simp; omega) _
  clear hW
  obtain ⟨z0, z1, hlz⟩ := bufs_cells bb
  obtain ⟨y0, y1, y2, y3, hly⟩ := recv_cells bx
  have HIW := hide (HI.out.below hB)
  have HJW := hide (HJ.out.below hB)
  have SOF := hide (fun W' (h : Below W.heap.size W W') => (⟨(h.cell (p := ⟨w.heap.size, 0, none⟩) hlz).trans z0, (h.cell (p := ⟨w.heap.size, 1, none⟩) hlz).trans z1, (h.cell (p := ⟨w.heap.size + 1, 0, none⟩) hly).trans y0, (h.cell (p := ⟨w.heap.size + 1, 1, none⟩) hly).trans y1, (h.cell (p := ⟨w.heap.size + 1, 2, none⟩) hly).trans y2, (h.cell (p := ⟨w.heap.size + 1, 3, none⟩) hly).trans y3, h⟩ : W'.cell? ⟨w.heap.size, 0, none⟩ = some (.int .i64 len) ∧ W'.cell? ⟨w.heap.size, 1, none⟩ = some (.slice A n c) ∧ W'.cell? ⟨w.heap.size + 1, 0, none⟩ = some (.int .i64 p) ∧ W'.cell? ⟨w.heap.size + 1, 1, none⟩ = some (.int .i64 t) ∧ W'.cell? ⟨w.heap.size + 1, 2, none⟩ = some (.int .i64 v) ∧ W'.cell? ⟨w.heap.size + 1, 3, none⟩ = some (.slice D l e) ∧ Below W.heap.size W W'))
  have KI := hide (fun W' (h : W'.cell? ⟨w.heap.size, 0, none⟩ = some (.int .i64 len) ∧ W'.cell? ⟨w.heap.size, 1, none⟩ = some (.slice A n c) ∧ W'.cell? ⟨w.heap.size + 1, 0, none⟩ = some (.int .i64 p) ∧ W'.cell? ⟨w.heap.size + 1, 1, none⟩ = some (.int .i64 t) ∧ W'.cell? ⟨w.heap.size + 1, 2, none⟩ = some (.int .i64 v) ∧ W'.cell? ⟨w.heap.size + 1, 3, none⟩ = some (.slice D l e) ∧ Below W.heap.size W W') => HIW.out.below h.2.2.2.2.2.2)
  have KJ := hide (fun W' (h : W'.cell? ⟨w.heap.size, 0, none⟩ = some (.int .i64 len) ∧ W'.cell? ⟨w.heap.size, 1, none⟩ = some (.slice A n c) ∧ W'.cell? ⟨w.heap.size + 1, 0, none⟩ = some (.int .i64 p) ∧ W'.cell? ⟨w.heap.size + 1, 1, none⟩ = some (.int .i64 t) ∧ W'.cell? ⟨w.heap.size + 1, 2, none⟩ = some (.int .i64 v) ∧ W'.cell? ⟨w.heap.size + 1, 3, none⟩ = some (.slice D l e) ∧ Below W.heap.size W W') => HJW.out.below h.2.2.2.2.2.2)
  have bb0 : Below W.heap.size W W := Below.refl _ _
  clear z0 z1 y0 y1 y2 y3
  go_region_held3 (fun w' => w'.cell? ⟨w.heap.size, 0, none⟩ = some (.int .i64 len) ∧ w'.cell? ⟨w.heap.size, 1, none⟩ = some (.slice A n c) ∧ w'.cell? ⟨w.heap.size + 1, 0, none⟩ = some (.int .i64 p) ∧ w'.cell? ⟨w.heap.size + 1, 1, none⟩ = some (.int .i64 t) ∧ w'.cell? ⟨w.heap.size + 1, 2, none⟩ = some (.int .i64 v) ∧ w'.cell? ⟨w.heap.size + 1, 3, none⟩ = some (.slice D l e) ∧ Below W.heap.size W w')
    (first | assumption | exact SOF.out _ (by assumption) | exact SOF.out _ bb0.drew | exact SOF.out _ (below_drewN (by assumption) _) | exact SOF.out _ (ballocH (by assumption) (Nat.le_refl _) _) | exact SOF.out _ (ballocH bb0 (Nat.le_refl _) _).drew)
    (first
      | (go_at_call 49; refine (buffersError_any len A n c T K L S _ (by omega) HL.out (KI.out _ (by assumption))).mono ?_; rintro r w4 ⟨rfl, hb4⟩; have hs_w4 : Below W.heap.size W w4 := bst6 hb4 (by assumption) (Nat.le_refl _))
      | (go_at_call 50; refine (receptionError_any len p t v A D n c l e Sx _ hn hl (KJ.out _ (by assumption))).mono ?_; rintro r w5 ⟨rfl, hb5⟩; have hs_w5 : Below W.heap.size W w5 := bst6 hb5 (by assumption) (Nat.le_refl _))
      | (go_at_call 36; refine (firstError_laid [bufErrI len n T K L S, recepErrI n p t v l Sx] 2 _ _ rfl (by decide)).mono ?_; rintro r w6 ⟨rfl, rfl⟩))
  rw [HF.out]
  obtain ⟨w6, hw6⟩ : ∃ z, z = w5.alloc (.cells #[.int .i64 (bufErrI len n T K L S), .int .i64 (recepErrI n p t v l Sx)] 37) := ⟨_, rfl⟩
  rw [← hw6]
  have bb6 : Box w6 w.heap.size 36 #[.int .i64 len, .slice A n c] := by rw [hw6]; exact (bb.below hs_w5).alloc _
  have bx6 : Box w6 (w.heap.size + 1) 51 #[.int .i64 p, .int .i64 t, .int .i64 v, .slice D l e] := by rw [hw6]; exact (bx.below hs_w5).alloc _
  have br6 : Box w6 (w.heap.size + 1 + 1) 36 #[.int .i64 0, .slice none 0 0] := by rw [hw6]; exact (br.below hs_w5).alloc _
  have hB6 : Below w.heap.size w w6 := by rw [hw6]; exact hB.trans ((hs_w5.alloc hs_w5.size _).mono hB.size)
  clear hs_w4 hs_w5 hb4 hb5 hw6 SOF KI KJ bb0 bb bx br hB HIW HJW hlz hly
  have fr0 := br6.free 0
  have fr1 := br6.free 1
  by_cases hz : E1 = 0
  · have tz : (E1 != 0) = false := by simpa using hz
    obtain ⟨q, a, b, rfl, rfl, rfl, q1, q9, n0, n8, han, b3, l0, l4, -, hLq, hSx, hpe⟩ := recv_right (HF.out.trans hz)
    obtain ⟨-, hk, -, -, hP, -⟩ := procErr_zero (hpe a han)
    have HLQ := hide hLq
    have hLa := hLq a han
    rw [hLa] at hP
    have HRE := hide (show recvErrI (q : Int) n T K L S (a : Int) t (b : Int) l Sx = if t = T a then addErrI (K a) q (S a) (gatherF b q Sx l) else 0 from by unfold recvErrI; rw [if_pos (HF.out.trans hz)]; simp only [Int.toNat_natCast]; rfl)
    have HPB := hide (fun (W : World) (Ai : Option Addr) (ci : Nat) hW hW2 => processBehind_any q l b (T a) (K a) (a : Int) t Ai D ci e (S a) Sx W b3 q1 q9 l4 hk hSx hP hW hW2)
    obtain ⟨E2, hE2⟩ : ∃ z, z = (if t = T a then addErrI (K a) q (S a) (gatherF b q Sx l) else 0) := ⟨_, rfl⟩
    rw [← hE2] at HPB HRE
    have hanz : (a : Int) < (n : Int) := by omega
    obtain ⟨B, o, Ai, ci, rfl, -, hBl, hc0, hc1, hc2, hIa⟩ := (HI.out.below hB6) a han
    rw [hLa] at hc2 hIa
    have HIA := hide hIa
    have HJ6 := hide (HJ.out.below hB6)
    clear hE2 hIa hLa hLq hSx hpe hP hz hk
    obtain ⟨z0, z1, hlz⟩ := bufs_cells bb6
    obtain ⟨y0, y1, y2, y3, hly⟩ := recv_cells bx6
    go_upto_region 4 with fail
    go_cut [7, 8, 21] (fun s7 s8 _ wc => ∃ gp a1 a2 Av lv cv, s7 = .pointer (some ⟨gp, 0, none⟩) ∧ s8 = .int .i64 E2 ∧ Hid (Box wc gp 55 #[.int .i64 a1, .int .i64 a2, .slice Av lv cv]) ∧ Hid (BehV E2 t (T a) (K a) q (S a) (gatherF b q Sx l) w6.heap.size a1 a2 Av lv cv wc) ∧ w6.heap.size ≤ gp ∧ Below w6.heap.size w6 wc)
    case first =>
      skip
      have SOF := hide (fun W' (h : Below w6.heap.size w6 W') => (⟨(h.cell (p := ⟨w.heap.size, 0, none⟩) hlz).trans z0, (h.cell (p := ⟨w.heap.size, 1, none⟩) hlz).trans z1, (h.cell (p := ⟨w.heap.size + 1, 0, none⟩) hly).trans y0, (h.cell (p := ⟨w.heap.size + 1, 1, none⟩) hly).trans y1, (h.cell (p := ⟨w.heap.size + 1, 2, none⟩) hly).trans y2, (h.cell (p := ⟨w.heap.size + 1, 3, none⟩) hly).trans y3, (h.cell (p := ⟨B, o + a * 3, none⟩) hBl).trans hc0, (h.cell (p := ⟨B, o + a * 3 + 1, none⟩) hBl).trans hc1, (h.cell (p := ⟨B, o + a * 3 + 2, none⟩) hBl).trans hc2, h⟩ : W'.cell? ⟨w.heap.size, 0, none⟩ = some (.int .i64 (q : Int)) ∧ W'.cell? ⟨w.heap.size, 1, none⟩ = some (.slice (some ⟨B, o, none⟩) n c) ∧ W'.cell? ⟨w.heap.size + 1, 0, none⟩ = some (.int .i64 (a : Int)) ∧ W'.cell? ⟨w.heap.size + 1, 1, none⟩ = some (.int .i64 t) ∧ W'.cell? ⟨w.heap.size + 1, 2, none⟩ = some (.int .i64 (b : Int)) ∧ W'.cell? ⟨w.heap.size + 1, 3, none⟩ = some (.slice D l e) ∧ W'.cell? ⟨B, o + a * 3, none⟩ = some (.int .i64 (T a)) ∧ W'.cell? ⟨B, o + a * 3 + 1, none⟩ = some (.int .i64 (K a)) ∧ W'.cell? ⟨B, o + a * 3 + 2, none⟩ = some (.slice Ai q ci) ∧ Below w6.heap.size w6 W'))
      have KI := hide (fun W' (h : W'.cell? ⟨w.heap.size, 0, none⟩ = some (.int .i64 (q : Int)) ∧ W'.cell? ⟨w.heap.size, 1, none⟩ = some (.slice (some ⟨B, o, none⟩) n c) ∧ W'.cell? ⟨w.heap.size + 1, 0, none⟩ = some (.int .i64 (a : Int)) ∧ W'.cell? ⟨w.heap.size + 1, 1, none⟩ = some (.int .i64 t) ∧ W'.cell? ⟨w.heap.size + 1, 2, none⟩ = some (.int .i64 (b : Int)) ∧ W'.cell? ⟨w.heap.size + 1, 3, none⟩ = some (.slice D l e) ∧ W'.cell? ⟨B, o + a * 3, none⟩ = some (.int .i64 (T a)) ∧ W'.cell? ⟨B, o + a * 3 + 1, none⟩ = some (.int .i64 (K a)) ∧ W'.cell? ⟨B, o + a * 3 + 2, none⟩ = some (.slice Ai q ci) ∧ Below w6.heap.size w6 W') => HIA.out.below h.2.2.2.2.2.2.2.2.2)
      have KJ := hide (fun W' (h : W'.cell? ⟨w.heap.size, 0, none⟩ = some (.int .i64 (q : Int)) ∧ W'.cell? ⟨w.heap.size, 1, none⟩ = some (.slice (some ⟨B, o, none⟩) n c) ∧ W'.cell? ⟨w.heap.size + 1, 0, none⟩ = some (.int .i64 (a : Int)) ∧ W'.cell? ⟨w.heap.size + 1, 1, none⟩ = some (.int .i64 t) ∧ W'.cell? ⟨w.heap.size + 1, 2, none⟩ = some (.int .i64 (b : Int)) ∧ W'.cell? ⟨w.heap.size + 1, 3, none⟩ = some (.slice D l e) ∧ W'.cell? ⟨B, o + a * 3, none⟩ = some (.int .i64 (T a)) ∧ W'.cell? ⟨B, o + a * 3 + 1, none⟩ = some (.int .i64 (K a)) ∧ W'.cell? ⟨B, o + a * 3 + 2, none⟩ = some (.slice Ai q ci) ∧ Below w6.heap.size w6 W') => HJ6.out.below h.2.2.2.2.2.2.2.2.2)
      have bb0 : Below w6.heap.size w6 w6 := Below.refl _ _
      clear z0 z1 y0 y1 y2 y3 hc0 hc1 hc2
      go_region_held3 (fun w' => w'.cell? ⟨w.heap.size, 0, none⟩ = some (.int .i64 (q : Int)) ∧ w'.cell? ⟨w.heap.size, 1, none⟩ = some (.slice (some ⟨B, o, none⟩) n c) ∧ w'.cell? ⟨w.heap.size + 1, 0, none⟩ = some (.int .i64 (a : Int)) ∧ w'.cell? ⟨w.heap.size + 1, 1, none⟩ = some (.int .i64 t) ∧ w'.cell? ⟨w.heap.size + 1, 2, none⟩ = some (.int .i64 (b : Int)) ∧ w'.cell? ⟨w.heap.size + 1, 3, none⟩ = some (.slice D l e) ∧ w'.cell? ⟨B, o + a * 3, none⟩ = some (.int .i64 (T a)) ∧ w'.cell? ⟨B, o + a * 3 + 1, none⟩ = some (.int .i64 (K a)) ∧ w'.cell? ⟨B, o + a * 3 + 2, none⟩ = some (.slice Ai q ci) ∧ Below w6.heap.size w6 w')
        (first | assumption | exact SOF.out _ (by assumption) | exact SOF.out _ bb0.drew | exact SOF.out _ (below_drewN (by assumption) _) | exact SOF.out _ (ballocH (by assumption) (Nat.le_refl _) _) | exact SOF.out _ (ballocH bb0 (Nat.le_refl _) _).drew | exact SOF.out _ (by (repeat (first | (with_reducible exact Below.refl _ _) | (with_reducible refine below_drewN ?_ _) | (with_reducible refine Below.drew ?_) | (with_reducible refine Below.alloc ?_ (by first | exact Nat.le_refl _ | (simp; done) | (simp; omega) | omega) _) | (with_reducible refine Below.trans ?_ (Below.mono hs_w7 (by first | exact Nat.le_refl _ | (simp; done) | (simp; omega) | omega))) | (with_reducible refine Below.setCell ?_ (by first | exact Nat.le_refl _ | (simp; done) | (simp; omega) | omega) _)))))
        (first
          | (go_at_call 51; refine (HPB.out _ Ai ci (KI.out _ (by assumption)) (KJ.out _ (by assumption))).mono ?_; rintro r w7 ⟨a1, a2, Av, lv, cv, rfl, HV, hb7⟩; have hs_w7 : Below w6.heap.size w6 w7 := bst9 hb7 (by assumption) (Nat.le_refl _); (try (have bn7 := (Box.made (w := w6.drew) rfl : Box _ w6.heap.size 55 #[.int .i64 0, .int .i64 0, .slice none 0 0]).below hb7; have n0 := bn7.at_ 0; have n1 := bn7.at_ 1; have n2 := bn7.at_ 2; have nf0 := bn7.free 0; have nf1 := bn7.free 1; have nf2 := bn7.free 2; simp at n0 n1 n2))))
      · go_wp2_with fail
        go_meet
        case rel => exact ⟨_, a1, a2, Av, lv, cv, rfl, rfl, hide (Box.made rfl), hide (HV.out.below ((Below.refl _ _).alloc (Nat.le_refl _) _)), hs_w7.size, hs_w7.alloc hs_w7.size _⟩
      · go_wp2_with fail
        go_meet
        case rel => exact ⟨_, a1, a2, Av, lv, cv, rfl, rfl, hide (((bn7.set_ 0 (.int .i64 a1)).set_ 1 (.int .i64 a2)).set_ 2 (.slice Av lv cv)), hide (HV.out.imp id fun ⟨h1, h2, h3, h4, h5⟩ => ⟨h1, h2, h3, h4, (((h5.other (p := ⟨w6.heap.size, 0, none⟩) (by simp) _).other (p := ⟨w6.heap.size, 1, none⟩) (by simp) _).other (p := ⟨w6.heap.size, 2, none⟩) (by simp) _).weak (by simp)⟩), Nat.le_refl _, ((hs_w7.setCell (Nat.le_refl _) _).setCell (Nat.le_refl _) _).setCell (Nat.le_refl _) _⟩
    case rest =>
      obtain ⟨gp, a1, a2, Av, lv, cv, rfl, rfl, HBP, HBV, hgp, hb67⟩ := hcut
      obtain ⟨w8, rfl⟩ : ∃ x : World, x = wc := ⟨_, rfl⟩
      have bbC := bb6.below hb67
      have bxC := bx6.below hb67
      have brC := br6.below hb67
      have hBC := hB6.trans (hb67.mono hB6.size)
      have hs68 := hb67.size
      have hl6 := br6.lt
      have HIC := hide (HI.out.below hBC)
      have fr0 := brC.free 0
      have fr1 := brC.free 1
      clear bb6 bx6 br6 z0 z1 hlz y0 y1 y2 y3 hly hc0 hc1 hc2 hBl HIA HJ6 HPB hb67
      by_cases he2 : E2 = 0
      · have te : (E2 != 0) = false := by simpa using he2
        rcases HBV.out with h | ⟨-, ha1, ha2, hlv, hIv⟩
        · exact absurd he2 h
        subst ha1
        subst hlv
        have HA2 := hide ha2
        have HIV := hide hIv
        have HZ := hide (HRE.out.trans he2)
        clear he2 HBV ha2 hIv
        obtain ⟨z0, z1, hlz⟩ := bufs_cells bbC
        go_wp2_with fail
        refine (copyOf_any (lv : Int) (some ⟨B, o, none⟩) n c T K L S _ n0 (by omega) (fun i hi => by rw [HLQ.out i hi]; omega) HIC.out).mono ?_
        rintro r w9 ⟨v9, rfl, ⟨A9, C9, hown9⟩, hb9⟩
        obtain ⟨g, d9, rfl, hnd, hd9, hg1, hg2⟩ := hown9.form1 n0
        have bx9 := bxC.below hb9
        have br9 := brC.below hb9
        have bp9 := HBP.out.below hb9
        have HIV9 := HIV.out.below hb9
        have hB9 := hBC.trans (hb9.mono hBC.size)
        have hlp := HBP.out.lt
        clear bbC bxC brC fr0 fr1 z0 z1 hlz hb9
        go_upto_region 8 with fail
        obtain ⟨w10, hw10⟩ : ∃ x : World, x = w9.alloc (.cells #[.int .i64 (lv : Int), .slice (some ⟨g, 0, none⟩) n d9] 36) := ⟨_, rfl⟩
        rw [← hw10]
        have bn10 : Box w10 w9.heap.size 36 #[.int .i64 (lv : Int), .slice (some ⟨g, 0, none⟩) n d9] := by rw [hw10]; exact Box.made rfl
        have bx10 : Box w10 (w.heap.size + 1) 51 #[.int .i64 (a : Int), .int .i64 a1, .int .i64 (b : Int), .slice D l e] := by rw [hw10]; exact bx9.alloc _
        have br10 : Box w10 (w.heap.size + 1 + 1) 36 #[.int .i64 0, .slice none 0 0] := by rw [hw10]; exact br9.alloc _
        have bp10 : Box w10 gp 55 #[.int .i64 a1, .int .i64 a2, .slice Av lv cv] := by rw [hw10]; exact bp9.alloc _
        have hown10 : OwnProcs w10 w8.heap.size w6.heap.size (.slice (some ⟨g, 0, none⟩) n d9) n T K L A9 C9 S := by rw [hw10]; exact (hown9.alloc _).low (by omega)
        have hIV10 : IntsAt w10 w6.heap.size Av (L a) (if a1 = T a then fun j => S a j + gatherF b lv Sx l j else gatherF b lv Sx l) := by rw [hw10, HLQ.out a han]; exact HIV9.alloc _
        have hB10 : Below w.heap.size w w10 := by rw [hw10]; exact hB9.alloc hB9.size _
        have hs9 := hB9.size
        have hL1 : ∀ i, i < n → 0 < L i := fun i hi => by rw [HLQ.out i hi]; omega
        have hown11 := hown10.setProc (a := a) (t := a1) (k := a2) (cv := cv) hIV10 (fun b' o' e' => by
          have h := HIV.out
          rw [e'] at h
          have := h.block q1
          refine ⟨by omega, ?_⟩
          rw [hw10]
          simp
          have := bn10.lt
          omega)
        rw [HLQ.out a han] at hown11
        have HOW := hide hown11
        obtain ⟨k0, k1, k2⟩ := hown10.cells han
        have f0 := hown10.frozen (a * 3)
        have f1 := hown10.frozen (a * 3 + 1)
        have f2 := hown10.frozen (a * 3 + 2)
        have hgn : ¬ w9.heap.size = g := by omega
        have HNA := hide (fun i hi b' o' (e' : upd A9 a Av i = some ⟨b', o', none⟩) => (by
          have h := (HOW.out.2 i hi).1
          rw [e'] at h
          have := (h.block (hL1 i hi)).1
          omega : b' ≠ w.heap.size + 1 + 1))
        have HB10 := hide hB10
        have hgr : ¬ w.heap.size + 1 + 1 = g := by omega
        clear hown9 hown10 hown11 hIV10 hB9 hB10 bx9 br9 bp9 HIV9 hL1
        obtain ⟨y0, y1, y2, y3, hly⟩ := recv_cells bx10
        obtain ⟨p0, p1, p2, hlq⟩ := proc_cells bp10
        obtain ⟨z0, z1, hlz⟩ := bufs_cells bn10
        clear hw10
        go_upto_region 9 with fail
        have bn11 := ((bn10.other (p := ⟨g, a * 3, none⟩) (by simpa using hgn) (.int .i64 a1)).other (p := ⟨g, a * 3 + 1, none⟩) (by simpa using hgn) (.int .i64 a2)).other (p := ⟨g, a * 3 + 2, none⟩) (by simpa using hgn) (.slice Av lv cv)
        have br11 := ((br10.other (p := ⟨g, a * 3, none⟩) (by simpa using hgr) (.int .i64 a1)).other (p := ⟨g, a * 3 + 1, none⟩) (by simpa using hgr) (.int .i64 a2)).other (p := ⟨g, a * 3 + 2, none⟩) (by simpa using hgr) (.slice Av lv cv)
        have HB11 := hide (((HB10.out.setCell (p := ⟨g, a * 3, none⟩) (by simp; omega) (.int .i64 a1)).setCell (p := ⟨g, a * 3 + 1, none⟩) (by simp; omega) (.int .i64 a2)).setCell (p := ⟨g, a * 3 + 2, none⟩) (by simp; omega) (.slice Av lv cv))
        have hg10 : g ≠ w.heap.size + 1 + 1 := fun h => hgr h.symm
        clear y0 y1 y2 y3 hly p0 p1 p2 hlq z0 z1 hlz k0 k1 k2 f0 f1 f2 bn10 br10 bp10 bx10 HB10
        generalize ((w10.setCell ⟨g, a * 3, none⟩ (.int .i64 a1)).setCell ⟨g, a * 3 + 1, none⟩ (.int .i64 a2)).setCell ⟨g, a * 3 + 2, none⟩ (.slice Av lv cv) = w11 at *
        obtain ⟨z0, z1, hlz⟩ := bufs_cells bn11
        obtain ⟨r0, r1, hlr⟩ := bufs_cells br11
        have fr0 := br11.free 0
        have fr1 := br11.free 1
        have HOF := hide ((HOW.out.other (k := w.heap.size + 1 + 1) 0 (.int .i64 (lv : Int)) (fun h => by injection h with h; exact hg10 h) HNA.out).other (k := w.heap.size + 1 + 1) 1 (.slice (some ⟨g, 0, none⟩) n d9) (fun h => by injection h with h; exact hg10 h) HNA.out)
        have HBR := hide br11
        clear br11
        go_wp2_with fail
        refine bodyPost_ret (v := .tuple #[.agg #[.int .i64 (lv : Int), .slice (some ⟨g, 0, none⟩) n d9], .int .i64 0]) ?_ rfl ?_
        · have hz := (HBR.out.set_ 0 (.int .i64 (lv : Int))).set_ 1 (.slice (some ⟨g, 0, none⟩) n d9)
          have z0 := hz.at_ 0
          have z1 := hz.at_ 1
          simp at z0 z1
          simp [results, Try.results17, go_sem, z0, z1]
        · rw [HZ.out]
          simp only [Int.toNat_natCast]
          obtain ⟨D1, c1, e1, -, -, hP⟩ := HOF.out.form (by omega)
          injection e1 with e1 e2 e3
          subst e1
          rw [HA2.out] at hP
          exact ⟨⟨_, rfl, .inr ⟨rfl, _, d9, rfl, hP.at_.weak (by have := hB6.size; omega)⟩⟩, (HB11.out.setCell (by simp; omega) _).setCell (by simp; omega) _⟩
      · have te : (E2 != 0) = true := by simpa using he2
        have HZ := hide he2
        clear he2
        obtain ⟨r0, r1, hlr⟩ := bufs_cells brC
        go_wp2_with fail
        refine bodyPost_ret (v := .tuple #[.agg #[.int .i64 0, .slice none 0 0], .int .i64 E2]) ?_ rfl ?_
        · have hz := (brC.set_ 0 (.int .i64 0)).set_ 1 (.slice none 0 0)
          have z0 := hz.at_ 0
          have z1 := hz.at_ 1
          simp at z0 z1
          simp [results, Try.results17, go_sem, z0, z1]
        · rw [HRE.out]
          exact ⟨⟨_, rfl, .inl ⟨HZ.out, rfl⟩⟩, (hBC.setCell (by simp; omega) _).setCell (by simp; omega) _⟩
  · have tz : (E1 != 0) = true := by simpa using hz
    have HRE := hide (show recvErrI len n T K L S p t v l Sx = E1 from by unfold recvErrI; rw [HF.out, if_neg hz])
    have HZ := hide hz
    clear hz
    obtain ⟨r0, r1, hlr⟩ := bufs_cells br6
    go_wp2_with fail
    refine bodyPost_ret (v := .tuple #[.agg #[.int .i64 0, .slice none 0 0], .int .i64 E1]) ?_ rfl ?_
    · have hz := (br6.set_ 0 (.int .i64 0)).set_ 1 (.slice none 0 0)
      have z0 := hz.at_ 0
      have z1 := hz.at_ 1
      simp at z0 z1
      simp [results, Try.results17, go_sem, z0, z1]
    · rw [HRE.out]
      exact ⟨⟨_, rfl, .inl ⟨HZ.out, rfl⟩⟩, (hB6.setCell (by simp; omega) _).setCell (by simp; omega) _⟩
end Go.Proofs.Ytnglmfdcnoglhaa
