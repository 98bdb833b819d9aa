/- Lemmas: S45, S46, S47. -/
import Derived.Test.YtcdplfjegopmdaaGreatBk10
import Derived.Test.YtcdplfjegopmdaaGreatBk14
import Derived.Test.YtcdplfjegopmdaaGreatBk16
import Derived.Test.YtcdplfjegopmdaaGreatBk18
import Derived.Test.YtcdplfjegopmdaaGreatBk23
set_option linter.unusedVariables false
set_option linter.unusedSimpArgs false
/- Modulated of the code. -/
namespace Go.Proofs.YtcdplfjegopmdaaGreat
open Go Go.RowKit Go.Shelf Go.Lib
attribute [local go_sem] Oper.semAt_some
def idxS {C : Nat} (pre : List (Fin C)) (i : Nat) : Nat := ((pre[i]?).map fun x => x.1).getD 0
theorem idxS_left {C : Nat} {pre : List (Fin C)} {x : Fin C} {i : Nat} (h : i < pre.length) : idxS (pre ++ [x]) i = idxS pre i := by unfold idxS; rw [List.getElem?_append_left h]
theorem idxS_last {C : Nat} {pre : List (Fin C)} {x : Fin C} : idxS (pre ++ [x]) pre.length = x.1 := by unfold idxS; simp
theorem seqS_length {C : Nat} : ∀ {j : Nat}, j ≤ C → (seqTo C j).length = j
  | 0, _ => rfl
  | j + 1, h => by rw [seqTo_succ (show j < C by omega), List.length_append, seqS_length (by omega)]; rfl
theorem idxS_seq {C : Nat} : ∀ {j : Nat}, j ≤ C → ∀ i, i < j → idxS (seqTo C j) i = i
  | 0, _, i, hi => absurd hi (Nat.not_lt_zero _)
  | j + 1, h, i, hi => by
    rw [seqTo_succ (show j < C by omega)]
    rcases Nat.lt_or_ge i j with h1 | h1
    · rw [idxS_left (by rw [seqS_length (by omega)]; exact h1)]
      exact idxS_seq (by omega) i h1
    · obtain rfl : i = j := by omega
      have := idxS_last (pre := seqTo C i) (x := ⟨i, by omega⟩)
      rwa [seqS_length (by omega)] at this
set_option maxRecDepth 100000 in
theorem step_append_oneG {ops : Array Oper} {o : Oper} {a : Act} {K : Act → World → Prop} {Q : Exit → Act → World → Prop} {E : Prop} (w : World) (hgd : o.guard = none) (s x : Operand)
    (ho : o.op = .call { callee := .builtin .append, args := #[s, x], argTypes := #[32, 32] })
    (base : Nat) (v : Value) (n : Nat) (F : Nat → Gau) (hs : a.eval s = v) (hown : OwnGaus w base v n F)
    (g c : Nat) (y : Gau) (hx : a.eval x = .slice (some ⟨g, 0, none⟩) 1 c) (hr : Box w g 62 #[.int .i64 y.re, .int .i64 y.im]) (hn : n ≤ 1000000) (hbase : base ≤ w.heap.size)
    (h : ∀ v' w', OwnGaus w' base v' (n + 1) (fun j => if j < n then F j else y) → Below base w w' → w.grownBy w' v.ownBlock → K (a.put o.dst v') w') :
    if Region.wanted o (yielded ops a.tmps) = true then Oper.wp Tryz.prog o a w K Q else E := by
  have hw : Region.wanted o (yielded ops a.tmps) = true := by simp [Region.wanted, hgd]
  rw [if_pos hw]
  obtain ⟨i0, hi, hz0, hz1, hz2⟩ := info_parts gauInfo
  obtain ⟨v', w', hrun, hown', hg, -, -⟩ := run_append_own_at (P := Tryz.prog) w base 32 o.type 62 i0 (.agg #[.int .i64 0, .int .i64 0]) 2 16 Tryz.underlying32 hi hz0 hz1 hz2 rfl (by decide) v n _ hown ⟨g, 0, none⟩ 1 c (gauVals 1 fun _ => y) (by rw [gauVals_len])
      (fun j u hu => by
        rw [gauVals_get] at hu
        split at hu
        · rename_i hj
          injection hu with hu
          subst hu
          rw [Addr.add_lit, Nat.zero_add]
          obtain rfl | rfl : j = 0 ∨ j = 1 := by omega
          · exact hr.at_ 0
          · exact hr.at_ 1
        · cases hu)
      (fun u hu => by
        obtain ⟨j, -, rfl⟩ := List.mem_map.1 hu
        rfl) (by unfold maxLen; omega) (by omega) hbase
  rw [gauVals_cat] at hown'
  unfold Oper.wp execOp
  simp only [ho, resolve, invoke, builtin, Sem.run_bind, Sem.run_pure, Result.andThen_ok, List.map_toArray, List.map_cons, List.map_nil, hs, hx, hrun]
  exact h v' w' (OwnGaus.congr (show OwnGaus w' base v' (n + 1) (catG n F fun _ => y) from hown') fun j _ => rfl) ((Below.refl _ _).grown hg hbase (fun k hk => (World.ownsRow.lt hown k hk).1)) hg
theorem keepsUnder {B : Nat} {W V V' : World} (h : KeepsFrom B W V) (hb : Below V.heap.size V V') : KeepsFrom B W V' :=
  ⟨Nat.le_trans h.size hb.size, fun k o hk h0 ho => by
    have h1 := h.same k o hk h0 ho
    exact (hb.block k (Array.getElem?_eq_some_iff.1 h1).1).trans h1⟩
theorem keepsAppended {B base n : Nat} {W V V' : World} {v : Value} {F : Nat → Gau} (h : KeepsFrom B W V) (ho : OwnGaus V base v n F) (hg : V.grownBy V' v.ownBlock) : KeepsFrom B W V' :=
  ⟨Nat.le_trans h.size hg.size, fun k o hk h0 hc => by
    have h1 := h.same k o hk h0 hc
    refine (hg.block k (Array.getElem?_eq_some_iff.1 h1).1 fun e => ?_).trans h1
    rcases ho.2 with ⟨rfl, -⟩ | ⟨g, cap, cur, rfl, -, hgg, -⟩
    · cases e
    · have e' : k = g := by injection e
      subst e'
      rw [hgg] at h1
      injection h1 with h1
      subst h1
      cases hc⟩
theorem keepsStored {B b o : Nat} {W V : World} {u : Value} (h : KeepsFrom B W V) (hb : b < B) : KeepsFrom B W (V.setCell ⟨b, o, none⟩ u) :=
  ⟨by have := h.size; simpa [World.setCell] using this, fun k x hk h0 hc => (Below.heap_setCell _ _ _ _ (by show k ≠ b; omega)).trans (h.same k x hk h0 hc)⟩
theorem OwnGaus.roundly {W Y : World} {row : Option Nat} {base n : Nat} {v : Value} {F : Nat → Gau} (h : OwnGaus W base v n F) (hg : W.grownBy Y row) (hr : ∀ r, row = some r → ∃ o : Obj, W.heap[r]? = some o ∧ o.isCells = false) : OwnGaus Y base v n F := by
  refine World.ownsRow.kept h hg ?_
  rcases h.2 with ⟨rfl, -⟩ | ⟨g, cap, cur, rfl, -, hgg, -⟩
  · exact .inl rfl
  · refine .inr fun e => ?_
    obtain ⟨o, h3, h4⟩ := hr g e.symm
    rw [hgg] at h3
    injection h3 with h3
    subst h3
    cases h4
/-- The point of h bits each way, from place i on. -/
def pntF (h : Nat) (F : Nat → Int) (i : Nat) : Gau := ⟨lvl h fun q => F (i + 2 * q), lvl h fun q => F (i + (2 * q + 1))⟩
/-- The error of modulating. -/
def modE (k : Int) (n : Nat) (F : Nat → Int) : Int := if orS (ordE k) (bitE n F 400) = 0 then if (n : Int) % k = 0 then 0 else 10 else orS (ordE k) (bitE n F 400)
/-- What lies in memory between two rounds. -/
structure DInv (w0 W : World) (B b7 n h : Nat) (F : Nat → Int) (C : Nat) (pre : List (Fin C)) (v : Value) : Prop where
  box : Box W b7 32 #[v]
  own : OwnGaus W B v pre.length (fun j => pntF h F (idxS pre j * n))
  below : Below w0.heap.size w0 W
  size : B ≤ W.heap.size
theorem DInv.roundly {w0 W Y : World} {B b7 n h C : Nat} {F : Nat → Int} {pre : List (Fin C)} {v : Value} {row : Option Nat} (hi : DInv w0 W B b7 n h F C pre v) (hg : W.grownBy Y row) (hB : w0.heap.size ≤ B) (hr : ∀ r, row = some r → B ≤ r ∧ ∃ o : Obj, W.heap[r]? = some o ∧ o.isCells = false) : DInv w0 Y B b7 n h F C pre v :=
  ⟨hi.box.roundly hg fun r e => (hr r e).2, hi.own.roundly hg fun r e => (hr r e).2, hi.below.grown hg hi.below.size fun r e => by have := (hr r e).1; omega, Nat.le_trans hi.size hg.size⟩
theorem Box.oneS {w : World} {b : Nat} {t : TypeId} {x : Value} (h : Box w b t #[x]) : w.cell? ⟨b, 0, none⟩ = some x ∧ w.frozen? ⟨b, 0, none⟩ = false ∧ b < w.heap.size := ⟨h.at_ 0, h.free 0, h.lt⟩
theorem Box.oneSput {w : World} {b : Nat} {t : TypeId} {x : Value} (h : Box w b t #[x]) (u : Value) : Box (w.setCell ⟨b, 0, none⟩ u) b t #[u] := by
  have := h.set_ 0 u
  simpa using this
theorem K2S.stored {a b o : Nat} {W V : World} {u : Value} (h : K2S a W V) (hb : b < a) : K2S a W (V.setCell ⟨b, o, none⟩ u) :=
  ⟨by have := h.1; simpa [World.setCell] using this, (Below.heap_setCell _ _ _ _ (by show a ≠ b; omega)).trans h.2.1, (Below.heap_setCell _ _ _ _ (by show a + 1 ≠ b; omega)).trans h.2.2⟩

set_option maxHeartbeats 16000000 in
set_option maxRecDepth 100000 in
theorem Modulated_wrong (k : Int) (A : Option Addr) (n c : Nat) (F : Nat → Int) (w : World) (hn : n ≤ 100000) (hI : IntsAt w 0 A n F) (hE : modE k n F ≠ 0) :
    Calls Tryz.prog 19 #[.int .i64 k, .slice A n c] w fun e w' => e = .returned (.tuple #[.slice none 0 0, .int .i64 (modE k n F)]) ∧ Below w.heap.size w w' := by
  have HOE := hide (fun W => orderError_any k W)
  have HBE := hide (fun W (h : IntsAt W 0 A n F) => bitsError_any A n c F 400 W (by omega) h)
  have HI := hide hI
  obtain ⟨E, hEE⟩ : ∃ z, modE k n F = z := ⟨_, rfl⟩
  rw [hEE] at hE ⊢
  unfold modE at hEE
  obtain ⟨e1, he1⟩ : ∃ z, ordE k = z := ⟨_, rfl⟩
  obtain ⟨e2, he2⟩ : ∃ z, bitE n F 400 = z := ⟨_, rfl⟩
  simp only [he1, he2] at HOE HBE hEE
  have HK := hide (fun h : e1 = 0 => (show k ≠ 0 by rintro rfl; rw [← he1] at h; exact absurd h (by decide)))
  have HE := hide hEE
  have HNE := hide hE
  clear hI hE hEE he1 he2
  go_enter Tryz.func19, Tryz.ntmps19
  go_wp2_with (first | (go_at_call 60; refine (HOE.out _).mono ?_; rintro e_ v_ ⟨rfl, rfl⟩) | (go_at_call 58; refine (HBE.out _ HI.out).mono ?_; rintro e_ v_ ⟨rfl, q, rfl⟩))
  refine (orS_two e1 e2 _ _ _ (by first | exact (Box.made rfl : Box _ _ _ #[_, _]).at_ 0) (by first | exact (Box.made rfl : Box _ _ _ #[_, _]).at_ 1)).mono ?_
  rintro e_ w4 ⟨rfl, hw4⟩
  have HB := hide (show Below w.heap.size w w4 by rw [← hw4]; (repeat (first | (with_reducible exact Below.refl _ _) | (with_reducible refine Go.below_drewN ?_ _) | (with_reducible refine Below.drew ?_) | (with_reducible refine Below.alloc ?_ (by first | exact Nat.le_refl _ | (simp; done) | (simp; omega) | omega) _) | (with_reducible refine Below.setCell ?_ (by first | exact Nat.le_refl _ | (simp; done) | (simp; omega) | omega) _))))
  clear hw4
  by_cases hor : orS e1 e2 = 0
  case neg =>
    have hEE : orS e1 e2 = E := (if_neg hor).symm.trans HE.out
    rw [hEE]
    have ts : (E != 0) = true := by simpa using HNE.out
    clear HE hor hEE HK
    go_wp2_with fail
    go_ret2
    exact ⟨rfl, HB.out⟩
  have hz1 : e1 = 0 := by unfold orS at hor; by_cases h : e1 = 0; exact h; rw [if_neg h] at hor; exact absurd hor h
  have hk0 := HK.out hz1
  have hEE := (if_pos hor).symm.trans HE.out
  rw [hor]
  have hm : ¬ (n : Int) % k = 0 := fun h => HNE.out (hEE.symm.trans (if_pos h))
  obtain rfl : E = 10 := hEE.symm.trans (if_neg hm)
  have tm : ((n : Int) % k != 0) = true := by simpa using hm
  have t0 : ((0 : Int) != 0) = false := by decide
  clear HE HK hEE hor hz1 hm
  go_wp2_with fail
  go_ret2
  exact ⟨rfl, HB.out⟩
set_option maxHeartbeats 16000000 in
set_option maxRecDepth 100000 in
theorem Modulated_right (h g C n c : Nat) (F : Nat → Int) (w : World) (h1 : 1 ≤ h) (h3 : h ≤ 3) (hn : n = C * (2 * h)) (hn9 : n ≤ 400) (hc : n ≤ c) (hc9 : c ≤ 9223372036854775807) (hI : IntsAt w 0 (some ⟨g, 0, none⟩) n F) (hE : modE (2 * (h : Int)) n F = 0) :
    Calls Tryz.prog 19 #[.int .i64 (2 * (h : Int)), .slice (some ⟨g, 0, none⟩) n c] w fun e w' => ∃ v, e = .returned (.tuple #[v, .int .i64 0]) ∧ OwnGaus w' w.heap.size v C (fun j => pntF h F (j * (2 * h))) ∧ Below w.heap.size w w' := by
  have HIW := hide hI
  have HOE := hide (fun W => orderError_any (2 * (h : Int)) W)
  have HBE := hide (fun W (h : IntsAt W 0 (some ⟨g, 0, none⟩) n F) => bitsError_any (some ⟨g, 0, none⟩) n c F 400 W (by omega) h)
  have HI := hide hI
  have hE2 : ordE (2 * (h : Int)) = 0 ∧ bitE n F 400 = 0 := by
    have ho : ordE (2 * (h : Int)) = 0 := by unfold ordE; rw [if_pos (by omega)]
    refine ⟨ho, ?_⟩
    unfold modE orS at hE
    rw [ho] at hE
    by_cases hb : bitE n F 400 = 0
    · exact hb
    · rw [if_pos rfl, if_neg hb] at hE
      exact absurd hE hb
  have HBT := hide (show ∀ j, j < n → IsBit (F j) from by
    have := hE2.2
    unfold bitE at this
    by_cases h0 : n = 0
    · rw [if_pos h0] at this; exact absurd this (by decide)
    rw [if_neg h0] at this
    by_cases h1 : (400 : Int) < (n : Int)
    · rw [if_pos h1] at this; exact absurd this (by decide)
    rw [if_neg h1] at this
    unfold unI at this
    by_cases hb : bitsB n F = true
    · exact bitsB_iff.1 hb
    · rw [if_neg hb] at this; exact absurd this (by decide))
  obtain ⟨e1, he1⟩ : ∃ z, ordE (2 * (h : Int)) = z := ⟨_, rfl⟩
  obtain ⟨e2, he2⟩ : ∃ z, bitE n F 400 = z := ⟨_, rfl⟩
  rw [he1, he2] at hE2
  simp only [he1] at HOE
  simp only [he2] at HBE
  have HZZ := hide (show orS e1 e2 = 0 by rw [hE2.1]; exact hE2.2)
  have tm : (n : Int) % (2 * (h : Int)) = 0 := by rw [hn, Int.natCast_mul, Int.natCast_mul]; exact Int.mul_emod_left _ _
  have hk0 : ¬ 2 * (h : Int) = 0 := by omega
  have HN := hide hn
  have HPO := hide (fun (u : Nat) W (hu : u + 2 * h ≤ n) (hI : IntsAt W 0 (some ⟨g, u, none⟩) (2 * h) fun q => F (u + q)) => pointOf_any g u (2 * h) h (2 * h) (fun q => F (u + q)) W (Nat.le_refl _) (Nat.le_refl _) h1 h3 (fun j hj => HBT.out (u + j) (by omega)) hI)
  clear hI hE he1 he2 hE2 hn
  obtain ⟨m, hm⟩ : ∃ m : Nat, 2 * h = m := ⟨_, rfl⟩
  have hmz : 2 * (h : Int) = (m : Int) := by omega
  rw [hm] at HN
  simp only [hm] at HPO
  simp only [hmz] at tm hk0 HOE
  simp only [hm, hmz]
  have hm1 : 1 ≤ m := by omega
  have hC9 : C ≤ 400 := Nat.le_trans (Nat.le_mul_of_pos_right C hm1) (by rw [← HN.out]; exact hn9)
  clear hm hmz
  refine (callsIn_wide (n := 9)).1 ?_
  refine callsIn_of_wp_marks Tryz.func19 rfl trivial ?_ rfl
  refine wpIn_wide.2 ?_
  simp only [Tryz.ntmps19, List.size_toArray, List.length_cons, List.length_nil, Nat.reduceAdd, Nat.reduceSub, Array.replicate_succ, Array.replicate_zero, List.push_toArray, List.append_toArray, List.nil_append, List.cons_append]
  go_wp2_with (first | (go_at_call 60; refine (HOE.out _).mono ?_; rintro e_ v_ ⟨rfl, rfl⟩) | (go_at_call 58; refine (HBE.out _ HI.out).mono ?_; rintro e_ v_ ⟨rfl, q, rfl⟩))
  refine (orS_two e1 e2 _ _ _ (by first | exact (Box.made rfl : Box _ _ _ #[_, _]).at_ 0) (by first | exact (Box.made rfl : Box _ _ _ #[_, _]).at_ 1)).mono ?_
  rintro e_ w4 ⟨rfl, hw4⟩
  have HB := hide (show Below w.heap.size w w4 by rw [← hw4]; (repeat (first | (with_reducible exact Below.refl _ _) | (with_reducible refine Go.below_drewN ?_ _) | (with_reducible refine Below.drew ?_) | (with_reducible refine Below.alloc ?_ (by first | exact Nat.le_refl _ | (simp; done) | (simp; omega) | omega) _) | (with_reducible refine Below.setCell ?_ (by first | exact Nat.le_refl _ | (simp; done) | (simp; omega) | omega) _))))
  clear hw4
  rw [HZZ.out]
  have t0 : ((0 : Int) != 0) = false := by decide
  replace HI := hide (HI.out.below HB.out)
  clear HZZ HOE HBE
  go_upto_region 7 with fail
  obtain ⟨b7, hb7⟩ : ∃ z, w4.heap.size = z := ⟨_, rfl⟩
  obtain ⟨w5, hw5⟩ : ∃ z : World, z = w4.alloc (.cells #[.slice none 0 0] 32) := ⟨_, rfl⟩
  try rw [← hw5]
  have HX := hide (show Box w5 b7 32 #[.slice none 0 0] by rw [hw5]; exact Box.made hb7.symm)
  replace HI := hide (show IntsAt w5 0 (some ⟨g, 0, none⟩) n F by rw [hw5]; exact HI.out.alloc _)
  have hw7 : w.heap.size ≤ b7 := by rw [← hb7]; exact HB.out.size
  replace HB := hide (show Below w.heap.size w w5 by rw [hw5]; exact HB.out.alloc HB.out.size _)
  try simp only [hb7]
  clear hw5 hb7
  go_wp2_with fail
  refine (chunkS_any (some ⟨g, 0, none⟩) n c m _ hm1).mono ?_
  rintro e w6 ⟨rfl, hw6⟩
  obtain ⟨b8, hb8⟩ : ∃ z, w5.heap.size = z := ⟨_, rfl⟩
  have bs : Box w6 b8 24 #[.slice (some ⟨g, 0, none⟩) n c] := by rw [← hw6]; exact (Box.made hb8.symm).alloc _
  have bn : Box w6 (b8 + 1) 3 #[.int .i64 (m : Int)] := by rw [← hw6, ← hb8]; exact Box.made (by simp)
  have hc6 : Below w5.heap.size w5 w6 := by rw [← hw6]; (repeat (first | (with_reducible exact Below.refl _ _) | (with_reducible refine Go.below_drewN ?_ _) | (with_reducible refine Below.drew ?_) | (with_reducible refine Below.alloc ?_ (by first | exact Nat.le_refl _ | (simp; done) | (simp; omega) | omega) _) | (with_reducible refine Below.setCell ?_ (by first | exact Nat.le_refl _ | (simp; done) | (simp; omega) | omega) _)))
  have h78 : b7 < b8 := by rw [← hb8]; exact HX.out.lt
  replace HX := hide (HX.out.below hc6)
  replace HI := hide (HI.out.below hc6)
  replace HB := hide (HB.out.trans (hc6.mono HB.out.size))
  simp only [hb8]
  clear hw6 hc6 hb8
  have h86 := bn.lt
  go_wp2_with fail
  refine (wpIn_wide (n := 9)).1 ?_
  apply wpIn_rangeFunc_ownG (n := 9) (encs := encS g m C) (Kp := K2S b8) rfl (by decide) rfl trivial (enters_of Tryz.func96 (by kernel_rfl) rfl)
    (chunkS_stops 8 b8 g m C n c w6 bs bn hm1 HN.out (by omega) hc hc9)
    K2S.trans (fun W l o o' hl h _ _ => K2S.put (by omega)) (Below.refl _ _) (fun _ => rfl)
    (fun pre W => ∃ v, DInv w W w6.heap.size b7 m h F C pre v) (fun _ _ _ => False)
  case hI => exact fun pre X Y row ⟨v, hs⟩ hg hr => ⟨v, hs.roundly hg HB.out.size hr⟩
  case hIx => exact fun c s X Y row hs _ _ => hs
  case h0 => exact ⟨_, HX.out, OwnGaus.nil_ _ _ _, HB.out, Nat.le_refl _⟩
  case hassign =>
    intro l xx W K hK
    unfold encS
    gi_wp2
    exact hK
  case hbody =>
    clear HX
    rintro l pre xx W ⟨v, hM⟩ hlen
    have HX := hide hM.box
    have HO := hide hM.own
    have HBW := hide hM.below
    have hs6 := hM.size
    clear hM
    have hx2 := xx.2
    have hmul : (xx.1 + 1) * m ≤ C * m := Nat.mul_le_mul_right m hx2
    rw [← HN.out, Nat.add_mul, Nat.one_mul] at hmul
    obtain ⟨A7, c7, rfl, hc7, -⟩ := ownGaus_form HO.out
    have hIB : IntsAt W 0 (some ⟨g, 0, none⟩) n F := by
      exact HIW.out.below HBW.out
    have HPT := hide (show pntF h F (xx.1 * m) = ⟨lvl h fun q => F (xx.1 * m + 2 * q), lvl h fun q => F (xx.1 * m + (2 * q + 1))⟩ from rfl)
    obtain ⟨u, hu⟩ : ∃ u, xx.1 * m = u := ⟨_, rfl⟩
    rw [hu] at hmul HPT
    have HU := hide hu
    have hIK : IntsAt W 0 (some ⟨g, u, none⟩) m (fun q => F (u + q)) := by
      have h6 := IntsAt.cut (j := u) (m := m) hIB (by omega)
      rw [Nat.zero_add] at h6
      exact h6
    have HIK := hide hIK
    have HPU := hide (fun W1 hI1 => HPO.out u W1 hmul hI1)
    clear hIB hIK hu
    obtain ⟨y, hy⟩ : ∃ z, pntF h F u = z := ⟨_, rfl⟩
    rw [hy] at HPT
    have hyr : y.re = lvl h fun q => F (u + 2 * q) := by rw [HPT.out]
    have hyi : y.im = lvl h fun q => F (u + (2 * q + 1)) := by rw [HPT.out]
    simp only [← hyr, ← hyi] at HPU
    have HY := hide hy
    clear HPT hyr hyi hy
    have HKF := hide (KeepsFrom.refl w6.heap.size W)
    have HK2 := hide (K2S.refl b8 W)
    skip
    obtain ⟨xv, hxv⟩ : ∃ z, y.re = z := ⟨_, rfl⟩
    obtain ⟨xw, hxw⟩ : ∃ z, y.im = z := ⟨_, rfl⟩
    simp only [hxv, hxw] at HPU
    have HXV := hide hxv
    have HXW := hide hxw
    clear hxv hxw
    simp only [HU.out]
    gi_wp2_with fail
    refine wpIn_region_held_drew (S := fun w' => b8 + 1 < w'.heap.size) (by kernel_rfl) (by kernel_rfl) (fun ⟨_, _, h⟩ => h) (Nat.lt_of_lt_of_le h86 hs6) (fun hHeld => ?_)
    obtain ⟨w_1, hw_1⟩ : ∃ q : World, q = W.drew := ⟨_, rfl⟩
    rw [← hw_1] at hHeld ⊢
    have hc_1 : Below W.heap.size W w_1 := by rw [hw_1]; exact (Below.refl _ _).drew
    clear hw_1
    replace HX := hide (HX.out.below hc_1)
    replace HO := hide (HO.out.below hc_1)
    replace HIK := hide (HIK.out.below hc_1)
    replace HKF := hide (keepsUnder HKF.out hc_1)
    replace HK2 := hide (HK2.out.trans (K2S.of_below hc_1 (Nat.lt_of_lt_of_le h86 hs6)))
    replace HBW := hide (HBW.out.trans (hc_1.mono HBW.out.size))
    replace hs6 := Nat.le_trans hs6 hc_1.size
    clear hc_1
    refine wpAnyH_take (i := 1) (oi := ⟨some 28, _, _, _, _, _⟩) (v := ?_) rfl (by kernel_rfl) (by kernel_rfl) (by kernel_rfl) (fun _ _ _ h => h) (Or.inl ⟨by rfl, ?_⟩) (by assumption) ?_
    rotate_left
    · (intro w' hSw; (try dsimp only at hSw); go_simp <;> (with_reducible rfl))
    try simp only [Act.put, List.setIfInBounds_toArray, List.set_cons_zero, List.set_cons_succ]
    refine wpAnyH_ready (rs := [0, 2]) (by kernel_rfl) (by simp) ?_
    refine AllReadyH.cons (o := ⟨some 27, _, _, _, _, _⟩) rfl (fun K' hK => ?_) (AllReadyH.cons (o := ⟨some 29, _, _, _, _, _⟩) rfl (fun K' hK => ?_) AllReadyH.nil)
    · skip
      obtain ⟨y0, f0, hly⟩ := HX.out.oneS
      go_simp
      clear y0 f0 hly
      refine hK.out _ _ (Nat.lt_of_lt_of_le h86 hs6) (fun hHeld => ?_)
      clear hK K'
      try simp only [Act.put, List.setIfInBounds_toArray, List.set_cons_zero, List.set_cons_succ]
      refine wpAnyH_ready (rs := [2]) (by kernel_rfl) (by simp) ?_
      refine AllReadyH.cons (o := ⟨some 29, _, _, _, _, _⟩) rfl (fun K' hK => ?_) AllReadyH.nil
      go_simp
      go_at_call 62
      refine (HPU.out _ HIK.out).mono ?_
      rintro e_ w_2 ⟨rfl, hb_2⟩
      replace HX := hide (HX.out.below hb_2)
      replace HO := hide (HO.out.below hb_2)
      replace HIK := hide (HIK.out.below hb_2)
      replace HKF := hide (keepsUnder HKF.out hb_2)
      replace HK2 := hide (HK2.out.trans (K2S.of_below hb_2 (Nat.lt_of_lt_of_le h86 hs6)))
      replace HBW := hide (HBW.out.trans (hb_2.mono HBW.out.size))
      replace hs6 := Nat.le_trans hs6 hb_2.size
      clear hb_2
      go_wp2_with fail
      refine hK.out _ _ (Nat.lt_of_lt_of_le h86 hs6) (fun hHeld => ?_)
      clear hK K'
      try simp only [Act.put, List.setIfInBounds_toArray, List.set_cons_zero, List.set_cons_succ]
      refine wpAnyH_ready (rs := [3]) (by kernel_rfl) (by simp) ?_
      refine AllReadyH.cons (o := ⟨some 30, _, _, _, _, _⟩) rfl (fun K' hK => ?_) AllReadyH.nil
      go_simp
      obtain ⟨g9, hg9⟩ : ∃ z, w_2.heap.size = z := ⟨_, rfl⟩
      obtain ⟨w_3, hw_3⟩ : ∃ z : World, z = w_2.alloc (.cells #[.int .i64 xv, .int .i64 xw] 62) := ⟨_, rfl⟩
      try rw [← hw_3]
      have HP9 := hide (show Box w_3 g9 62 #[.int .i64 y.re, .int .i64 y.im] by rw [HXV.out, HXW.out, hw_3]; exact Box.made hg9.symm)
      have hc_3 : Below w_2.heap.size w_2 w_3 := by rw [hw_3]; exact (Below.refl _ _).alloc (Nat.le_refl _) _
      clear hw_3
      replace HX := hide (HX.out.below hc_3)
      replace HO := hide (HO.out.below hc_3)
      replace HIK := hide (HIK.out.below hc_3)
      replace HKF := hide (keepsUnder HKF.out hc_3)
      replace HK2 := hide (HK2.out.trans (K2S.of_below hc_3 (Nat.lt_of_lt_of_le h86 hs6)))
      replace HBW := hide (HBW.out.trans (hc_3.mono HBW.out.size))
      replace hs6 := Nat.le_trans hs6 hc_3.size
      clear hc_3
      try simp only [hg9]
      clear hg9
      refine hK.out _ _ (Nat.lt_of_lt_of_le h86 hs6) (fun hHeld => ?_)
      clear hK K'
      try simp only [Act.put, List.setIfInBounds_toArray, List.set_cons_zero, List.set_cons_succ]
      refine wpAnyH_ready (rs := [4]) (by kernel_rfl) (by simp) ?_
      refine AllReadyH.cons (o := ⟨some 31, _, _, _, _, _⟩) rfl (fun K' hK => ?_) AllReadyH.nil
      refine step_append_oneG _ rfl (.tmp 27) (.tmp 30) rfl w6.heap.size (.slice A7 pre.length c7) pre.length _ rfl HO.out g9 1 y rfl HP9.out (by omega) hs6 ?_
      intro v9 w_4 ho9 hb9 hgr9
      obtain ⟨A9, c9, rfl, hcv9, -⟩ := ownGaus_form ho9
      replace HX := hide (HX.out.kept hb9 (by omega))
      replace HKF := hide (keepsAppended HKF.out HO.out hgr9)
      replace HK2 := hide (HK2.out.trans (K2S.of_below hb9 h86))
      replace HBW := hide (HBW.out.trans (hb9.mono HB.out.size))
      have HO2 := hide ho9
      replace hs6 := Nat.le_trans hs6 hgr9.size
      clear ho9 hb9 hgr9 HO HP9 HIK
      refine hK.out _ _ (Nat.lt_of_lt_of_le h86 hs6) (fun hHeld => ?_)
      clear hK K'
      try simp only [Act.put, List.setIfInBounds_toArray, List.set_cons_zero, List.set_cons_succ]
      refine wpAnyH_ready (rs := [5]) (by kernel_rfl) (by simp) ?_
      refine AllReadyH.cons (o := ⟨none, _, _, _, _, _⟩) rfl (fun K' hK => ?_) AllReadyH.nil
      obtain ⟨y0, f0, hly⟩ := HX.out.oneS
      go_simp
      clear y0 f0 hly
      replace HX := hide (HX.out.oneSput (.slice A9 (pre.length + 1) c9))
      have HO := hide (HO2.out.other (k := b7) 0 (.slice A9 (pre.length + 1) c9) (fun e => by have := (World.ownsRow.lt HO2.out b7 e).1; omega))
      replace HKF := hide (keepsStored HKF.out (b := b7) (o := 0) (u := .slice A9 (pre.length + 1) c9) (by omega))
      replace HK2 := hide (K2S.stored HK2.out (b := b7) (o := 0) (u := .slice A9 (pre.length + 1) c9) (by omega))
      replace HBW := hide (HBW.out.setCell (p := ⟨b7, 0, none⟩) hw7 (.slice A9 (pre.length + 1) c9))
      replace hs6 : w6.heap.size ≤ (w_4.setCell ⟨b7, 0, none⟩ (.slice A9 (pre.length + 1) c9)).heap.size := by simpa [World.setCell] using hs6
      obtain ⟨w_5, hw_5⟩ : ∃ z : World, w_4.setCell ⟨b7, 0, none⟩ (.slice A9 (pre.length + 1) c9) = z := ⟨_, rfl⟩
      rw [hw_5] at HX HO HKF HK2 HBW hs6 ⊢
      clear hw_5 HO2
      refine hK.out _ _ (Nat.lt_of_lt_of_le h86 hs6) (fun hHeld => ?_)
      clear hK K'
      try simp only [Act.put, List.setIfInBounds_toArray, List.set_cons_zero, List.set_cons_succ]
      refine wpAnyH_done (by kernel_rfl) ?_ _
      clear hHeld
      try simp only [Exit.inBlock]
      refine ⟨HKF.out, HK2.out, _, HX.out, ?_, HBW.out, hs6⟩
      rw [List.length_append, List.length_singleton]
      refine HO.out.congr fun j hj => ?_
      by_cases e : j < pre.length
      · rw [if_pos e, idxS_left e]
      · obtain rfl : j = pre.length := by omega
        rw [if_neg e, idxS_last, HU.out]
        exact HY.out.symm
    · skip
      go_simp
      go_at_call 62
      refine (HPU.out _ HIK.out).mono ?_
      rintro e_ w_6 ⟨rfl, hb_6⟩
      replace HX := hide (HX.out.below hb_6)
      replace HO := hide (HO.out.below hb_6)
      replace HIK := hide (HIK.out.below hb_6)
      replace HKF := hide (keepsUnder HKF.out hb_6)
      replace HK2 := hide (HK2.out.trans (K2S.of_below hb_6 (Nat.lt_of_lt_of_le h86 hs6)))
      replace HBW := hide (HBW.out.trans (hb_6.mono HBW.out.size))
      replace hs6 := Nat.le_trans hs6 hb_6.size
      clear hb_6
      go_wp2_with fail
      refine hK.out _ _ (Nat.lt_of_lt_of_le h86 hs6) (fun hHeld => ?_)
      clear hK K'
      try simp only [Act.put, List.setIfInBounds_toArray, List.set_cons_zero, List.set_cons_succ]
      refine wpAnyH_ready (rs := [0, 3]) (by kernel_rfl) (by simp) ?_
      refine AllReadyH.cons (o := ⟨some 27, _, _, _, _, _⟩) rfl (fun K' hK => ?_) (AllReadyH.cons (o := ⟨some 30, _, _, _, _, _⟩) rfl (fun K' hK => ?_) AllReadyH.nil)
      · skip
        obtain ⟨y0, f0, hly⟩ := HX.out.oneS
        go_simp
        clear y0 f0 hly
        refine hK.out _ _ (Nat.lt_of_lt_of_le h86 hs6) (fun hHeld => ?_)
        clear hK K'
        try simp only [Act.put, List.setIfInBounds_toArray, List.set_cons_zero, List.set_cons_succ]
        refine wpAnyH_ready (rs := [3]) (by kernel_rfl) (by simp) ?_
        refine AllReadyH.cons (o := ⟨some 30, _, _, _, _, _⟩) rfl (fun K' hK => ?_) AllReadyH.nil
        go_simp
        obtain ⟨g9, hg9⟩ : ∃ z, w_6.heap.size = z := ⟨_, rfl⟩
        obtain ⟨w_7, hw_7⟩ : ∃ z : World, z = w_6.alloc (.cells #[.int .i64 xv, .int .i64 xw] 62) := ⟨_, rfl⟩
        try rw [← hw_7]
        have HP9 := hide (show Box w_7 g9 62 #[.int .i64 y.re, .int .i64 y.im] by rw [HXV.out, HXW.out, hw_7]; exact Box.made hg9.symm)
        have hc_7 : Below w_6.heap.size w_6 w_7 := by rw [hw_7]; exact (Below.refl _ _).alloc (Nat.le_refl _) _
        clear hw_7
        replace HX := hide (HX.out.below hc_7)
        replace HO := hide (HO.out.below hc_7)
        replace HIK := hide (HIK.out.below hc_7)
        replace HKF := hide (keepsUnder HKF.out hc_7)
        replace HK2 := hide (HK2.out.trans (K2S.of_below hc_7 (Nat.lt_of_lt_of_le h86 hs6)))
        replace HBW := hide (HBW.out.trans (hc_7.mono HBW.out.size))
        replace hs6 := Nat.le_trans hs6 hc_7.size
        clear hc_7
        try simp only [hg9]
        clear hg9
        refine hK.out _ _ (Nat.lt_of_lt_of_le h86 hs6) (fun hHeld => ?_)
        clear hK K'
        try simp only [Act.put, List.setIfInBounds_toArray, List.set_cons_zero, List.set_cons_succ]
        refine wpAnyH_ready (rs := [4]) (by kernel_rfl) (by simp) ?_
        refine AllReadyH.cons (o := ⟨some 31, _, _, _, _, _⟩) rfl (fun K' hK => ?_) AllReadyH.nil
        refine step_append_oneG _ rfl (.tmp 27) (.tmp 30) rfl w6.heap.size (.slice A7 pre.length c7) pre.length _ rfl HO.out g9 1 y rfl HP9.out (by omega) hs6 ?_
        intro v9 w_8 ho9 hb9 hgr9
        obtain ⟨A9, c9, rfl, hcv9, -⟩ := ownGaus_form ho9
        replace HX := hide (HX.out.kept hb9 (by omega))
        replace HKF := hide (keepsAppended HKF.out HO.out hgr9)
        replace HK2 := hide (HK2.out.trans (K2S.of_below hb9 h86))
        replace HBW := hide (HBW.out.trans (hb9.mono HB.out.size))
        have HO2 := hide ho9
        replace hs6 := Nat.le_trans hs6 hgr9.size
        clear ho9 hb9 hgr9 HO HP9 HIK
        refine hK.out _ _ (Nat.lt_of_lt_of_le h86 hs6) (fun hHeld => ?_)
        clear hK K'
        try simp only [Act.put, List.setIfInBounds_toArray, List.set_cons_zero, List.set_cons_succ]
        refine wpAnyH_ready (rs := [5]) (by kernel_rfl) (by simp) ?_
        refine AllReadyH.cons (o := ⟨none, _, _, _, _, _⟩) rfl (fun K' hK => ?_) AllReadyH.nil
        obtain ⟨y0, f0, hly⟩ := HX.out.oneS
        go_simp
        clear y0 f0 hly
        replace HX := hide (HX.out.oneSput (.slice A9 (pre.length + 1) c9))
        have HO := hide (HO2.out.other (k := b7) 0 (.slice A9 (pre.length + 1) c9) (fun e => by have := (World.ownsRow.lt HO2.out b7 e).1; omega))
        replace HKF := hide (keepsStored HKF.out (b := b7) (o := 0) (u := .slice A9 (pre.length + 1) c9) (by omega))
        replace HK2 := hide (K2S.stored HK2.out (b := b7) (o := 0) (u := .slice A9 (pre.length + 1) c9) (by omega))
        replace HBW := hide (HBW.out.setCell (p := ⟨b7, 0, none⟩) hw7 (.slice A9 (pre.length + 1) c9))
        replace hs6 : w6.heap.size ≤ (w_8.setCell ⟨b7, 0, none⟩ (.slice A9 (pre.length + 1) c9)).heap.size := by simpa [World.setCell] using hs6
        obtain ⟨w_9, hw_9⟩ : ∃ z : World, w_8.setCell ⟨b7, 0, none⟩ (.slice A9 (pre.length + 1) c9) = z := ⟨_, rfl⟩
        rw [hw_9] at HX HO HKF HK2 HBW hs6 ⊢
        clear hw_9 HO2
        refine hK.out _ _ (Nat.lt_of_lt_of_le h86 hs6) (fun hHeld => ?_)
        clear hK K'
        try simp only [Act.put, List.setIfInBounds_toArray, List.set_cons_zero, List.set_cons_succ]
        refine wpAnyH_done (by kernel_rfl) ?_ _
        clear hHeld
        try simp only [Exit.inBlock]
        refine ⟨HKF.out, HK2.out, _, HX.out, ?_, HBW.out, hs6⟩
        rw [List.length_append, List.length_singleton]
        refine HO.out.congr fun j hj => ?_
        by_cases e : j < pre.length
        · rw [if_pos e, idxS_left e]
        · obtain rfl : j = pre.length := by omega
          rw [if_neg e, idxS_last, HU.out]
          exact HY.out.symm
      · skip
        go_simp
        obtain ⟨g9, hg9⟩ : ∃ z, w_6.heap.size = z := ⟨_, rfl⟩
        obtain ⟨w_10, hw_10⟩ : ∃ z : World, z = w_6.alloc (.cells #[.int .i64 xv, .int .i64 xw] 62) := ⟨_, rfl⟩
        try rw [← hw_10]
        have HP9 := hide (show Box w_10 g9 62 #[.int .i64 y.re, .int .i64 y.im] by rw [HXV.out, HXW.out, hw_10]; exact Box.made hg9.symm)
        have hc_10 : Below w_6.heap.size w_6 w_10 := by rw [hw_10]; exact (Below.refl _ _).alloc (Nat.le_refl _) _
        clear hw_10
        replace HX := hide (HX.out.below hc_10)
        replace HO := hide (HO.out.below hc_10)
        replace HIK := hide (HIK.out.below hc_10)
        replace HKF := hide (keepsUnder HKF.out hc_10)
        replace HK2 := hide (HK2.out.trans (K2S.of_below hc_10 (Nat.lt_of_lt_of_le h86 hs6)))
        replace HBW := hide (HBW.out.trans (hc_10.mono HBW.out.size))
        replace hs6 := Nat.le_trans hs6 hc_10.size
        clear hc_10
        try simp only [hg9]
        clear hg9
        refine hK.out _ _ (Nat.lt_of_lt_of_le h86 hs6) (fun hHeld => ?_)
        clear hK K'
        try simp only [Act.put, List.setIfInBounds_toArray, List.set_cons_zero, List.set_cons_succ]
        refine wpAnyH_ready (rs := [0]) (by kernel_rfl) (by simp) ?_
        refine AllReadyH.cons (o := ⟨some 27, _, _, _, _, _⟩) rfl (fun K' hK => ?_) AllReadyH.nil
        obtain ⟨y0, f0, hly⟩ := HX.out.oneS
        go_simp
        clear y0 f0 hly
        refine hK.out _ _ (Nat.lt_of_lt_of_le h86 hs6) (fun hHeld => ?_)
        clear hK K'
        try simp only [Act.put, List.setIfInBounds_toArray, List.set_cons_zero, List.set_cons_succ]
        refine wpAnyH_ready (rs := [4]) (by kernel_rfl) (by simp) ?_
        refine AllReadyH.cons (o := ⟨some 31, _, _, _, _, _⟩) rfl (fun K' hK => ?_) AllReadyH.nil
        refine step_append_oneG _ rfl (.tmp 27) (.tmp 30) rfl w6.heap.size (.slice A7 pre.length c7) pre.length _ rfl HO.out g9 1 y rfl HP9.out (by omega) hs6 ?_
        intro v9 w_11 ho9 hb9 hgr9
        obtain ⟨A9, c9, rfl, hcv9, -⟩ := ownGaus_form ho9
        replace HX := hide (HX.out.kept hb9 (by omega))
        replace HKF := hide (keepsAppended HKF.out HO.out hgr9)
        replace HK2 := hide (HK2.out.trans (K2S.of_below hb9 h86))
        replace HBW := hide (HBW.out.trans (hb9.mono HB.out.size))
        have HO2 := hide ho9
        replace hs6 := Nat.le_trans hs6 hgr9.size
        clear ho9 hb9 hgr9 HO HP9 HIK
        refine hK.out _ _ (Nat.lt_of_lt_of_le h86 hs6) (fun hHeld => ?_)
        clear hK K'
        try simp only [Act.put, List.setIfInBounds_toArray, List.set_cons_zero, List.set_cons_succ]
        refine wpAnyH_ready (rs := [5]) (by kernel_rfl) (by simp) ?_
        refine AllReadyH.cons (o := ⟨none, _, _, _, _, _⟩) rfl (fun K' hK => ?_) AllReadyH.nil
        obtain ⟨y0, f0, hly⟩ := HX.out.oneS
        go_simp
        clear y0 f0 hly
        replace HX := hide (HX.out.oneSput (.slice A9 (pre.length + 1) c9))
        have HO := hide (HO2.out.other (k := b7) 0 (.slice A9 (pre.length + 1) c9) (fun e => by have := (World.ownsRow.lt HO2.out b7 e).1; omega))
        replace HKF := hide (keepsStored HKF.out (b := b7) (o := 0) (u := .slice A9 (pre.length + 1) c9) (by omega))
        replace HK2 := hide (K2S.stored HK2.out (b := b7) (o := 0) (u := .slice A9 (pre.length + 1) c9) (by omega))
        replace HBW := hide (HBW.out.setCell (p := ⟨b7, 0, none⟩) hw7 (.slice A9 (pre.length + 1) c9))
        replace hs6 : w6.heap.size ≤ (w_11.setCell ⟨b7, 0, none⟩ (.slice A9 (pre.length + 1) c9)).heap.size := by simpa [World.setCell] using hs6
        obtain ⟨w_12, hw_12⟩ : ∃ z : World, w_11.setCell ⟨b7, 0, none⟩ (.slice A9 (pre.length + 1) c9) = z := ⟨_, rfl⟩
        rw [hw_12] at HX HO HKF HK2 HBW hs6 ⊢
        clear hw_12 HO2
        refine hK.out _ _ (Nat.lt_of_lt_of_le h86 hs6) (fun hHeld => ?_)
        clear hK K'
        try simp only [Act.put, List.setIfInBounds_toArray, List.set_cons_zero, List.set_cons_succ]
        refine wpAnyH_done (by kernel_rfl) ?_ _
        clear hHeld
        try simp only [Exit.inBlock]
        refine ⟨HKF.out, HK2.out, _, HX.out, ?_, HBW.out, hs6⟩
        rw [List.length_append, List.length_singleton]
        refine HO.out.congr fun j hj => ?_
        by_cases e : j < pre.length
        · rw [if_pos e, idxS_left e]
        · obtain rfl : j = pre.length := by omega
          rw [if_neg e, idxS_last, HU.out]
          exact HY.out.symm
  case hdone =>
    clear HX
    rintro D0 xs W hD hxs ⟨v, hM⟩ hK
    have hK' := hide hK
    have HXS := hide hxs
    have HM := hide hM
    obtain ⟨y0, f0, hly⟩ := hM.box.oneS
    obtain ⟨A7, c7, rfl, hc7, -⟩ := ownGaus_form hM.own
    clear hxs hK hM
    go_wp2_with fail
    refine ⟨by simp, .inl ⟨_, _, rfl, run_takeDeferred hK'.out, ?_⟩⟩
    refine ⟨_, results_tmp2 rfl _ _ _, _, rfl, ?_⟩
    have hM3 := HM.out.roundly (grownBy_putObj' W D0 (.deferred none)) HB.out.size (fun r e => by cases e; exact ⟨hD, _, hK'.out, rfl⟩)
    have ho3 := hM3.own
    have hx := HXS.out
    skip
    rw [HXS.out, seqS_length (Nat.le_refl _)] at ho3
    have ho4 := (ho3.weak (base' := w.heap.size) HB.out.size).congr (G := fun j => pntF h F (j * m)) fun j hj => by rw [idxS_seq (Nat.le_refl _) j hj]
    have hl : xs.length = C := by rw [HXS.out]; exact seqS_length (Nat.le_refl _)
    rw [hl]
    first | exact ⟨_, rfl, ho4, hM3.below⟩ | exact ⟨ho4, hM3.below⟩ | (trace_state; exact ho4)
  case hstop => exact fun D c pre W _ _ h _ => h.elim
end Go.Proofs.YtcdplfjegopmdaaGreat
/- The document's examples: awake of the law. -/
namespace Go.Proofs.YtcdplfjegopmdaaGreat
open Go Go.RowKit Go.Lib Ieee
theorem ints_lit {w : World} {g : Nat} {t : TypeId} {cs : Array Value} (l : List Int) (hb : Box w g t cs) (h : cs = (l.map fun x => Value.int .i64 x).toArray) : IntsAt w 0 (some ⟨g, 0, none⟩) l.length (fun j => l.getD j 0) := fun k hk => by
  refine ⟨g, 0, rfl, Nat.zero_le _, hb.lt, ?_⟩
  rw [Nat.zero_add, hb.at_, h]
  simp [hk]
theorem gaus_lit1 {w : World} {g : Nat} {t : TypeId} {x : Gau} (hb : Box w g t #[.int .i64 x.re, .int .i64 x.im]) : GausAt w 0 (some ⟨g, 0, none⟩) 1 (fun _ => x) := GausAt.one hb
theorem gaus_lit2 {w : World} {g : Nat} {t : TypeId} {x y : Gau} {F : Nat → Gau} (hb : Box w g t #[.int .i64 x.re, .int .i64 x.im, .int .i64 y.re, .int .i64 y.im]) (h0 : F 0 = x) (h1 : F 1 = y) : GausAt w 0 (some ⟨g, 0, none⟩) 2 F := fun k hk => by
  refine ⟨g, 0, rfl, Nat.zero_le _, hb.lt, ?_⟩
  obtain rfl | rfl : k = 0 ∨ k = 1 := by omega
  · rw [h0]; exact ⟨hb.at_ 0, hb.at_ 1⟩
  · rw [h1]; exact ⟨hb.at_ 2, hb.at_ 3⟩
theorem mat_lit2 {w : World} {g g0 g1 q : Nat} {t : TypeId} {F : Nat → Nat → Gau} (hb : Box w g t #[.slice (some ⟨g0, 0, none⟩) q q, .slice (some ⟨g1, 0, none⟩) q q]) (hq : q ≤ 9223372036854775807) (h0 : GausAt w 0 (some ⟨g0, 0, none⟩) q (F 0)) (h1 : GausAt w 0 (some ⟨g1, 0, none⟩) q (F 1)) : MatsAt w 0 (some ⟨g, 0, none⟩) 2 (fun _ => q) F := fun i hi => by
  obtain rfl | rfl : i = 0 ∨ i = 1 := by omega
  · exact ⟨g, 0, _, q, rfl, Nat.zero_le _, hb.lt, hb.at_ 0, Nat.le_refl _, hq, h0⟩
  · exact ⟨g, 0, _, q, rfl, Nat.zero_le _, hb.lt, hb.at_ 1, Nat.le_refl _, hq, h1⟩
def regT (j : Nat) : Int := [0, 1].getD j 0
def regS (j : Nat) : Int := [1, 0, 0].getD j 0
end Go.Proofs.YtcdplfjegopmdaaGreat
/- The document's examples, each one alone. -/
namespace Go.Proofs.YtcdplfjegopmdaaGreat
open Go Go.RowKit Go.Lib Ieee
def exSeq (j : Nat) : Int := [1, 0, 0, 1, 0, 1, 1].getD j 0
def exBits (j : Nat) : Int := [0, 1, 1, 0].getD j 0
def exSoft (j : Nat) : Int := [48, 8, -8, 24].getD j 0
theorem below7 {p : Nat → Prop} (h0 : p 0) (h1 : p 1) (h2 : p 2) (h3 : p 3) (h4 : p 4) (h5 : p 5) (h6 : p 6) : ∀ j, j < 7 → p j := fun j hj => by
  obtain rfl | rfl | rfl | rfl | rfl | rfl | rfl : j = 0 ∨ j = 1 ∨ j = 2 ∨ j = 3 ∨ j = 4 ∨ j = 5 ∨ j = 6 := by omega
  all_goals assumption
theorem below4 {p : Nat → Prop} (h0 : p 0) (h1 : p 1) (h2 : p 2) (h3 : p 3) : ∀ j, j < 4 → p j := fun j hj => by
  obtain rfl | rfl | rfl | rfl : j = 0 ∨ j = 1 ∨ j = 2 ∨ j = 3 := by omega
  all_goals assumption
theorem exSeq_ok : ∀ j, j < 7 → itS 3 2 regT regS j 0 = exSeq j := by decide
theorem seqE_ex : seqE 3 2 regT 3 regS 7 = 0 := by decide
theorem seq_ex (g1 g2 : Nat) (w : World) (hT : IntsAt w 0 (some ⟨g1, 0, none⟩) 2 regT) (hS : IntsAt w 0 (some ⟨g2, 0, none⟩) 3 regS) :
    Calls Tryz.prog 34 #[.agg #[.int .i64 3, .slice (some ⟨g1, 0, none⟩) 2 2, .slice (some ⟨g2, 0, none⟩) 3 3], .int .i64 7] w fun e w' => ∃ g, e = .returned (.tuple #[.slice (some ⟨g, 0, none⟩) 7 7, .int .i64 0]) ∧ IntsAt w' 0 (some ⟨g, 0, none⟩) 7 exSeq ∧ Below w.heap.size w w' := by
  have h := Sequence_any 3 7 (some ⟨g1, 0, none⟩) (some ⟨g2, 0, none⟩) 2 2 3 3 regT regS w (by decide) (by decide) hT hS
  rw [seqE_ex] at h
  refine h.mono fun e w' h2 => ?_
  obtain ⟨v, rfl, hv, -, hb⟩ := h2
  obtain ⟨g, rfl, ho⟩ := hv rfl
  exact ⟨g, rfl, (ho.atG (Nat.zero_le _)).congr fun j hj => exSeq_ok j hj, hb⟩
theorem modE_ex : modE (2 * ((2 : Nat) : Int)) 4 exBits = 0 := by decide
theorem mod_ex (g : Nat) (w : World) (hI : IntsAt w 0 (some ⟨g, 0, none⟩) 4 exBits) :
    Calls Tryz.prog 19 #[.int .i64 4, .slice (some ⟨g, 0, none⟩) 4 4] w fun e w' => ∃ A c, e = .returned (.tuple #[.slice A 1 c, .int .i64 0]) ∧ GausAt w' 0 A 1 (fun _ => ⟨3, -1⟩) ∧ Below w.heap.size w w' := by
  have h := Modulated_right 2 g 1 4 4 exBits w (by decide) (by decide) (by decide) (by decide) (by decide) (by decide) hI modE_ex
  rw [show (2 * ((2 : Nat) : Int)) = 4 from rfl] at h
  refine h.mono fun e w' h2 => ?_
  obtain ⟨v, rfl, ho, hb⟩ := h2
  obtain ⟨A, c, rfl, hc, hG⟩ := ownGaus_form ho
  refine ⟨A, c, rfl, (hG.weak (Nat.zero_le _)).congr fun j hj => ?_, hb⟩
  obtain rfl : j = 0 := by omega
  exact Gau.same (by decide) (by decide)
theorem recvE_ex : recvE (2 * ((2 : Nat) : Int)) 2 1 (fun _ => ⟨5, 1⟩) = 0 := by decide
theorem exSoft_ok : ∀ j, j < 4 → bopF 2 (fun p => softP p 2 2) (fun _ => ⟨5, 1⟩) j = exSoft j := by decide
theorem soft_ex (g : Nat) (w : World) (hI : GausAt w 0 (some ⟨g, 0, none⟩) 1 (fun _ => ⟨5, 1⟩)) :
    Calls Tryz.prog 32 #[.agg #[.int .i64 4, .int .i64 2, .slice (some ⟨g, 0, none⟩) 1 1]] w fun e w' => ∃ A c, e = .returned (.tuple #[.slice A 4 c, .int .i64 0]) ∧ IntsAt w' 0 A 4 exSoft ∧ Below w.heap.size w w' := by
  have h := Soft_right 2 2 (some ⟨g, 0, none⟩) 1 1 (fun _ => ⟨5, 1⟩) w (by decide) (by decide) (by decide) hI recvE_ex
  rw [show (2 * ((2 : Nat) : Int)) = 4 from rfl] at h
  refine h.mono fun e w' h2 => ?_
  obtain ⟨v, rfl, ho, hb⟩ := h2
  obtain ⟨A, c, rfl, hc, hG⟩ := ho.form
  exact ⟨A, c, rfl, (hG.weak (Nat.zero_le _)).congr fun j hj => exSoft_ok j hj, hb⟩
def exM (i k : Nat) : Gau := if i = 0 then if k = 0 then ⟨1, 0⟩ else ⟨0, 1⟩ else if k = 0 then ⟨0, 0⟩ else ⟨2, 0⟩
def exR (i _k : Nat) : Gau := if i = 0 then ⟨2, 1⟩ else ⟨2, 2⟩
def exX (i _k : Nat) : Gau := if i = 0 then ⟨12, 0⟩ else ⟨4, 4⟩
def exE (i k : Nat) : Gau := gsum (eqF 2 exM (detV 2 (fun _ => 2) exM)) exR i k 2
theorem eqE_ex : eqE 2 (fun _ => 2) exM 2 (fun _ => 1) exR = 0 := by decide
theorem eqG_ex : eqG 2 (fun _ => 2) exM 2 (fun _ => 1) exR = 4 := by decide
theorem exX_re : ∀ i, i < 2 → (exE i 0).re = (exX i 0).re := by decide
theorem exX_im : ∀ i, i < 2 → (exE i 0).im = (exX i 0).im := by decide
theorem eq_ex (g h : Nat) (w : World) (hI : MatsAt w 0 (some ⟨g, 0, none⟩) 2 (fun _ => 2) exM) (hJ : MatsAt w 0 (some ⟨h, 0, none⟩) 2 (fun _ => 1) exR) :
    Calls Tryz.prog 26 #[.slice (some ⟨g, 0, none⟩) 2 2, .slice (some ⟨h, 0, none⟩) 2 2] w fun e w' => ∃ q, e = .returned (.tuple #[.slice (some ⟨q, 0, none⟩) 2 2, .int .i64 4, .int .i64 0]) ∧ MatsAt w' 0 (some ⟨q, 0, none⟩) 2 (fun _ => 1) exX ∧ Below w.heap.size w w' := by
  have h := Equalized_any (some ⟨g, 0, none⟩) (some ⟨h, 0, none⟩) 2 2 2 2 (fun _ => 2) (fun _ => 1) exM exR w (by decide) (by decide) (fun _ _ => by decide) (fun _ _ => by decide) hI hJ
  rw [eqE_ex, eqG_ex] at h
  refine h.mono fun e w' h2 => ?_
  obtain ⟨v, rfl, hv, hb⟩ := h2
  obtain ⟨q, rfl, hm⟩ := hv.1 rfl
  refine ⟨q, rfl, fun i hi => ?_, hb⟩
  obtain ⟨b, o, Ai, ci, e1, e2, e3, e4, e5, e6, e7⟩ := hm i hi
  refine ⟨b, o, Ai, ci, e1, Nat.zero_le _, e3, e4, e5, e6, (e7.weak (Nat.zero_le _)).congr fun k hk => ?_⟩
  have hk1 : k < 1 := hk
  obtain rfl : k = 0 := by omega
  exact Gau.same (exX_re i hi) (exX_im i hi)
theorem intsB_self {n : Nat} {F : Nat → Int} : intsB n F n F = true := intsB_iff.2 ⟨rfl, fun _ _ => rfl⟩
end Go.Proofs.YtcdplfjegopmdaaGreat
