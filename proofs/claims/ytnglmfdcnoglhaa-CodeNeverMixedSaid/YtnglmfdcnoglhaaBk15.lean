/- Lemmas: Pk. -/
import Derived.Test.YtnglmfdcnoglhaaBk14
set_option linter.unusedVariables false
set_option linter.unusedSimpArgs false
/- CopyBuffers of the reference: buffers in memory of their own. -/
namespace Go.Proofs.Ytnglmfdcnoglhaa
open Go.RowKit Go.Shelf Go.Lib
/-- Buffers that were copied, one after the other. -/
structure CopI (w : World) (base h0 : Nat) (len : Int) (A : Option Addr) (m cap n : Nat) (T K : Nat → Int) (L : Nat → Nat) (S : Nat → Nat → Int) (W : World) : Prop where
  own : ∃ D c, Box W h0 36 #[.int .i64 len, .slice D n c] ∧ ∃ A C, OwnProcs W base base (.slice D n c) n T K L A C S ∧ ∀ i, i < n → ∀ b o, A i = some ⟨b, o, none⟩ → base ≤ b
  below : Below w.heap.size w W
  arg : Box W w.heap.size 36 #[.int .i64 len, .slice A m cap]
  res : Box W (w.heap.size + 1) 36 #[.int .i64 0, .slice none 0 0]
  b1 : base ≤ W.heap.size
theorem OwnInts.far {w : World} {base n : Nat} {v : Value} {F : Nat → Int} (h : OwnInts w base v n F) : ∃ A c, v = .slice A n c ∧ IntsAt w base A n F ∧ ∀ b o, A = some ⟨b, o, none⟩ → base ≤ b ∧ b < w.heap.size := by
  obtain ⟨A, c, e, -, hI⟩ := h.form
  refine ⟨A, c, e, hI, fun b o eA => ?_⟩
  rcases h.2 with ⟨e2, -⟩ | ⟨g, cap, cur, e2, hb, hg, -⟩
  · rw [e2] at e
    injection e with e1
    rw [eA] at e1
    cases e1
  · rw [e2] at e
    injection e with e1
    rw [eA] at e1
    injection e1 with e1
    injection e1 with e1
    subst e1
    exact ⟨hb, (Array.getElem?_eq_some_iff.1 hg).1⟩
theorem OwnProcs.congr {w : World} {base lo n : Nat} {v : Value} {T K : Nat → Int} {L : Nat → Nat} {A : Nat → Option Addr} {C : Nat → Nat} {S : Nat → Nat → Int} (h : OwnProcs w base lo v n T K L A C S) {T' K' : Nat → Int} {L' : Nat → Nat} {S' : Nat → Nat → Int} (e : ∀ i, i < n → T i = T' i ∧ K i = K' i ∧ L i = L' i ∧ S i = S' i) : OwnProcs w base lo v n T' K' L' A C S' := by
  have e1 : procVals n T K L A C = procVals n T' K' L' A C := List.map_congr_left fun k hk => by
    have hk := List.mem_range.1 hk
    obtain ⟨a, b, c, -⟩ := e (k / 3) (by omega)
    unfold procCell
    rw [a, b, c]
  refine ⟨by rw [← e1]; exact h.1, fun i hi => ?_⟩
  obtain ⟨-, -, c, d⟩ := e i hi
  rw [← c, ← d]
  exact h.2 i hi
/-- The same; and only the slice's own block has turned. -/
theorem step_append_procG {ops : Array Oper} {o : Oper} {a : Act} {Kk : Act → World → Prop} {Q : Exit → Act → World → Prop} {E : Prop} (w : World) (hgd : o.guard = none) (s x : Operand)
    (ho : o.op = .call { callee := .builtin .append, args := #[s, x], argTypes := #[34, 34] })
    (base lo : Nat) (v : Value) (n : Nat) (T K : Nat → Int) (L : Nat → Nat) (A : Nat → Option Addr) (C : Nat → Nat) (S : Nat → Nat → Int) (hs : a.eval s = v) (hown : OwnProcs w base lo v n T K L A C S)
    (g1 : Nat) (t k : Int) (A1 : Option Addr) (l1 c1 : Nat) (S1 : Nat → Int) (hx : a.eval x = .slice (some ⟨g1, 0, none⟩) 1 1) (bx : Box w g1 55 #[.int .i64 t, .int .i64 k, .slice A1 l1 c1])
    (hI : IntsAt w lo A1 l1 S1) (hA : ∀ b o, A1 = some ⟨b, o, none⟩ → v.ownBlock ≠ some b ∧ b < w.heap.size) (hn : n + 1 ≤ 1000000) (hbase : base ≤ w.heap.size)
    (h : ∀ v' w', OwnProcs w' base lo v' (n + 1) (catA n T (fun _ => t)) (catA n K (fun _ => k)) (catA n L (fun _ => l1)) (catA n A (fun _ => A1)) (catA n C (fun _ => c1)) (catA n S (fun _ => S1)) → Below base w w' → w.grownBy w' v.ownBlock → Kk (a.put o.dst v') w') :
    if Region.wanted o (yielded ops a.tmps) = true then Oper.wp Try.prog o a w Kk Q else E := by
  have hw : Region.wanted o (yielded ops a.tmps) = true := by simp [Region.wanted, hgd]
  rw [if_pos hw]
  obtain ⟨v', w', hrun, h1, h2, h3⟩ := run_append_procs w o.type base lo v n T K L A C S hown ⟨g1, 0, none⟩ 1 1 (fun _ => t) (fun _ => k) (fun _ => l1) (fun _ => A1) (fun _ => c1) (fun _ => S1)
    (fun i hi => by
      obtain rfl : i = 0 := by omega
      exact ⟨g1, 0, rfl, bx.at_ 0, bx.at_ 1, bx.at_ 2⟩)
    (fun i _ => ⟨hI, hA⟩) hn hbase
  unfold Oper.wp execOp
  simp only [ho, resolve, invoke, builtin, Sem.run_bind, Sem.run_pure, Result.andThen_ok, List.map_toArray, List.map_cons, List.map_nil, hs, hx, hrun]
  exact h v' w' h1 h2 h3
theorem CopI.step {w wr W w' : World} {base h0 m cap j c' : Nat} {len : Int} {A : Option Addr} {T K : Nat → Int} {L : Nat → Nat} {S : Nat → Nat → Int} {D' : Option Addr} {A' : Nat → Option Addr} {C' : Nat → Nat} (h : CopI w base h0 len A m cap j T K L S wr) (hW : Below wr.heap.size wr W) (h0b : h0 < base) (hws : w.heap.size + 1 < h0)
    (h1 : OwnProcs w' base base (.slice D' (j + 1) c') (j + 1) (catA j T (fun _ => T j)) (catA j K (fun _ => K j)) (catA j L (fun _ => L j)) A' C' (catA j S (fun _ => S j))) (hA' : ∀ i, i < j + 1 → ∀ b o, A' i = some ⟨b, o, none⟩ → base ≤ b) (hb2 : Below base W w') : CopI w base h0 len A m cap (j + 1) T K L S (w'.setCell ⟨h0, 1, none⟩ (.slice D' (j + 1) c')) := by
  have h1 := h1.congr (T' := T) (K' := K) (L' := L) (S' := S) (fun i hi => by
    unfold catA
    by_cases e : i < j
    · rw [if_pos e, if_pos e, if_pos e, if_pos e]; exact ⟨rfl, rfl, rfl, rfl⟩
    · obtain rfl : i = j := by omega
      rw [if_neg e, if_neg e, if_neg e, if_neg e]; exact ⟨rfl, rfl, rfl, rfl⟩)
  obtain ⟨⟨D, c, bb, -⟩, hB, ba, br, hbs⟩ := h
  have bb2 : Box (w'.setCell ⟨h0, 1, none⟩ (.slice D' (j + 1) c')) h0 36 #[.int .i64 len, .slice D' (j + 1) c'] := ((bb.below hW).kept hb2 h0b).set_ 1 (.slice D' (j + 1) c')
  have hown2 := h1.other (k := h0) 1 (.slice D' (j + 1) c') (fun e => by have := (h1.lt e).1; omega) (fun i hi b o e => by have := hA' i hi b o e; omega)
  have s1 := hW.size
  have s2 := hb2.size
  refine ⟨⟨D', c', bb2, _, _, hown2, hA'⟩, ?_, ?_, ?_, ?_⟩
  · exact ((hB.trans (hW.mono hB.size)).trans (hb2.mono (by omega))).setCell (by simp; omega) _
  · exact ((ba.below hW).kept hb2 (by omega)).other (by simp; omega) _
  · exact ((br.below hW).kept hb2 (by omega)).other (by simp; omega) _
  · simp [World.setCell]; omega
set_option maxHeartbeats 2000000 in
set_option maxRecDepth 100000 in
theorem copyBuffers_any (len : Int) (A : Option Addr) (n c : Nat) (T K : Nat → Int) (L : Nat → Nat) (S : Nat → Nat → Int) (w : World) (hn : n ≤ 1000) (hL : ∀ i, i < n → L i ≤ 100000) (hI : ProcsAt w 0 A n T K L S) :
    Calls Try.prog 18 #[.agg #[.int .i64 len, .slice A n c]] w fun r w' => ∃ D c', r = .returned (.agg #[.int .i64 len, .slice D n c']) ∧ ProcsAt w' w.heap.size D n T K L S ∧ Below w.heap.size w w' := by
  have HI := hide hI
  have HL := hide hL
  clear hI hL
  go_enter Try.func18, Try.ntmps18
  go_wp2_with fail
  go_loopw [4, 5] (fun i _ wr => ∃ j : Nat, j ≤ n ∧ i = .int .i64 j ∧ Hid (CopI w (w.heap.size + 3) (w.heap.size + 1 + 1) len A n c j T K L S wr)) (fun i _ _ => n - (intOf i).toNat)
  case atStart => exact ⟨0, Nat.zero_le _, rfl, hide ⟨⟨none, 0, Box.made (by simp), fun _ => none, fun _ => 0, OwnProcs.nil_, fun i h => absurd h (Nat.not_lt_zero i)⟩, by (repeat (first | (with_reducible exact Below.refl _ _) | (with_reducible refine below_drewN ?_ _) | (with_reducible refine Below.drew ?_) | (with_reducible refine Below.alloc ?_ (by first | exact Nat.le_refl _ | (simp; done) | (simp; omega) | omega) _) | (with_reducible refine Below.setCell ?_ (by first | exact Nat.le_refl _ | (simp; done) | (simp; omega) | omega) _))), ((Box.made rfl).alloc _).alloc _, (Box.made (by simp)).alloc _, by simp⟩⟩
  case round =>
    obtain ⟨j, hj, rfl, HG⟩ := hrel
    obtain ⟨⟨D, cD, bb, A0, C0, hown, hA0⟩, hB, ba, br, hbs⟩ := HG.out
    obtain ⟨a0, a1, hla⟩ := bufs_cells ba
    by_cases hlt : j < n
    · have hltz : (j : Int) < (n : Int) := by omega
      obtain ⟨bq, oq, Ai, ci, rfl, -, hbl, hc0, hc1, hc2, hIj⟩ := (HI.out.below hB) j hlt
      have hl9 := HL.out j hlt
      have HO := hide (fun W' (h : Below wr.heap.size wr W') => hown.below h)
      have HA0 := hide hA0
      have HIJ := hide hIj
      have HBB := hide bb
      have hbs2 := hbs
      clear hown bb br hB ba hA0 hIj
      go_upto_region 6 with fail
      obtain ⟨w1, hw1⟩ : ∃ x : World, x = wr.alloc (.cells #[.int .i64 (T j), .int .i64 (K j), .slice Ai (L j) ci] 55) := ⟨_, rfl⟩
      rw [← hw1]
      have bp : Box w1 wr.heap.size 55 #[.int .i64 (T j), .int .i64 (K j), .slice Ai (L j) ci] := by rw [hw1]; exact Box.made rfl
      have hb1 : Below wr.heap.size wr w1 := by rw [hw1]; exact (Below.refl _ _).alloc (Nat.le_refl _) _
      have bb1 := HBB.out.below hb1
      have HIW := hide (HIJ.out.below hb1)
      have hs1 := hb1.size
      clear hw1 a0 a1 hla hbl hc0 hc1 hc2
      obtain ⟨z0, z1, hlz⟩ := bufs_cells bb1
      obtain ⟨p0, p1, p2, hlp⟩ := proc_cells bp
      have SOF := hide (fun W' (h : Below w1.heap.size w1 W') => (⟨(h.cell (p := ⟨wr.heap.size, 0, none⟩) hlp).trans p0, (h.cell (p := ⟨wr.heap.size, 1, none⟩) hlp).trans p1, (h.cell (p := ⟨wr.heap.size, 2, none⟩) hlp).trans p2⟩ : (W'.cell? ⟨wr.heap.size, 0, none⟩ = some (.int .i64 (T j)) ∧ W'.cell? ⟨wr.heap.size, 1, none⟩ = some (.int .i64 (K j)) ∧ W'.cell? ⟨wr.heap.size, 2, none⟩ = some (.slice Ai (L j) ci))))
      have HHD := hide (fun W' (h : Below w1.heap.size w1 W') => (⟨(h.cell (p := ⟨w.heap.size + 1 + 1, 1, none⟩) hlz).trans z1, (h.frozen (p := ⟨w.heap.size + 1 + 1, 1, none⟩) hlz).trans (bb1.free 1)⟩ : W'.cell? ⟨w.heap.size + 1 + 1, 1, none⟩ = some (.slice D j cD) ∧ W'.frozen? ⟨w.heap.size + 1 + 1, 1, none⟩ = false))
      have HHK := hide (fun W W' (h : Below w1.heap.size w1 W) (h' : Below (w.heap.size + 3) W W') => (⟨((bb1.below h).kept h' (by omega)).at_ 1, ((bb1.below h).kept h' (by omega)).free 1⟩ : W'.cell? ⟨w.heap.size + 1 + 1, 1, none⟩ = some (.slice D j cD) ∧ W'.frozen? ⟨w.heap.size + 1 + 1, 1, none⟩ = false))
      have bb0 : Below w1.heap.size w1 w1 := Below.refl _ _
      have bd0 : Below w1.heap.size w1 w1.drew := bb0.drew
      clear p0 p1 p2 z0 z1
      refine wp_region_held_drew (S := fun w' => (w'.cell? ⟨wr.heap.size, 0, none⟩ = some (.int .i64 (T j)) ∧ w'.cell? ⟨wr.heap.size, 1, none⟩ = some (.int .i64 (K j)) ∧ w'.cell? ⟨wr.heap.size, 2, none⟩ = some (.slice Ai (L j) ci))) (by kernel_rfl) (SOF.out _ bd0) (fun hHeld => ?_)
      refine wpAnyH_take (i := 0) (oi := ⟨some 21, _, _, _, _, _⟩) (v := ?_) rfl (by kernel_rfl) (by kernel_rfl) (by kernel_rfl) (fun _ _ _ h => h) (Or.inl ⟨by rfl, ?_⟩) (by assumption) ?_
      rotate_left
      · (intro w' hSw; (try dsimp only at hSw); go_simp <;> (with_reducible rfl))
      try simp only [Act.put, List.setIfInBounds_toArray, List.set_cons_zero, List.set_cons_succ]
      refine wpAnyH_take (i := 2) (oi := ⟨some 23, _, _, _, _, _⟩) (v := ?_) rfl (by kernel_rfl) (by kernel_rfl) (by kernel_rfl) (fun _ _ _ h => h) (Or.inl ⟨by rfl, ?_⟩) (by assumption) ?_
      rotate_left
      · (intro w' hSw; (try dsimp only at hSw); go_simp <;> (with_reducible rfl))
      try simp only [Act.put, List.setIfInBounds_toArray, List.set_cons_zero, List.set_cons_succ]
      refine wpAnyH_take (i := 3) (oi := ⟨some 24, _, _, _, _, _⟩) (v := ?_) rfl (by kernel_rfl) (by kernel_rfl) (by kernel_rfl) (fun _ _ _ h => h) (Or.inl ⟨by rfl, ?_⟩) (by assumption) ?_
      rotate_left
      · (intro w' hSw; (try dsimp only at hSw); go_simp <;> (with_reducible rfl))
      try simp only [Act.put, List.setIfInBounds_toArray, List.set_cons_zero, List.set_cons_succ]
      refine wpAnyH_take (i := 4) (oi := ⟨some 25, _, _, _, _, _⟩) (v := ?_) rfl (by kernel_rfl) (by kernel_rfl) (by kernel_rfl) (fun _ _ _ h => h) (Or.inl ⟨by rfl, ?_⟩) (by assumption) ?_
      rotate_left
      · (intro w' hSw; (try dsimp only at hSw); go_simp <;> (with_reducible rfl))
      try simp only [Act.put, List.setIfInBounds_toArray, List.set_cons_zero, List.set_cons_succ]
      refine wpAnyH_take (i := 5) (oi := ⟨some 26, _, _, _, _, _⟩) (v := ?_) rfl (by kernel_rfl) (by kernel_rfl) (by kernel_rfl) (fun _ _ _ h => h) (Or.inl ⟨by rfl, ?_⟩) (by assumption) ?_
      rotate_left
      · (intro w' hSw; (try dsimp only at hSw); go_simp <;> (with_reducible rfl))
      try simp only [Act.put, List.setIfInBounds_toArray, List.set_cons_zero, List.set_cons_succ]
      refine wpAnyH_take (i := 6) (oi := ⟨some 27, _, _, _, _, _⟩) (v := ?_) rfl (by kernel_rfl) (by kernel_rfl) (by kernel_rfl) (fun _ _ _ h => h) (Or.inl ⟨by rfl, ?_⟩) (by assumption) ?_
      rotate_left
      · (intro w' hSw; (try dsimp only at hSw); go_simp <;> (with_reducible rfl))
      try simp only [Act.put, List.setIfInBounds_toArray, List.set_cons_zero, List.set_cons_succ]
      refine wpAnyH_take (i := 7) (oi := ⟨some 28, _, _, _, _, _⟩) (v := ?_) rfl (by kernel_rfl) (by kernel_rfl) (by kernel_rfl) (fun _ _ _ h => h) (Or.inl ⟨by rfl, ?_⟩) (by assumption) ?_
      rotate_left
      · (intro w' hSw; (try dsimp only at hSw); go_simp <;> (with_reducible rfl))
      try simp only [Act.put, List.setIfInBounds_toArray, List.set_cons_zero, List.set_cons_succ]
      have hlz2 := hlz
      have hlp2 := hlp
      have hwr3 : w.heap.size + 3 ≤ wr.heap.size := hbs2
      refine wpAnyH_ready (rs := [1, 8]) (by kernel_rfl) (by simp) ?_
      refine AllReadyH.cons (o := ⟨some 22, _, _, _, _, _⟩) rfl (fun K' hK => ?_) (AllReadyH.cons (o := ⟨some 29, _, _, _, _, _⟩) rfl (fun K' hK => ?_) AllReadyH.nil)
      · skip
        have HD := HHD.out _ bd0
        obtain ⟨hd1, hd2⟩ := HD
        go_simp
        refine hK.out _ _ (SOF.out _ bd0) (fun hHeld => ?_)
        clear hK K' hd1 hd2
        try simp only [Act.put, List.setIfInBounds_toArray, List.set_cons_zero, List.set_cons_succ]
        refine wpAnyH_ready (rs := [8]) (by kernel_rfl) (by simp) ?_
        refine AllReadyH.cons (o := ⟨some 29, _, _, _, _, _⟩) rfl (fun K' hK => ?_) AllReadyH.nil
        go_simp
        go_at_call 15
        refine (copyInts_own Ai (L j) ci (S j) _ (by omega) (HIW.out.below bd0)).mono ?_
        rintro r w2 ⟨v2, rfl, hown2, hb2⟩
        obtain ⟨A2, c2, rfl, hI2, hf2⟩ := hown2.far
        have hb12 : Below w1.heap.size w1 w2 := bd0.trans (hb2.mono (bd0).size)
        have hs2 := hb2.size
        go_wp2_with fail
        refine hK.out _ _ (SOF.out _ hb12) (fun hHeld => ?_)
        clear hK K'
        try simp only [Act.put, List.setIfInBounds_toArray, List.set_cons_zero, List.set_cons_succ]
        refine wpAnyH_take (i := 9) (oi := ⟨some 30, _, _, _, _, _⟩) (v := ?_) rfl (by kernel_rfl) (by kernel_rfl) (by kernel_rfl) (fun _ _ _ h => h) (Or.inl ⟨by rfl, ?_⟩) (by assumption) ?_
        rotate_left
        · (intro w' hSw; (try dsimp only at hSw); go_simp <;> (with_reducible rfl))
        try simp only [Act.put, List.setIfInBounds_toArray, List.set_cons_zero, List.set_cons_succ]
        refine wpAnyH_ready (rs := [10]) (by kernel_rfl) (by simp) ?_
        refine AllReadyH.cons (o := ⟨some 31, _, _, _, _, _⟩) rfl (fun K' hK => ?_) AllReadyH.nil
        go_simp
        refine hK.out _ _ (SOF.out _ (ballocH hb12 (Nat.le_refl _) (.cells #[.int .i64 (T j), .int .i64 (K j), .slice A2 (L j) c2] 55))) (fun hHeld => ?_)
        clear hK K'
        try simp only [Act.put, List.setIfInBounds_toArray, List.set_cons_zero, List.set_cons_succ]
        refine wpAnyH_ready (rs := [11]) (by kernel_rfl) (by simp) ?_
        refine AllReadyH.cons (o := ⟨some 32, _, _, _, _, _⟩) rfl (fun K' hK => ?_) AllReadyH.nil
        have hbW : Below w1.heap.size w1 (w2.alloc (.cells #[.int .i64 (T j), .int .i64 (K j), .slice A2 (L j) c2] 55)) := ballocH hb12 (Nat.le_refl _) (.cells #[.int .i64 (T j), .int .i64 (K j), .slice A2 (L j) c2] 55)
        have HOX := hide (HO.out _ (hb1.trans (hbW.mono hs1)))
        have HI2 := hide ((hI2.weak (show w.heap.size + 3 ≤ _ by first | (simp; omega) | omega)).alloc (.cells #[.int .i64 (T j), .int .i64 (K j), .slice A2 (L j) c2] 55))
        have HA2 := hide (fun b o (e : A2 = some ⟨b, o, none⟩) => (⟨fun e2 => by have h2 := (HO.out _ (Below.refl _ _)).lt e2; have h3 := (hf2 b o e).1; have h4 := hlp; have h5 : w1.heap.size ≤ b := (by first | exact h3 | (simp at h3; omega)); omega, by have := (hf2 b o e).2; simp; omega⟩ : (Value.slice D j cD).ownBlock ≠ some b ∧ b < (w2.alloc (.cells #[.int .i64 (T j), .int .i64 (K j), .slice A2 (L j) c2] 55)).heap.size))
        have HA9 := hide (fun b o (e : A2 = some ⟨b, o, none⟩) => (by have h3 := (hf2 b o e).1; have h5 : w1.heap.size ≤ b := (by first | exact h3 | (simp at h3; omega)); omega : w.heap.size + 3 ≤ b))
        refine step_append_procG _ rfl (.tmp 22) (.tmp 31) rfl (w.heap.size + 3) (w.heap.size + 3) (.slice D j cD) j T K L A0 C0 S (by first | rfl | simp [Act.eval, Act.put]) HOX.out _ (T j) (K j) A2 (L j) c2 (S j) (by first | rfl | simp [Act.eval, Act.put]) (Box.made (by simp)) HI2.out HA2.out (by omega) (by have := hbW.size; omega) ?_
        intro v' w' h1 hb3 hg3
        obtain ⟨D', c', rfl, -, -, -⟩ := h1.form (Nat.le_refl _)
        obtain ⟨hk1, hk2⟩ := HHK.out _ _ hbW hb3
        have hSW : (w'.cell? ⟨wr.heap.size, 0, none⟩ = some (.int .i64 (T j)) ∧ w'.cell? ⟨wr.heap.size, 1, none⟩ = some (.int .i64 (K j)) ∧ w'.cell? ⟨wr.heap.size, 2, none⟩ = some (.slice Ai (L j) ci)) := by
          have hne : some wr.heap.size ≠ (Value.slice D j cD).ownBlock := fun e => by have h2 := (HO.out _ (Below.refl _ _)).lt e.symm; omega
          have hk := fun o => (World.cell?_of_block (a := ⟨wr.heap.size, o, none⟩) (hg3.block wr.heap.size (Nat.lt_of_lt_of_le hlp hbW.size) hne))
          obtain ⟨s0, s1, s2⟩ := SOF.out _ hbW
          exact ⟨(hk 0).trans s0, (hk 1).trans s1, (hk 2).trans s2⟩
        have HN := hide (HG.out.step (hb1.trans (hbW.mono hs1)) (Nat.lt_succ_self _) (by omega) h1 (fun i hi b o e => by
          unfold catA at e
          by_cases h : i < j
          · rw [if_pos h] at e; exact HA0.out i h b o e
          · rw [if_neg h] at e; exact HA9.out b o e) hb3)
        refine hK.out _ _ hSW (fun hHeld => ?_)
        clear hK K' hSW h1 hb3 hg3
        try simp only [Act.put, List.setIfInBounds_toArray, List.set_cons_zero, List.set_cons_succ]
        refine wpAnyH_take (i := 12) (oi := ⟨some 33, _, _, _, _, _⟩) (v := ?_) rfl (by kernel_rfl) (by kernel_rfl) (by kernel_rfl) (fun _ _ _ h => h) (Or.inl ⟨by rfl, ?_⟩) (by assumption) ?_
        rotate_left
        · (intro w' hSw; (try dsimp only at hSw); go_simp <;> (with_reducible rfl))
        try simp only [Act.put, List.setIfInBounds_toArray, List.set_cons_zero, List.set_cons_succ]
        refine wpAnyH_ready (rs := [13]) (by kernel_rfl) (by simp) ?_
        refine AllReadyH.cons (o := ⟨none, _, _, _, _, _⟩) rfl (fun K' hK => ?_) AllReadyH.nil
        go_simp
        refine hK.out _ _ ?hz (fun hHeld => ?_)
        case hz => exact ⟨(World.cell?_setCell_other _ _ ⟨wr.heap.size, 0, none⟩ _ (fun e => by injection e with e; omega)).trans hHeld.1, (World.cell?_setCell_other _ _ ⟨wr.heap.size, 1, none⟩ _ (fun e => by injection e with e; omega)).trans hHeld.2.1, (World.cell?_setCell_other _ _ ⟨wr.heap.size, 2, none⟩ _ (fun e => by injection e with e; omega)).trans hHeld.2.2⟩
        clear hK K' hk1 hk2
        try simp only [Act.put, List.setIfInBounds_toArray, List.set_cons_zero, List.set_cons_succ]
        refine wpAnyH_done (by kernel_rfl) ?_ _
        go_wp2_with fail
        go_roundw
        case rel => exact ⟨j + 1, by omega, by go_num, HN⟩
        case measure => simp [intOf]; omega
      · skip
        go_simp
        go_at_call 15
        refine (copyInts_own Ai (L j) ci (S j) _ (by omega) (HIW.out.below bd0)).mono ?_
        rintro r w2 ⟨v2, rfl, hown2, hb2⟩
        obtain ⟨A2, c2, rfl, hI2, hf2⟩ := hown2.far
        have hb12 : Below w1.heap.size w1 w2 := bd0.trans (hb2.mono (bd0).size)
        have hs2 := hb2.size
        go_wp2_with fail
        refine hK.out _ _ (SOF.out _ hb12) (fun hHeld => ?_)
        clear hK K'
        try simp only [Act.put, List.setIfInBounds_toArray, List.set_cons_zero, List.set_cons_succ]
        refine wpAnyH_take (i := 9) (oi := ⟨some 30, _, _, _, _, _⟩) (v := ?_) rfl (by kernel_rfl) (by kernel_rfl) (by kernel_rfl) (fun _ _ _ h => h) (Or.inl ⟨by rfl, ?_⟩) (by assumption) ?_
        rotate_left
        · (intro w' hSw; (try dsimp only at hSw); go_simp <;> (with_reducible rfl))
        try simp only [Act.put, List.setIfInBounds_toArray, List.set_cons_zero, List.set_cons_succ]
        refine wpAnyH_ready (rs := [1, 10]) (by kernel_rfl) (by simp) ?_
        refine AllReadyH.cons (o := ⟨some 22, _, _, _, _, _⟩) rfl (fun K' hK => ?_) (AllReadyH.cons (o := ⟨some 31, _, _, _, _, _⟩) rfl (fun K' hK => ?_) AllReadyH.nil)
        · skip
          have HD := HHD.out _ hb12
          obtain ⟨hd1, hd2⟩ := HD
          go_simp
          refine hK.out _ _ (SOF.out _ hb12) (fun hHeld => ?_)
          clear hK K' hd1 hd2
          try simp only [Act.put, List.setIfInBounds_toArray, List.set_cons_zero, List.set_cons_succ]
          refine wpAnyH_ready (rs := [10]) (by kernel_rfl) (by simp) ?_
          refine AllReadyH.cons (o := ⟨some 31, _, _, _, _, _⟩) rfl (fun K' hK => ?_) AllReadyH.nil
          go_simp
          refine hK.out _ _ (SOF.out _ (ballocH hb12 (Nat.le_refl _) (.cells #[.int .i64 (T j), .int .i64 (K j), .slice A2 (L j) c2] 55))) (fun hHeld => ?_)
          clear hK K'
          try simp only [Act.put, List.setIfInBounds_toArray, List.set_cons_zero, List.set_cons_succ]
          refine wpAnyH_ready (rs := [11]) (by kernel_rfl) (by simp) ?_
          refine AllReadyH.cons (o := ⟨some 32, _, _, _, _, _⟩) rfl (fun K' hK => ?_) AllReadyH.nil
          have hbW : Below w1.heap.size w1 (w2.alloc (.cells #[.int .i64 (T j), .int .i64 (K j), .slice A2 (L j) c2] 55)) := ballocH hb12 (Nat.le_refl _) (.cells #[.int .i64 (T j), .int .i64 (K j), .slice A2 (L j) c2] 55)
          have HOX := hide (HO.out _ (hb1.trans (hbW.mono hs1)))
          have HI2 := hide ((hI2.weak (show w.heap.size + 3 ≤ _ by first | (simp; omega) | omega)).alloc (.cells #[.int .i64 (T j), .int .i64 (K j), .slice A2 (L j) c2] 55))
          have HA2 := hide (fun b o (e : A2 = some ⟨b, o, none⟩) => (⟨fun e2 => by have h2 := (HO.out _ (Below.refl _ _)).lt e2; have h3 := (hf2 b o e).1; have h4 := hlp; have h5 : w1.heap.size ≤ b := (by first | exact h3 | (simp at h3; omega)); omega, by have := (hf2 b o e).2; simp; omega⟩ : (Value.slice D j cD).ownBlock ≠ some b ∧ b < (w2.alloc (.cells #[.int .i64 (T j), .int .i64 (K j), .slice A2 (L j) c2] 55)).heap.size))
          have HA9 := hide (fun b o (e : A2 = some ⟨b, o, none⟩) => (by have h3 := (hf2 b o e).1; have h5 : w1.heap.size ≤ b := (by first | exact h3 | (simp at h3; omega)); omega : w.heap.size + 3 ≤ b))
          refine step_append_procG _ rfl (.tmp 22) (.tmp 31) rfl (w.heap.size + 3) (w.heap.size + 3) (.slice D j cD) j T K L A0 C0 S (by first | rfl | simp [Act.eval, Act.put]) HOX.out _ (T j) (K j) A2 (L j) c2 (S j) (by first | rfl | simp [Act.eval, Act.put]) (Box.made (by simp)) HI2.out HA2.out (by omega) (by have := hbW.size; omega) ?_
          intro v' w' h1 hb3 hg3
          obtain ⟨D', c', rfl, -, -, -⟩ := h1.form (Nat.le_refl _)
          obtain ⟨hk1, hk2⟩ := HHK.out _ _ hbW hb3
          have hSW : (w'.cell? ⟨wr.heap.size, 0, none⟩ = some (.int .i64 (T j)) ∧ w'.cell? ⟨wr.heap.size, 1, none⟩ = some (.int .i64 (K j)) ∧ w'.cell? ⟨wr.heap.size, 2, none⟩ = some (.slice Ai (L j) ci)) := by
            have hne : some wr.heap.size ≠ (Value.slice D j cD).ownBlock := fun e => by have h2 := (HO.out _ (Below.refl _ _)).lt e.symm; omega
            have hk := fun o => (World.cell?_of_block (a := ⟨wr.heap.size, o, none⟩) (hg3.block wr.heap.size (Nat.lt_of_lt_of_le hlp hbW.size) hne))
            obtain ⟨s0, s1, s2⟩ := SOF.out _ hbW
            exact ⟨(hk 0).trans s0, (hk 1).trans s1, (hk 2).trans s2⟩
          have HN := hide (HG.out.step (hb1.trans (hbW.mono hs1)) (Nat.lt_succ_self _) (by omega) h1 (fun i hi b o e => by
            unfold catA at e
            by_cases h : i < j
            · rw [if_pos h] at e; exact HA0.out i h b o e
            · rw [if_neg h] at e; exact HA9.out b o e) hb3)
          refine hK.out _ _ hSW (fun hHeld => ?_)
          clear hK K' hSW h1 hb3 hg3
          try simp only [Act.put, List.setIfInBounds_toArray, List.set_cons_zero, List.set_cons_succ]
          refine wpAnyH_take (i := 12) (oi := ⟨some 33, _, _, _, _, _⟩) (v := ?_) rfl (by kernel_rfl) (by kernel_rfl) (by kernel_rfl) (fun _ _ _ h => h) (Or.inl ⟨by rfl, ?_⟩) (by assumption) ?_
          rotate_left
          · (intro w' hSw; (try dsimp only at hSw); go_simp <;> (with_reducible rfl))
          try simp only [Act.put, List.setIfInBounds_toArray, List.set_cons_zero, List.set_cons_succ]
          refine wpAnyH_ready (rs := [13]) (by kernel_rfl) (by simp) ?_
          refine AllReadyH.cons (o := ⟨none, _, _, _, _, _⟩) rfl (fun K' hK => ?_) AllReadyH.nil
          go_simp
          refine hK.out _ _ ?hz (fun hHeld => ?_)
          case hz => exact ⟨(World.cell?_setCell_other _ _ ⟨wr.heap.size, 0, none⟩ _ (fun e => by injection e with e; omega)).trans hHeld.1, (World.cell?_setCell_other _ _ ⟨wr.heap.size, 1, none⟩ _ (fun e => by injection e with e; omega)).trans hHeld.2.1, (World.cell?_setCell_other _ _ ⟨wr.heap.size, 2, none⟩ _ (fun e => by injection e with e; omega)).trans hHeld.2.2⟩
          clear hK K' hk1 hk2
          try simp only [Act.put, List.setIfInBounds_toArray, List.set_cons_zero, List.set_cons_succ]
          refine wpAnyH_done (by kernel_rfl) ?_ _
          go_wp2_with fail
          go_roundw
          case rel => exact ⟨j + 1, by omega, by go_num, HN⟩
          case measure => simp [intOf]; omega
        · skip
          go_simp
          refine hK.out _ _ (SOF.out _ (ballocH hb12 (Nat.le_refl _) (.cells #[.int .i64 (T j), .int .i64 (K j), .slice A2 (L j) c2] 55))) (fun hHeld => ?_)
          clear hK K'
          try simp only [Act.put, List.setIfInBounds_toArray, List.set_cons_zero, List.set_cons_succ]
          refine wpAnyH_ready (rs := [1]) (by kernel_rfl) (by simp) ?_
          refine AllReadyH.cons (o := ⟨some 22, _, _, _, _, _⟩) rfl (fun K' hK => ?_) AllReadyH.nil
          have HD := HHD.out _ (ballocH hb12 (Nat.le_refl _) (.cells #[.int .i64 (T j), .int .i64 (K j), .slice A2 (L j) c2] 55))
          obtain ⟨hd1, hd2⟩ := HD
          go_simp
          refine hK.out _ _ (SOF.out _ (ballocH hb12 (Nat.le_refl _) (.cells #[.int .i64 (T j), .int .i64 (K j), .slice A2 (L j) c2] 55))) (fun hHeld => ?_)
          clear hK K' hd1 hd2
          try simp only [Act.put, List.setIfInBounds_toArray, List.set_cons_zero, List.set_cons_succ]
          refine wpAnyH_ready (rs := [11]) (by kernel_rfl) (by simp) ?_
          refine AllReadyH.cons (o := ⟨some 32, _, _, _, _, _⟩) rfl (fun K' hK => ?_) AllReadyH.nil
          have hbW : Below w1.heap.size w1 (w2.alloc (.cells #[.int .i64 (T j), .int .i64 (K j), .slice A2 (L j) c2] 55)) := ballocH hb12 (Nat.le_refl _) (.cells #[.int .i64 (T j), .int .i64 (K j), .slice A2 (L j) c2] 55)
          have HOX := hide (HO.out _ (hb1.trans (hbW.mono hs1)))
          have HI2 := hide ((hI2.weak (show w.heap.size + 3 ≤ _ by first | (simp; omega) | omega)).alloc (.cells #[.int .i64 (T j), .int .i64 (K j), .slice A2 (L j) c2] 55))
          have HA2 := hide (fun b o (e : A2 = some ⟨b, o, none⟩) => (⟨fun e2 => by have h2 := (HO.out _ (Below.refl _ _)).lt e2; have h3 := (hf2 b o e).1; have h4 := hlp; have h5 : w1.heap.size ≤ b := (by first | exact h3 | (simp at h3; omega)); omega, by have := (hf2 b o e).2; simp; omega⟩ : (Value.slice D j cD).ownBlock ≠ some b ∧ b < (w2.alloc (.cells #[.int .i64 (T j), .int .i64 (K j), .slice A2 (L j) c2] 55)).heap.size))
          have HA9 := hide (fun b o (e : A2 = some ⟨b, o, none⟩) => (by have h3 := (hf2 b o e).1; have h5 : w1.heap.size ≤ b := (by first | exact h3 | (simp at h3; omega)); omega : w.heap.size + 3 ≤ b))
          refine step_append_procG _ rfl (.tmp 22) (.tmp 31) rfl (w.heap.size + 3) (w.heap.size + 3) (.slice D j cD) j T K L A0 C0 S (by first | rfl | simp [Act.eval, Act.put]) HOX.out _ (T j) (K j) A2 (L j) c2 (S j) (by first | rfl | simp [Act.eval, Act.put]) (Box.made (by simp)) HI2.out HA2.out (by omega) (by have := hbW.size; omega) ?_
          intro v' w' h1 hb3 hg3
          obtain ⟨D', c', rfl, -, -, -⟩ := h1.form (Nat.le_refl _)
          obtain ⟨hk1, hk2⟩ := HHK.out _ _ hbW hb3
          have hSW : (w'.cell? ⟨wr.heap.size, 0, none⟩ = some (.int .i64 (T j)) ∧ w'.cell? ⟨wr.heap.size, 1, none⟩ = some (.int .i64 (K j)) ∧ w'.cell? ⟨wr.heap.size, 2, none⟩ = some (.slice Ai (L j) ci)) := by
            have hne : some wr.heap.size ≠ (Value.slice D j cD).ownBlock := fun e => by have h2 := (HO.out _ (Below.refl _ _)).lt e.symm; omega
            have hk := fun o => (World.cell?_of_block (a := ⟨wr.heap.size, o, none⟩) (hg3.block wr.heap.size (Nat.lt_of_lt_of_le hlp hbW.size) hne))
            obtain ⟨s0, s1, s2⟩ := SOF.out _ hbW
            exact ⟨(hk 0).trans s0, (hk 1).trans s1, (hk 2).trans s2⟩
          have HN := hide (HG.out.step (hb1.trans (hbW.mono hs1)) (Nat.lt_succ_self _) (by omega) h1 (fun i hi b o e => by
            unfold catA at e
            by_cases h : i < j
            · rw [if_pos h] at e; exact HA0.out i h b o e
            · rw [if_neg h] at e; exact HA9.out b o e) hb3)
          refine hK.out _ _ hSW (fun hHeld => ?_)
          clear hK K' hSW h1 hb3 hg3
          try simp only [Act.put, List.setIfInBounds_toArray, List.set_cons_zero, List.set_cons_succ]
          refine wpAnyH_take (i := 12) (oi := ⟨some 33, _, _, _, _, _⟩) (v := ?_) rfl (by kernel_rfl) (by kernel_rfl) (by kernel_rfl) (fun _ _ _ h => h) (Or.inl ⟨by rfl, ?_⟩) (by assumption) ?_
          rotate_left
          · (intro w' hSw; (try dsimp only at hSw); go_simp <;> (with_reducible rfl))
          try simp only [Act.put, List.setIfInBounds_toArray, List.set_cons_zero, List.set_cons_succ]
          refine wpAnyH_ready (rs := [13]) (by kernel_rfl) (by simp) ?_
          refine AllReadyH.cons (o := ⟨none, _, _, _, _, _⟩) rfl (fun K' hK => ?_) AllReadyH.nil
          go_simp
          refine hK.out _ _ ?hz (fun hHeld => ?_)
          case hz => exact ⟨(World.cell?_setCell_other _ _ ⟨wr.heap.size, 0, none⟩ _ (fun e => by injection e with e; omega)).trans hHeld.1, (World.cell?_setCell_other _ _ ⟨wr.heap.size, 1, none⟩ _ (fun e => by injection e with e; omega)).trans hHeld.2.1, (World.cell?_setCell_other _ _ ⟨wr.heap.size, 2, none⟩ _ (fun e => by injection e with e; omega)).trans hHeld.2.2⟩
          clear hK K' hk1 hk2
          try simp only [Act.put, List.setIfInBounds_toArray, List.set_cons_zero, List.set_cons_succ]
          refine wpAnyH_done (by kernel_rfl) ?_ _
          go_wp2_with fail
          go_roundw
          case rel => exact ⟨j + 1, by omega, by go_num, HN⟩
          case measure => simp [intOf]; omega
    · obtain rfl : j = n := by omega
      have fr0 := br.free 0
      have fr1 := br.free 1
      obtain ⟨r0, r1, hlr⟩ := bufs_cells br
      obtain ⟨z0, z1, hlz⟩ := bufs_cells bb
      have HR := hide br
      have HOW := hide ((hown.other (k := w.heap.size + 1) 0 (.int .i64 len) (fun e => by have := (hown.lt e).1; omega) (fun i hi b o e => by have := hA0 i hi b o e; omega)).other (k := w.heap.size + 1) 1 (.slice D j cD) (fun e => by have := (hown.lt e).1; omega) (fun i hi b o e => by have := hA0 i hi b o e; omega))
      have HB := hide hB
      clear hown hB bb br ba hA0
      go_wp2_with fail
      refine bodyPost_ret (v := .agg #[.int .i64 len, .slice D j cD]) ?_ rfl ⟨D, cD, rfl, ?_, ?_⟩
      · have hz := (HR.out.set_ 0 (.int .i64 len)).set_ 1 (.slice D j cD)
        have z0 := hz.at_ 0
        have z1 := hz.at_ 1
        simp at z0 z1
        simp [results, Try.results18, go_sem, z0, z1]
      · obtain ⟨D1, c1, e1, -, -, hP⟩ := HOW.out.form (Nat.le_refl _)
        injection e1 with e1 e2 e3
        subst e1
        exact hP.at_.weak (by omega)
      · exact (HB.out.setCell (by simp) _).setCell (by simp) _
end Go.Proofs.Ytnglmfdcnoglhaa
