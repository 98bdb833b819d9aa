/- Lemmas: S33, S34. -/
import Derived.Test.YtcdplfjegopmdaaGreatBk17
set_option linter.unusedVariables false
set_option linter.unusedSimpArgs false
/- bitsOfParts and Soft of the code. -/
namespace Go.Proofs.YtcdplfjegopmdaaGreat
open Go.RowKit Go.Lib
set_option maxRecDepth 100000 in
theorem step_append_twoI {ops : Array Oper} {o : Oper} {a : Act} {K : Act → World → Prop} {Q : Exit → Act → World → Prop} {E : Prop} (w : World) (hgd : o.guard = none) (s x : Operand)
    (ho : o.op = .call { callee := .builtin .append, args := #[s, x], argTypes := #[24, 24] })
    (base lo : Nat) (v : Value) (n : Nat) (F : Nat → Int) (hs : a.eval s = v) (hown : OwnInts w base v n F)
    (g m c : Nat) (G : Nat → Int) (hx : a.eval x = .slice (some ⟨g, 0, none⟩) m c) (hr : IntsAt w lo (some ⟨g, 0, none⟩) m G) (hnm : n + m ≤ 1000000000) (hbase : base ≤ w.heap.size)
    (h : ∀ v' w', OwnInts w' base v' (n + m) (catF n F G) → w.grownBy w' v.ownBlock → (v'.ownBlock = v.ownBlock ∨ v'.ownBlock = some w.heap.size) → K (a.put o.dst v') w') :
    if Region.wanted o (yielded ops a.tmps) = true then Oper.wp Tryz.prog o a w K Q else E := by
  have hw : Region.wanted o (yielded ops a.tmps) = true := by simp [Region.wanted, hgd]
  rw [if_pos hw]
  obtain ⟨i0, hi, hz0, hz1, hz2⟩ := info_parts intInfo
  obtain ⟨v', w', hrun, hown', hg, -, hblk⟩ := run_append_own_at (P := Tryz.prog) w base 24 o.type 3 i0 (.int .i64 0) 1 8 Tryz.underlying24 hi hz0 hz1 hz2 rfl (by decide) v n _ hown ⟨g, 0, none⟩ m c (intCells m G) (by rw [intCells_len, Nat.mul_one])
      (fun j u hu => by
        rw [intCells_get] at hu
        split at hu
        · rename_i hj
          obtain ⟨b, o, e, -, -, hc⟩ := hr j hj
          injection e with e
          injection e with e1 e2
          subst e1; subst e2
          injection hu with hu
          subst hu
          rw [Addr.add_lit]
          exact hc
        · cases hu)
      (fun u hu => by
        obtain ⟨j, -, rfl⟩ := List.mem_map.1 hu
        rfl) (by unfold maxLen; omega) (by omega) hbase
  rw [intCells_cat] at hown'
  unfold Oper.wp execOp
  simp only [ho, resolve, invoke, builtin, Sem.run_bind, Sem.run_pure, Result.andThen_ok, List.map_toArray, List.map_cons, List.map_nil, hs, hx, hrun]
  exact h v' w' hown' hg hblk
/-- The bits of all parts, c of each; those of the two parts of a symbol take turns. -/
def bopF (c : Nat) (B : Int → Nat → Int) (F : Nat → Gau) (i : Nat) : Int := B ((F (i / (2 * c))).part (i % (2 * c) % 2)) (i % (2 * c) / 2)
theorem bopF_at {c : Nat} (B : Int → Nat → Int) (F : Nat → Gau) {j r : Nat} (h : r < 2 * c) : bopF c B F (j * (2 * c) + r) = B ((F j).part (r % 2)) (r / 2) := by
  unfold bopF
  have hp : 0 < 2 * c := by omega
  have e1 : (j * (2 * c) + r) / (2 * c) = j := by rw [Nat.add_comm, Nat.add_mul_div_right _ _ hp, Nat.div_eq_of_lt h, Nat.zero_add]
  have e2 : (j * (2 * c) + r) % (2 * c) = r := by rw [Nat.add_comm, Nat.add_mul_mod_self_right, Nat.mod_eq_of_lt h]
  rw [e1, e2]
theorem IntsAt.grownI {w w' : World} {lo n : Nat} {A : Option Addr} {G : Nat → Int} {row : Option Nat} (h : IntsAt w lo A n G) (hg : w.grownBy w' row) (ha : ∀ b o, A = some ⟨b, o, none⟩ → row ≠ some b) : IntsAt w' lo A n G := fun k hk => by
  obtain ⟨b, o, e, h1, h2, h3⟩ := h k hk
  exact ⟨b, o, e, h1, Nat.lt_of_lt_of_le h2 hg.size, (World.cell?_of_block (a := ⟨b, o + k, none⟩) (hg.block b h2 (fun x => ha b o e x.symm))).trans h3⟩
theorem two_cells (w : World) (x y : Int) (t : TypeId) (g : Nat) (hg : w.heap.size = g) : IntsAt (w.alloc (.cells #[.int .i64 x, .int .i64 y] t)) 0 (some ⟨g, 0, none⟩) 2 (fun j => if j = 0 then x else y) := fun k hk => by
  have hb : Box (w.alloc (.cells #[.int .i64 x, .int .i64 y] t)) g t #[.int .i64 x, .int .i64 y] := Box.made hg.symm
  refine ⟨g, 0, rfl, Nat.zero_le _, hb.lt, ?_⟩
  obtain rfl | rfl : k = 0 ∨ k = 1 := by omega
  · exact hb.at_ 0
  · exact hb.at_ 1

/-- What a function tells of a part: c numbers B of it, in new memory. -/
def Tells (f : FuncId) (gn : Int) (c : Nat) (B : Int → Nat → Int) : Prop := ∀ (p : Int) (W : World), -100000000 ≤ p ∧ p ≤ 100000000 → Calls Tryz.prog f #[.int .i64 p, .int .i64 gn, .int .i64 (c : Int)] W fun e w' => ∃ gb, e = .returned (.slice (some ⟨gb, 0, none⟩) c c) ∧ IntsAt w' W.heap.size (some ⟨gb, 0, none⟩) c (B p) ∧ Below W.heap.size W w'
set_option maxHeartbeats 8000000 in
set_option maxRecDepth 100000 in
theorem bitsOfParts_wrong (f : Nat) (k gn : Int) (A : Option Addr) (n d : Nat) (F : Nat → Gau) (w : World) (hn : n ≤ 100000) (hI : GausAt w 0 A n F) (hE : recvE k gn n F ≠ 0) :
    Calls Tryz.prog 70 #[.agg #[.int .i64 k, .int .i64 gn, .slice A n d], .func (.func f) #[] #[]] w fun e w' => e = .returned (.tuple #[.slice none 0 0, .int .i64 (recvE k gn n F)]) ∧ Below w.heap.size w w' := by
  have HRE := hide (fun W (h : GausAt W 0 A n F) => receivedError_any k gn A n d F W hn h)
  have HI := hide hI
  obtain ⟨E, hEE⟩ : ∃ z, recvE k gn n F = z := ⟨_, rfl⟩
  rw [hEE] at hE HRE ⊢
  have te : (E != 0) = true := by simpa using hE
  clear hI hEE hE
  go_enter Tryz.func70, Tryz.ntmps70
  go_upto_region 1 with fail
  obtain ⟨w1, hw1⟩ : ∃ q : World, q = w.alloc (.cells #[.int .i64 (k), .int .i64 gn, .slice A n d] 66) := ⟨_, rfl⟩
  try rw [← hw1]
  have HX := hide (show Box w1 w.heap.size 66 #[.int .i64 (k), .int .i64 gn, .slice A n d] by rw [hw1]; exact Box.made rfl)
  have HB := hide (show Below w.heap.size w w1 by rw [hw1]; (repeat (first | (with_reducible exact Below.refl _ _) | (with_reducible refine Go.below_drewN ?_ _) | (with_reducible refine Below.drew ?_) | (with_reducible refine Below.alloc ?_ (by first | exact Nat.le_refl _ | (simp; done) | (simp; omega) | omega) _) | (with_reducible refine Below.setCell ?_ (by first | exact Nat.le_refl _ | (simp; done) | (simp; omega) | omega) _))))
  clear hw1
  obtain ⟨c0, c1, c2, hlz⟩ := rec_cells HX.out
  go_wp2_with fail
  refine (HRE.out _ (HI.out.below HB.out)).mono ?_
  rintro e w2 ⟨rfl, hb2⟩
  replace HX := hide (HX.out.below hb2)
  replace HB := hide (HB.out.trans (hb2.mono HB.out.size))
  clear c0 c1 c2 hlz hb2 HRE
  go_wp2_with fail
  go_ret2
  exact ⟨rfl, HB.out⟩
set_option maxHeartbeats 8000000 in
set_option maxRecDepth 100000 in
theorem bitsOfParts_right (f : Nat) (eg : ∀ args w, (callFunc f args).run Tryz.prog w = .ok (.enter f args) w) (gn : Int) (c : Nat) (A : Option Addr) (n d : Nat) (B : Int → Nat → Int) (F : Nat → Gau) (w : World) (hc1 : 1 ≤ c) (hc3 : c ≤ 3) (hn : n ≤ 200) (hI : GausAt w 0 A n F) (hE : recvE (2 * (c : Int)) gn n F = 0) (hT : Tells f gn c B) :
    Calls Tryz.prog 70 #[.agg #[.int .i64 (2 * (c : Int)), .int .i64 gn, .slice A n d], .func (.func f) #[] #[]] w fun e w' => ∃ v, e = .returned (.tuple #[v, .int .i64 0]) ∧ OwnInts w' (w.heap.size + 1) v (n * (2 * c)) (bopF c B F) ∧ Below w.heap.size w w' := by
  have HRE := hide (fun W (h : GausAt W 0 A n F) => receivedError_any (2 * (c : Int)) gn A n d F W (by omega) h)
  have HI := hide hI
  have HF := hide (show ∀ j, j < n → (F j).Within 100000000 from by
    unfold recvE at hE
    have ho : ordE (2 * (c : Int)) = 0 := by obtain rfl | rfl | rfl : c = 1 ∨ c = 2 ∨ c = 3 := by omega
                                             all_goals decide
    rw [if_pos ho] at hE
    by_cases hb : withinB gn 1 10000000 = true
    · rw [if_pos hb] at hE
      exact (symsE_zero hE).2.2
    · rw [if_neg hb] at hE
      exact absurd hE (by decide))
  rw [hE] at HRE
  have HT := hide hT
  have q2 : (2 * (c : Int)).tdiv 2 = (c : Int) := by rw [Int.tdiv_eq_ediv_of_nonneg (by omega)]; omega
  clear hI hE hT
  go_enter Tryz.func70, Tryz.ntmps70
  go_upto_region 1 with fail
  obtain ⟨w1, hw1⟩ : ∃ q : World, q = w.alloc (.cells #[.int .i64 (2 * (c : Int)), .int .i64 gn, .slice A n d] 66) := ⟨_, rfl⟩
  try rw [← hw1]
  have HX := hide (show Box w1 w.heap.size 66 #[.int .i64 (2 * (c : Int)), .int .i64 gn, .slice A n d] by rw [hw1]; exact Box.made rfl)
  have HB := hide (show Below w.heap.size w w1 by rw [hw1]; (repeat (first | (with_reducible exact Below.refl _ _) | (with_reducible refine Go.below_drewN ?_ _) | (with_reducible refine Below.drew ?_) | (with_reducible refine Below.alloc ?_ (by first | exact Nat.le_refl _ | (simp; done) | (simp; omega) | omega) _) | (with_reducible refine Below.setCell ?_ (by first | exact Nat.le_refl _ | (simp; done) | (simp; omega) | omega) _))))
  clear hw1
  obtain ⟨c0, c1, c2, hlz⟩ := rec_cells HX.out
  go_wp2_with fail
  refine (HRE.out _ (HI.out.below HB.out)).mono ?_
  rintro e w2 ⟨rfl, hb2⟩
  replace HX := hide (HX.out.below hb2)
  replace HB := hide (HB.out.trans (hb2.mono HB.out.size))
  clear c0 c1 c2 hlz hb2 HRE
  obtain ⟨b2, hb2⟩ : ∃ z, w.heap.size = z := ⟨_, rfl⟩
  simp only [hb2] at HX HB ⊢
  obtain ⟨c0, c1, c2, hlz⟩ := rec_cells HX.out
  go_wp2_with fail
  clear c0 c1 c2
  go_loopw [8, 25] (fun v i wr => ∃ j : Nat, j ≤ n ∧ i = .int .i64 (j : Int) ∧ Hid (OwnInts wr (b2 + 1) v (j * (2 * c)) (bopF c B F)) ∧ Hid (Box wr b2 66 #[.int .i64 (2 * (c : Int)), .int .i64 gn, .slice A n d]) ∧ Hid (Below b2 w wr)) (fun _ i _ => n - (Go.RowKit.intOf i).toNat)
  case atStart => exact ⟨0, Nat.zero_le _, rfl, hide (by rw [Nat.zero_mul]; exact OwnInts.nil_ _ _ _), HX, HB⟩
  case round =>
    clear HX HB hlz
    obtain ⟨j, hj, rfl, HO, HX, HB⟩ := hrel
    obtain ⟨wA, rfl⟩ : ∃ x : World, x = wr := ⟨_, rfl⟩
    by_cases hlt : j < n
    case neg =>
      obtain rfl : n = j := by omega
      have hltz : ¬ (n : Int) < (n : Int) := by omega
      obtain ⟨As, cs, rfl, hcs, -⟩ := HO.out.form
      clear HT HF HI
      go_wp2_with fail
      go_ret2
      first | exact ⟨_, rfl, HO.out, HB.out⟩ | exact ⟨HO.out, HB.out⟩ | (subst hb2; first | exact ⟨_, rfl, HO.out, HB.out⟩ | exact ⟨HO.out, HB.out⟩)
    have hltz : (j : Int) < (n : Int) := by omega
    obtain ⟨b, o, rfl, -, hbw, y0, y1⟩ := (HI.out.below (by rw [hb2]; exact HB.out)) j hlt
    have hFj := HF.out j hlt
    obtain ⟨As, cs, rfl, hcs, -⟩ := HO.out.form
    have HOF := hide (fun r (hr : r < 2 * c) => bopF_at B F (j := j) hr)
    obtain ⟨x, hx⟩ : ∃ z, F j = z := ⟨_, rfl⟩
    rw [hx] at y0 y1 hFj HOF
    clear hx
    obtain ⟨c0, c1, c2, hlz⟩ := rec_cells HX.out
    go_upto_region 9 with fail
    clear c0 c1 c2 hlz y0 y1
    obtain ⟨N, hN⟩ : ∃ N, j * (2 * c) = N := ⟨_, rfl⟩
    have HN := hide (show (j + 1) * (2 * c) = N + 2 * c by rw [Nat.add_mul, Nat.one_mul, hN])
    rw [hN] at HO HOF
    have hN9 : N ≤ 1200 := by rw [← hN]; exact Nat.le_trans (Nat.mul_le_mul (show j ≤ 200 by omega) (show 2 * c ≤ 6 by omega)) (by decide)
    simp only [hN]
    clear hN
    obtain ⟨b10, hb10⟩ : ∃ z, wA.heap.size = z := ⟨_, rfl⟩
    obtain ⟨w3, hw3⟩ : ∃ q : World, q = wA.alloc (.cells #[.int .i64 x.re, .int .i64 x.im] 62) := ⟨_, rfl⟩
    try rw [← hw3]
    simp only [hb10]
    have HG := hide (show Box w3 b10 62 #[.int .i64 x.re, .int .i64 x.im] by rw [hw3]; exact Box.made hb10.symm)
    have hc3 : Below wA.heap.size wA w3 := by rw [hw3]; (repeat (first | (with_reducible exact Below.refl _ _) | (with_reducible refine Go.below_drewN ?_ _) | (with_reducible refine Below.drew ?_) | (with_reducible refine Below.alloc ?_ (by first | exact Nat.le_refl _ | (simp; done) | (simp; omega) | omega) _) | (with_reducible refine Below.setCell ?_ (by first | exact Nat.le_refl _ | (simp; done) | (simp; omega) | omega) _)))
    have hsA := HX.out.lt
    replace HO := hide (HO.out.below hc3)
    replace HX := hide (HX.out.below hc3)
    replace HB := hide (HB.out.trans (hc3.mono (by omega)))
    have h10 : b10 < w3.heap.size := HG.out.lt
    clear hw3 hc3
    have hvb : ∀ k, (Value.slice As N cs).ownBlock = some k → k < w3.heap.size := fun k hk => (ownV_at (w' := w3) (v' := Value.slice As N cs) HO.out hk).2
    have HVB := hide hvb
    have hs3 : b2 + 1 ≤ w3.heap.size := by omega
    have hq3 : w3.heap.size ≤ w3.heap.size := Nat.le_refl _
    clear hvb
    refine wp_region_held_drew (S := fun w' => w'.cell? ⟨b10, 0, none⟩ = some (.int .i64 x.re) ∧ w'.cell? ⟨b10, 1, none⟩ = some (.int .i64 x.im) ∧ w'.cell? ⟨b2, 1, none⟩ = some (.int .i64 gn)) (by kernel_rfl) ⟨HG.out.at_ 0, HG.out.at_ 1, HX.out.at_ 1⟩ (fun hHeld => ?_)
    obtain ⟨w_1, hw_1⟩ : ∃ q : World, q = w3.drew := ⟨_, rfl⟩
    rw [← hw_1] at hHeld ⊢
    have hc_1 : Below w3.heap.size w3 w_1 := by rw [hw_1]; exact (Below.refl _ _).drew
    clear hw_1
    replace HG := hide (HG.out.below hc_1)
    replace HO := hide (HO.out.below hc_1)
    replace HX := hide (HX.out.below hc_1)
    replace HB := hide (HB.out.trans (hc_1.mono (Nat.le_trans (Nat.le_succ _) hs3)))
    replace hs3 := Nat.le_trans hs3 hc_1.size
    replace hq3 := Nat.le_trans hq3 hc_1.size
    clear hc_1
    refine wpAnyH_take (i := 0) (oi := ⟨some 29, _, _, _, _, _⟩) (v := ?_) rfl (by kernel_rfl) (by kernel_rfl) (by kernel_rfl) (fun _ _ _ h => h) (Or.inl ⟨by rfl, ?_⟩) (by assumption) ?_
    rotate_left
    · (intro w' hSw; (try dsimp only at hSw); go_simp <;> (with_reducible rfl))
    try simp only [Act.put, List.setIfInBounds_toArray, List.set_cons_zero, List.set_cons_succ]
    refine wpAnyH_take (i := 1) (oi := ⟨some 30, _, _, _, _, _⟩) (v := ?_) rfl (by kernel_rfl) (by kernel_rfl) (by kernel_rfl) (fun _ _ _ h => h) (Or.inl ⟨by rfl, ?_⟩) (by assumption) ?_
    rotate_left
    · (intro w' hSw; (try dsimp only at hSw); go_simp <;> (with_reducible rfl))
    try simp only [Act.put, List.setIfInBounds_toArray, List.set_cons_zero, List.set_cons_succ]
    refine wpAnyH_take (i := 2) (oi := ⟨some 31, _, _, _, _, _⟩) (v := ?_) rfl (by kernel_rfl) (by kernel_rfl) (by kernel_rfl) (fun _ _ _ h => h) (Or.inl ⟨by rfl, ?_⟩) (by assumption) ?_
    rotate_left
    · (intro w' hSw; (try dsimp only at hSw); go_simp <;> (with_reducible rfl))
    try simp only [Act.put, List.setIfInBounds_toArray, List.set_cons_zero, List.set_cons_succ]
    refine wpAnyH_take (i := 3) (oi := ⟨some 32, _, _, _, _, _⟩) (v := ?_) rfl (by kernel_rfl) (by kernel_rfl) (by kernel_rfl) (fun _ _ _ h => h) (Or.inl ⟨by rfl, ?_⟩) (by assumption) ?_
    rotate_left
    · (intro w' hSw; (try dsimp only at hSw); go_simp <;> (with_reducible rfl))
    try simp only [Act.put, List.setIfInBounds_toArray, List.set_cons_zero, List.set_cons_succ]
    refine wpAnyH_take (i := 4) (oi := ⟨some 33, _, _, _, _, _⟩) (v := ?_) rfl (by kernel_rfl) (by kernel_rfl) (by kernel_rfl) (fun _ _ _ h => h) (Or.inl ⟨by rfl, ?_⟩) (by assumption) ?_
    rotate_left
    · (intro w' hSw; (try dsimp only at hSw); go_simp <;> (with_reducible rfl))
    try simp only [Act.put, List.setIfInBounds_toArray, List.set_cons_zero, List.set_cons_succ]
    refine wpAnyH_take (i := 5) (oi := ⟨some 34, _, _, _, _, _⟩) (v := ?_) rfl (by kernel_rfl) (by kernel_rfl) (by kernel_rfl) (fun _ _ _ h => h) (Or.inl ⟨by rfl, ?_⟩) (by assumption) ?_
    rotate_left
    · (intro w' hSw; (try dsimp only at hSw); go_simp <;> (with_reducible rfl))
    try simp only [Act.put, List.setIfInBounds_toArray, List.set_cons_zero, List.set_cons_succ]
    refine wpAnyH_take (i := 7) (oi := ⟨some 36, _, _, _, _, _⟩) (v := ?_) rfl (by kernel_rfl) (by kernel_rfl) (by kernel_rfl) (fun _ _ _ h => h) (Or.inl ⟨by rfl, ?_⟩) (by assumption) ?_
    rotate_left
    · (intro w' hSw; (try dsimp only at hSw); go_simp <;> (with_reducible rfl))
    try simp only [Act.put, List.setIfInBounds_toArray, List.set_cons_zero, List.set_cons_succ]
    refine wpAnyH_take (i := 8) (oi := ⟨some 37, _, _, _, _, _⟩) (v := ?_) rfl (by kernel_rfl) (by kernel_rfl) (by kernel_rfl) (fun _ _ _ h => h) (Or.inl ⟨by rfl, ?_⟩) (by assumption) ?_
    rotate_left
    · (intro w' hSw; (try dsimp only at hSw); go_simp <;> (with_reducible rfl))
    try simp only [Act.put, List.setIfInBounds_toArray, List.set_cons_zero, List.set_cons_succ]
    refine wpAnyH_take (i := 9) (oi := ⟨some 38, _, _, _, _, _⟩) (v := ?_) rfl (by kernel_rfl) (by kernel_rfl) (by kernel_rfl) (fun _ _ _ h => h) (Or.inl ⟨by rfl, ?_⟩) (by assumption) ?_
    rotate_left
    · (intro w' hSw; (try dsimp only at hSw); go_simp <;> (with_reducible rfl))
    try simp only [Act.put, List.setIfInBounds_toArray, List.set_cons_zero, List.set_cons_succ]
    refine wpAnyH_take (i := 10) (oi := ⟨some 39, _, _, _, _, _⟩) (v := ?_) rfl (by kernel_rfl) (by kernel_rfl) (by kernel_rfl) (fun _ _ _ h => h) (Or.inl ⟨by rfl, ?_⟩) (by assumption) ?_
    rotate_left
    · (intro w' hSw; (try dsimp only at hSw); go_simp <;> (with_reducible rfl))
    try simp only [Act.put, List.setIfInBounds_toArray, List.set_cons_zero, List.set_cons_succ]
    refine wpAnyH_take (i := 11) (oi := ⟨some 40, _, _, _, _, _⟩) (v := ?_) rfl (by kernel_rfl) (by kernel_rfl) (by kernel_rfl) (fun _ _ _ h => h) (Or.inl ⟨by rfl, ?_⟩) (by assumption) ?_
    rotate_left
    · (intro w' hSw; (try dsimp only at hSw); go_simp <;> (with_reducible rfl))
    try simp only [Act.put, List.setIfInBounds_toArray, List.set_cons_zero, List.set_cons_succ]
    refine wpAnyH_take (i := 12) (oi := ⟨some 41, _, _, _, _, _⟩) (v := ?_) rfl (by kernel_rfl) (by kernel_rfl) (by kernel_rfl) (fun _ _ _ h => h) (Or.inl ⟨by rfl, ?_⟩) (by assumption) ?_
    rotate_left
    · (intro w' hSw; (try dsimp only at hSw); go_simp <;> (with_reducible rfl))
    try simp only [Act.put, List.setIfInBounds_toArray, List.set_cons_zero, List.set_cons_succ]
    refine wpAnyH_ready (rs := [6]) (by kernel_rfl) (by simp) ?_
    refine AllReadyH.cons (o := ⟨some 35, _, _, _, _, _⟩) rfl (fun K' hK => ?_) AllReadyH.nil
    go_simp
    go_at_fn f
    refine (HT.out x.re _ hFj.re).mono ?_
    rintro e_ w_2 ⟨gA1, rfl, hiA1, hb_2⟩
    have HA1 := hide hiA1
    have hnA1 : w_1.heap.size ≤ gA1 ∧ gA1 < w_2.heap.size := by obtain ⟨b9, o9, e9, q1, q2, -⟩ := hiA1 0 (by omega); injection e9 with e9; injection e9 with e9; subst e9; exact ⟨q1, q2⟩
    have hmA1 : w3.heap.size ≤ gA1 := Nat.le_trans hq3 hnA1.1
    clear hiA1
    replace HG := hide (HG.out.below hb_2)
    replace HO := hide (HO.out.below hb_2)
    replace HX := hide (HX.out.below hb_2)
    replace HB := hide (HB.out.trans (hb_2.mono (Nat.le_trans (Nat.le_succ _) hs3)))
    replace hs3 := Nat.le_trans hs3 hb_2.size
    replace hq3 := Nat.le_trans hq3 hb_2.size
    clear hb_2
    go_wp2_with fail
    refine hK.out _ _ ⟨HG.out.at_ 0, HG.out.at_ 1, HX.out.at_ 1⟩ (fun hHeld => ?_)
    clear hK K'
    try simp only [Act.put, List.setIfInBounds_toArray, List.set_cons_zero, List.set_cons_succ]
    refine wpAnyH_ready (rs := [13]) (by kernel_rfl) (by simp) ?_
    refine AllReadyH.cons (o := ⟨some 42, _, _, _, _, _⟩) rfl (fun K' hK => ?_) AllReadyH.nil
    go_simp
    go_at_fn f
    refine (HT.out x.im _ hFj.im).mono ?_
    rintro e_ w_3 ⟨gA2, rfl, hiA2, hb_3⟩
    have HA2 := hide hiA2
    have hnA2 : w_2.heap.size ≤ gA2 ∧ gA2 < w_3.heap.size := by obtain ⟨b9, o9, e9, q1, q2, -⟩ := hiA2 0 (by omega); injection e9 with e9; injection e9 with e9; subst e9; exact ⟨q1, q2⟩
    have hmA2 : w3.heap.size ≤ gA2 := Nat.le_trans hq3 hnA2.1
    clear hiA2
    replace HG := hide (HG.out.below hb_3)
    replace HO := hide (HO.out.below hb_3)
    replace HX := hide (HX.out.below hb_3)
    replace HA1 := hide (HA1.out.below hb_3)
    replace HB := hide (HB.out.trans (hb_3.mono (Nat.le_trans (Nat.le_succ _) hs3)))
    replace hs3 := Nat.le_trans hs3 hb_3.size
    replace hq3 := Nat.le_trans hq3 hb_3.size
    clear hb_3
    go_wp2_with fail
    refine hK.out _ _ ⟨HG.out.at_ 0, HG.out.at_ 1, HX.out.at_ 1⟩ (fun hHeld => ?_)
    clear hK K'
    try simp only [Act.put, List.setIfInBounds_toArray, List.set_cons_zero, List.set_cons_succ]
    refine wpAnyH_take (i := 14) (oi := ⟨some 11, _, _, _, _, _⟩) (v := ?_) rfl (by kernel_rfl) (by kernel_rfl) (by kernel_rfl) (fun _ _ _ h => h) (Or.inl ⟨by rfl, ?_⟩) (by assumption) ?_
    rotate_left
    · (intro w' hSw; (try dsimp only at hSw); go_simp <;> (with_reducible rfl))
    try simp only [Act.put, List.setIfInBounds_toArray, List.set_cons_zero, List.set_cons_succ]
    refine wpAnyH_take (i := 15) (oi := ⟨some 12, _, _, _, _, _⟩) (v := ?_) rfl (by kernel_rfl) (by kernel_rfl) (by kernel_rfl) (fun _ _ _ h => h) (Or.inl ⟨by rfl, ?_⟩) (by assumption) ?_
    rotate_left
    · (intro w' hSw; (try dsimp only at hSw); go_simp <;> (with_reducible rfl))
    try simp only [Act.put, List.setIfInBounds_toArray, List.set_cons_zero, List.set_cons_succ]
    refine wpAnyH_done (by kernel_rfl) ?_ _
    clear hHeld
    replace HA1 := hide (HA1.out.weak (Nat.zero_le _))
    replace HA2 := hide (HA2.out.weak (Nat.zero_le _))
    have hbig : gA1 < w_3.heap.size ∧ gA2 < w_3.heap.size := by omega
    have hv1 : (Value.slice As N cs).ownBlock ≠ some gA1 := fun e => by have := HVB.out _ e; omega
    have hv2 : (Value.slice As N cs).ownBlock ≠ some gA2 := fun e => by have := HVB.out _ e; omega
    clear HG HVB HT hnA1 hnA2 h10 hs3
    go_wp2_with fail
    go_loopw [8, 44] (fun v z wr => ∃ i : Nat, i ≤ c ∧ z = .int .i64 (i : Int) ∧ Hid (OwnInts wr (b2 + 1) v (N + 2 * i) (bopF c B F)) ∧ v.ownBlock ≠ some gA1 ∧ v.ownBlock ≠ some gA2 ∧ gA1 < wr.heap.size ∧ gA2 < wr.heap.size ∧ Hid (IntsAt wr 0 (some ⟨gA1, 0, none⟩) c (B x.re)) ∧ Hid (IntsAt wr 0 (some ⟨gA2, 0, none⟩) c (B x.im)) ∧ Hid (Box wr b2 66 #[.int .i64 (2 * (c : Int)), .int .i64 gn, .slice (some ⟨b, o, none⟩) n d]) ∧ Hid (Below b2 w wr)) (fun _ z _ => c - (Go.RowKit.intOf z).toNat)
    case atStart => exact ⟨0, Nat.zero_le _, rfl, HO, hv1, hv2, hbig.1, hbig.2, HA1, HA2, HX, HB⟩
    case round =>
      clear HO hv1 hv2 hbig HA1 HA2 HX HB
      obtain ⟨i, hi, rfl, HO, hv1, hv2, hg1, hg2, HA1, HA2, HX, HB⟩ := hrel
      obtain ⟨wB, rfl⟩ : ∃ x : World, x = wr := ⟨_, rfl⟩
      obtain ⟨As2, cs2, rfl, hcs2, -⟩ := HO.out.form
      by_cases hlt2 : i < c
      case neg =>
        obtain rfl : c = i := by omega
        have hltz2 : ¬ (c : Int) < (c : Int) := by omega
        clear HOF
        go_wp2_with fail
        go_roundw
        case rel => exact ⟨j + 1, by omega, by go_num, by rw [HN.out]; exact HO, HX, HB⟩
        case measure => simp [Go.RowKit.intOf]; omega
      have hltz2 : (i : Int) < (c : Int) := by omega
      obtain ⟨r, hr⟩ : ∃ r, B x.re i = r := ⟨_, rfl⟩
      obtain ⟨m, hm⟩ : ∃ m, B x.im i = m := ⟨_, rfl⟩
      have HC1 := hide (fun W1 (h : IntsAt W1 0 (some ⟨gA1, 0, none⟩) c (B x.re)) => (by have := intsAt_cellK h hlt2; rw [hr, Nat.zero_add] at this; exact this : W1.cell? ⟨gA1, i, none⟩ = some (.int .i64 r)))
      have HC2 := hide (fun W1 (h : IntsAt W1 0 (some ⟨gA2, 0, none⟩) c (B x.im)) => (by have := intsAt_cellK h hlt2; rw [hm, Nat.zero_add] at this; exact this : W1.cell? ⟨gA2, i, none⟩ = some (.int .i64 m)))
      have HNF := hide (show ∀ q, q < N + 2 * i + 2 → catF (N + 2 * i) (bopF c B F) (fun z => if z = 0 then r else m) q = bopF c B F q from fun q hq => by
        unfold catF
        by_cases e : q < N + 2 * i
        · rw [if_pos e]
        · rw [if_neg e]
          obtain e2 | e2 : q - (N + 2 * i) = 0 ∨ q - (N + 2 * i) = 1 := by omega
          · rw [e2]
            show r = _
            rw [show q = N + 2 * i by omega, HOF.out (2 * i) (by omega), show 2 * i % 2 = 0 by omega, show 2 * i / 2 = i by omega, ← hr]; rfl
          · rw [e2]
            show m = _
            rw [show q = N + (2 * i + 1) by omega, HOF.out (2 * i + 1) (by omega), show (2 * i + 1) % 2 = 1 by omega, show (2 * i + 1) / 2 = i by omega, ← hm]; rfl)
      clear hr hm
      go_upto_region 13 with fail
      have hX := HX.out.lt
      refine wp_region_held_drew (S := fun w' => w'.cell? ⟨gA1, i, none⟩ = some (.int .i64 r) ∧ w'.cell? ⟨gA2, i, none⟩ = some (.int .i64 m)) (by kernel_rfl) ⟨HC1.out _ HA1.out, HC2.out _ HA2.out⟩ (fun hHeld => ?_)
      obtain ⟨w_4, hw_4⟩ : ∃ q : World, q = wB.drew := ⟨_, rfl⟩
      rw [← hw_4] at hHeld ⊢
      have hc_4 : Below wB.heap.size wB w_4 := by rw [hw_4]; exact (Below.refl _ _).drew
      clear hw_4
      replace HO := hide (HO.out.below hc_4)
      replace HA1 := hide (HA1.out.below hc_4)
      replace HA2 := hide (HA2.out.below hc_4)
      replace HX := hide (HX.out.below hc_4)
      replace HB := hide (HB.out.trans (hc_4.mono (Nat.le_of_lt hX)))
      replace hX := Nat.lt_of_lt_of_le hX hc_4.size
      replace hg1 := Nat.lt_of_lt_of_le hg1 hc_4.size
      replace hg2 := Nat.lt_of_lt_of_le hg2 hc_4.size
      clear hc_4
      refine wpAnyH_take (i := 0) (oi := ⟨some 47, _, _, _, _, _⟩) (v := ?_) rfl (by kernel_rfl) (by kernel_rfl) (by kernel_rfl) (fun _ _ _ h => h) (Or.inl ⟨by rfl, ?_⟩) (by assumption) ?_
      rotate_left
      · (intro w' hSw; (try dsimp only at hSw); go_simp <;> (with_reducible rfl))
      try simp only [Act.put, List.setIfInBounds_toArray, List.set_cons_zero, List.set_cons_succ]
      refine wpAnyH_take (i := 1) (oi := ⟨some 48, _, _, _, _, _⟩) (v := ?_) rfl (by kernel_rfl) (by kernel_rfl) (by kernel_rfl) (fun _ _ _ h => h) (Or.inl ⟨by rfl, ?_⟩) (by assumption) ?_
      rotate_left
      · (intro w' hSw; (try dsimp only at hSw); go_simp <;> (with_reducible rfl))
      try simp only [Act.put, List.setIfInBounds_toArray, List.set_cons_zero, List.set_cons_succ]
      refine wpAnyH_take (i := 2) (oi := ⟨some 49, _, _, _, _, _⟩) (v := ?_) rfl (by kernel_rfl) (by kernel_rfl) (by kernel_rfl) (fun _ _ _ h => h) (Or.inl ⟨by rfl, ?_⟩) (by assumption) ?_
      rotate_left
      · (intro w' hSw; (try dsimp only at hSw); go_simp <;> (with_reducible rfl))
      try simp only [Act.put, List.setIfInBounds_toArray, List.set_cons_zero, List.set_cons_succ]
      refine wpAnyH_take (i := 3) (oi := ⟨some 50, _, _, _, _, _⟩) (v := ?_) rfl (by kernel_rfl) (by kernel_rfl) (by kernel_rfl) (fun _ _ _ h => h) (Or.inl ⟨by rfl, ?_⟩) (by assumption) ?_
      rotate_left
      · (intro w' hSw; (try dsimp only at hSw); go_simp <;> (with_reducible rfl))
      try simp only [Act.put, List.setIfInBounds_toArray, List.set_cons_zero, List.set_cons_succ]
      refine wpAnyH_take (i := 4) (oi := ⟨some 51, _, _, _, _, _⟩) (v := ?_) rfl (by kernel_rfl) (by kernel_rfl) (by kernel_rfl) (fun _ _ _ h => h) (Or.inl ⟨by rfl, ?_⟩) (by assumption) ?_
      rotate_left
      · (intro w' hSw; (try dsimp only at hSw); go_simp <;> (with_reducible rfl))
      try simp only [Act.put, List.setIfInBounds_toArray, List.set_cons_zero, List.set_cons_succ]
      refine wpAnyH_take (i := 5) (oi := ⟨some 52, _, _, _, _, _⟩) (v := ?_) rfl (by kernel_rfl) (by kernel_rfl) (by kernel_rfl) (fun _ _ _ h => h) (Or.inl ⟨by rfl, ?_⟩) (by assumption) ?_
      rotate_left
      · (intro w' hSw; (try dsimp only at hSw); go_simp <;> (with_reducible rfl))
      try simp only [Act.put, List.setIfInBounds_toArray, List.set_cons_zero, List.set_cons_succ]
      refine wpAnyH_take (i := 6) (oi := ⟨some 53, _, _, _, _, _⟩) (v := ?_) rfl (by kernel_rfl) (by kernel_rfl) (by kernel_rfl) (fun _ _ _ h => h) (Or.inl ⟨by rfl, ?_⟩) (by assumption) ?_
      rotate_left
      · (intro w' hSw; (try dsimp only at hSw); go_simp <;> (with_reducible rfl))
      try simp only [Act.put, List.setIfInBounds_toArray, List.set_cons_zero, List.set_cons_succ]
      refine wpAnyH_take (i := 7) (oi := ⟨some 54, _, _, _, _, _⟩) (v := ?_) rfl (by kernel_rfl) (by kernel_rfl) (by kernel_rfl) (fun _ _ _ h => h) (Or.inl ⟨by rfl, ?_⟩) (by assumption) ?_
      rotate_left
      · (intro w' hSw; (try dsimp only at hSw); go_simp <;> (with_reducible rfl))
      try simp only [Act.put, List.setIfInBounds_toArray, List.set_cons_zero, List.set_cons_succ]
      refine wpAnyH_take (i := 8) (oi := ⟨some 55, _, _, _, _, _⟩) (v := ?_) rfl (by kernel_rfl) (by kernel_rfl) (by kernel_rfl) (fun _ _ _ h => h) (Or.inl ⟨by rfl, ?_⟩) (by assumption) ?_
      rotate_left
      · (intro w' hSw; (try dsimp only at hSw); go_simp <;> (with_reducible rfl))
      try simp only [Act.put, List.setIfInBounds_toArray, List.set_cons_zero, List.set_cons_succ]
      refine wpAnyH_ready (rs := [9]) (by kernel_rfl) (by simp) ?_
      refine AllReadyH.cons (o := ⟨some 56, _, _, _, _, _⟩) rfl (fun K' hK => ?_) AllReadyH.nil
      go_simp
      obtain ⟨g9, hg9⟩ : ∃ z, w_4.heap.size = z := ⟨_, rfl⟩
      obtain ⟨w_5, hw_5⟩ : ∃ z : World, z = w_4.alloc (.cells #[.int .i64 r, .int .i64 m] 3) := ⟨_, rfl⟩
      try rw [← hw_5]
      have HP := hide (show IntsAt w_5 0 (some ⟨g9, 0, none⟩) 2 (fun z => if z = 0 then r else m) by rw [hw_5]; exact two_cells w_4 r m _ g9 hg9)
      have hc_5 : Below w_4.heap.size w_4 w_5 := by rw [hw_5]; exact (Below.refl _ _).alloc (Nat.le_refl _) _
      clear hw_5
      replace HO := hide (HO.out.below hc_5)
      replace HA1 := hide (HA1.out.below hc_5)
      replace HA2 := hide (HA2.out.below hc_5)
      replace HX := hide (HX.out.below hc_5)
      replace HB := hide (HB.out.trans (hc_5.mono (Nat.le_of_lt hX)))
      replace hX := Nat.lt_of_lt_of_le hX hc_5.size
      replace hg1 := Nat.lt_of_lt_of_le hg1 hc_5.size
      replace hg2 := Nat.lt_of_lt_of_le hg2 hc_5.size
      clear hc_5
      try simp only [hg9]
      clear hg9
      refine hK.out _ _ ⟨HC1.out _ HA1.out, HC2.out _ HA2.out⟩ (fun hHeld => ?_)
      clear hK K'
      try simp only [Act.put, List.setIfInBounds_toArray, List.set_cons_zero, List.set_cons_succ]
      refine wpAnyH_ready (rs := [10]) (by kernel_rfl) (by simp) ?_
      refine AllReadyH.cons (o := ⟨some 57, _, _, _, _, _⟩) rfl (fun K' hK => ?_) AllReadyH.nil
      refine step_append_twoI _ rfl (.tmp 47) (.tmp 56) rfl (b2 + 1) 0 (.slice As2 (N + 2 * i) cs2) (N + 2 * i) _ rfl HO.out g9 2 2 _ rfl HP.out (by omega) (by omega) ?_
      intro v9 w_6 ho9 hgr9 hat9
      obtain ⟨As3, cs3, rfl, hcs3, -⟩ := ho9.form
      have hv1n : (Value.slice As3 (N + 2 * i + 2) cs3).ownBlock ≠ some gA1 := hat9.elim (fun e => by rw [e]; exact hv1) (fun e => by rw [e]; intro e2; injection e2 with e2; omega)
      have hv2n : (Value.slice As3 (N + 2 * i + 2) cs3).ownBlock ≠ some gA2 := hat9.elim (fun e => by rw [e]; exact hv2) (fun e => by rw [e]; intro e2; injection e2 with e2; omega)
      have hbo : ∀ z, (Value.slice As2 (N + 2 * i) cs2).ownBlock = some z → b2 + 1 ≤ z := fun z e => (ownV_at (w' := w_5) (v' := Value.slice As2 (N + 2 * i) cs2) HO.out e).1
      replace HA1 := hide (HA1.out.grownI hgr9 (fun b o e => by injection e with e; injection e with e; rw [← e]; exact hv1))
      replace HA2 := hide (HA2.out.grownI hgr9 (fun b o e => by injection e with e; injection e with e; rw [← e]; exact hv2))
      replace HX := hide (show Box _ b2 66 #[.int .i64 (2 * (c : Int)), .int .i64 gn, .slice (some ⟨b, o, none⟩) n d] from (hgr9.block b2 hX (fun e => by have := hbo _ e.symm; omega)).trans HX.out)
      replace HB := hide (HB.out.grown hgr9 (by omega) (fun z e => by have := hbo _ e; omega))
      have HO2 := hide (ho9.congr HNF.out)
      replace hg1 := Nat.lt_of_lt_of_le hg1 hgr9.size
      replace hg2 := Nat.lt_of_lt_of_le hg2 hgr9.size
      clear hgr9 hat9 ho9 hbo HP HO
      refine hK.out _ _ ⟨HC1.out _ HA1.out, HC2.out _ HA2.out⟩ (fun hHeld => ?_)
      clear hK K'
      try simp only [Act.put, List.setIfInBounds_toArray, List.set_cons_zero, List.set_cons_succ]
      refine wpAnyH_take (i := 11) (oi := ⟨some 8, _, _, _, _, _⟩) (v := ?_) rfl (by kernel_rfl) (by kernel_rfl) (by kernel_rfl) (fun _ _ _ h => h) (Or.inl ⟨by rfl, ?_⟩) (by assumption) ?_
      rotate_left
      · (intro w' hSw; (try dsimp only at hSw); go_simp <;> (with_reducible rfl))
      try simp only [Act.put, List.setIfInBounds_toArray, List.set_cons_zero, List.set_cons_succ]
      refine wpAnyH_done (by kernel_rfl) ?_ _
      clear hHeld HC1 HC2 HNF HOF
      go_wp2_with fail
      go_roundw
      case rel => exact ⟨i + 1, by omega, by go_num, by rw [show N + 2 * (i + 1) = N + 2 * i + 2 by omega]; exact HO2, hv1n, hv2n, hg1, hg2, HA1, HA2, HX, HB⟩
      case measure => simp [Go.RowKit.intOf]; omega
end Go.Proofs.YtcdplfjegopmdaaGreat
/- Soft of the code. -/
namespace Go.Proofs.YtcdplfjegopmdaaGreat
open Go.RowKit Go.Lib
theorem OwnInts.atG {w : World} {base g n c lo : Nat} {F : Nat → Int} (h : OwnInts w base (.slice (some ⟨g, 0, none⟩) n c) n F) (hl : lo ≤ base) : IntsAt w lo (some ⟨g, 0, none⟩) n F := by
  obtain ⟨A, c', e, -, hI⟩ := h.form
  injection e with e1 e2 e3
  subst e1
  exact hI.weak hl
theorem recvE_gain {k g : Int} {n : Nat} {F : Nat → Gau} (h : recvE k g n F = 0) : (1 ≤ g ∧ g ≤ 10000000) ∧ ordE k = 0 ∧ symsE n F = 0 := by
  unfold recvE at h
  by_cases ho : ordE k = 0
  · rw [if_pos ho] at h
    by_cases hb : withinB g 1 10000000 = true
    · rw [if_pos hb] at h
      refine ⟨?_, ho, h⟩
      unfold withinB at hb
      simp at hb
      exact hb
    · rw [if_neg hb] at h
      exact absurd h (by decide)
  · rw [if_neg ho] at h
    exact absurd h ho
theorem soft_tells (gn : Int) (c : Nat) (hg : 1 ≤ gn ∧ gn ≤ 10000000) (h1 : 1 ≤ c) (h3 : c ≤ 3) : Tells 71 gn c (fun p => softP p gn c) := fun p W hp =>
  (softBits_any p gn c W hp hg h1 h3).mono fun e w' ⟨gb, e1, h1, h2⟩ => ⟨gb, e1, h1.atG (Nat.le_refl _), h2⟩
set_option maxHeartbeats 1000000 in
theorem Soft_wrong (k gn : Int) (A : Option Addr) (n d : Nat) (F : Nat → Gau) (w : World) (hn : n ≤ 100000) (hI : GausAt w 0 A n F) (hE : recvE k gn n F ≠ 0) :
    Calls Tryz.prog 32 #[.agg #[.int .i64 k, .int .i64 gn, .slice A n d]] w fun e w' => e = .returned (.tuple #[.slice none 0 0, .int .i64 (recvE k gn n F)]) ∧ Below w.heap.size w w' := by
  have HC := hide (fun W (h : GausAt W 0 A n F) => bitsOfParts_wrong 71 k gn A n d F W hn h hE)
  have HI := hide hI
  obtain ⟨E, hEE⟩ : ∃ z, recvE k gn n F = z := ⟨_, rfl⟩
  rw [hEE] at HC ⊢
  clear hI hE hEE
  go_enter Tryz.func32, Tryz.ntmps32
  go_upto_region 1 with fail
  obtain ⟨w1, hw1⟩ : ∃ q : World, q = w.alloc (.cells #[.int .i64 k, .int .i64 gn, .slice A n d] 66) := ⟨_, rfl⟩
  try rw [← hw1]
  have HX := hide (show Box w1 w.heap.size 66 #[.int .i64 k, .int .i64 gn, .slice A n d] by rw [hw1]; exact Box.made rfl)
  have HB := hide (show Below w.heap.size w w1 by rw [hw1]; (repeat (first | (with_reducible exact Below.refl _ _) | (with_reducible refine Go.below_drewN ?_ _) | (with_reducible refine Below.drew ?_) | (with_reducible refine Below.alloc ?_ (by first | exact Nat.le_refl _ | (simp; done) | (simp; omega) | omega) _) | (with_reducible refine Below.setCell ?_ (by first | exact Nat.le_refl _ | (simp; done) | (simp; omega) | omega) _))))
  clear hw1
  obtain ⟨c0, c1, c2, hlz⟩ := rec_cells HX.out
  go_wp2_with fail
  refine (HC.out _ (HI.out.below HB.out)).mono ?_
  rintro e w2 ⟨rfl, hb2⟩
  go_wp2_with fail
  go_ret2
  exact ⟨rfl, HB.out.trans (hb2.mono HB.out.size)⟩
set_option maxHeartbeats 1000000 in
theorem Soft_right (gn : Int) (c : Nat) (A : Option Addr) (n d : Nat) (F : Nat → Gau) (w : World) (hc1 : 1 ≤ c) (hc3 : c ≤ 3) (hn : n ≤ 200) (hI : GausAt w 0 A n F) (hE : recvE (2 * (c : Int)) gn n F = 0) :
    Calls Tryz.prog 32 #[.agg #[.int .i64 (2 * (c : Int)), .int .i64 gn, .slice A n d]] w fun e w' => ∃ v, e = .returned (.tuple #[v, .int .i64 0]) ∧ OwnInts w' w.heap.size v (n * (2 * c)) (bopF c (fun p => softP p gn c) F) ∧ Below w.heap.size w w' := by
  have HC := hide (fun W (h : GausAt W 0 A n F) => bitsOfParts_right 71 (enters_of Tryz.func71 (by kernel_rfl) rfl) gn c A n d _ F W hc1 hc3 hn h hE (soft_tells gn c (recvE_gain hE).1 hc1 hc3))
  have HI := hide hI
  obtain ⟨S, hS⟩ : ∃ z, bopF c (fun p => softP p gn c) F = z := ⟨_, rfl⟩
  rw [hS] at HC ⊢
  clear hI hE hS
  go_enter Tryz.func32, Tryz.ntmps32
  go_upto_region 1 with fail
  obtain ⟨w1, hw1⟩ : ∃ q : World, q = w.alloc (.cells #[.int .i64 (2 * (c : Int)), .int .i64 gn, .slice A n d] 66) := ⟨_, rfl⟩
  try rw [← hw1]
  have HX := hide (show Box w1 w.heap.size 66 #[.int .i64 (2 * (c : Int)), .int .i64 gn, .slice A n d] by rw [hw1]; exact Box.made rfl)
  have HB := hide (show Below w.heap.size w w1 by rw [hw1]; (repeat (first | (with_reducible exact Below.refl _ _) | (with_reducible refine Go.below_drewN ?_ _) | (with_reducible refine Below.drew ?_) | (with_reducible refine Below.alloc ?_ (by first | exact Nat.le_refl _ | (simp; done) | (simp; omega) | omega) _) | (with_reducible refine Below.setCell ?_ (by first | exact Nat.le_refl _ | (simp; done) | (simp; omega) | omega) _))))
  have hs1 : w.heap.size ≤ w1.heap.size := HB.out.size
  clear hw1
  obtain ⟨c0, c1, c2, hlz⟩ := rec_cells HX.out
  go_wp2_with fail
  refine (HC.out _ (HI.out.below HB.out)).mono ?_
  rintro e w2 ⟨v, rfl, ho2, hb2⟩
  obtain ⟨Av, cv, rfl, -, -⟩ := ho2.form
  go_wp2_with fail
  go_ret2
  exact ⟨_, rfl, ownS_weak ho2 (by omega), HB.out.trans (hb2.mono HB.out.size)⟩
end Go.Proofs.YtcdplfjegopmdaaGreat
