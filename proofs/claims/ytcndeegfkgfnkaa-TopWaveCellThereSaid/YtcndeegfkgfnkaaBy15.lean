/- Lemmas: H2. -/
import Derived.Test.YtcndeegfkgfnkaaBy03
import Derived.Test.YtcndeegfkgfnkaaBy14
set_option linter.unusedVariables false
set_option linter.unusedSimpArgs false
/- allHalves of the code. -/
namespace Go.Proofs.Ytcndeegfkgfnkaa
open Go.RowKit Go.Great
theorem ListsAt.only {w w' : World} {lo n g : Nat} {A : Option Addr} {L : Nat → Nat} {F : Nat → Nat → Int} (h : ListsAt w lo A n L F) (hg : g < lo) (ho : Only g w w') : ListsAt w' lo A n L F := fun i hi => by
  obtain ⟨b, o, Ai, ci, e, h1, h2, h3, h4, h5, h6⟩ := h i hi
  refine ⟨b, o, Ai, ci, e, h1, Nat.lt_of_lt_of_le h2 ho.size, ?_, h4, h5, h6.only hg ho⟩
  have e2 := ho.block b h2 (fun e => by injection e; omega)
  unfold World.cell? at h3 ⊢
  rw [e2]
  exact h3
theorem OwnLists.only {w w' : World} {base n g : Nat} {v : Value} {L : Nat → Nat} {F : Nat → Nat → Int} (h : OwnLists w base v n L F) (hg : g < base) (ho : Only g w w') : OwnLists w' base v n L F := by
  obtain ⟨xs, h1, h2⟩ := h
  refine ⟨xs, World.ownsRow.kept (w := w) h1 ho (.inr (fun e => by have := (World.ownsRow.lt h1 g e).1; omega)), fun i hi => ?_⟩
  obtain ⟨Ai, ci, e, h3, h4, h5, h6⟩ := h2 i hi
  exact ⟨Ai, ci, e, h3, h4, h5.only hg ho, fun b o e => ⟨(h6 b o e).1, Nat.lt_of_lt_of_le (h6 b o e).2 ho.size⟩⟩
theorem box_two {w : World} {b : Nat} {t : TypeId} {x y : Value} (h : Box w b t #[x, y]) : w.cell? ⟨b, 0, none⟩ = some x ∧ w.cell? ⟨b, 1, none⟩ = some y ∧ w.frozen? ⟨b, 0, none⟩ = false ∧ w.frozen? ⟨b, 1, none⟩ = false ∧ b < w.heap.size :=
  ⟨by have := h.at_ 0; simpa using this, by have := h.at_ 1; simpa using this, h.free 0, h.free 1, h.lt⟩
theorem block_of {w : World} {lo n b o k : Nat} {A : Option Addr} {G : Nat → Int} (h : IntsAt w lo A n G) (e : A = some ⟨b, o, none⟩) (hk : k < n) : lo ≤ b ∧ b < w.heap.size := by
  subst e
  exact h.block hk
theorem Only.from_below {g B : Nat} {a w w' : World} (h : Only g a w) (hb : Below B w w') (hB : a.heap.size ≤ B) : Only g a w' :=
  ⟨hb.os.trans h.os, hb.tape.trans h.tape, hb.output.trans h.output, Nat.le_trans h.size hb.size, fun k hk hn => (hb.block k (by omega)).trans (h.block k hk hn)⟩
theorem OwnLists.weak {w : World} {base lo n : Nat} {v : Value} {L : Nat → Nat} {F : Nat → Nat → Int} (h : OwnLists w base v n L F) (hl : lo ≤ base) : OwnLists w lo v n L F := by
  obtain ⟨xs, g1, g2⟩ := h
  exact ⟨xs, ⟨g1.1, g1.2.elim .inl (fun ⟨g, cp, cu, e1, e2, r⟩ => .inr ⟨g, cp, cu, e1, Nat.le_trans hl e2, r⟩)⟩, fun i hi => by
    obtain ⟨Ai, ci, e1, e2, e3, e4, e5⟩ := g2 i hi
    exact ⟨Ai, ci, e1, e2, e3, e4.weak hl, e5⟩⟩
set_option maxHeartbeats 8000000 in
set_option maxRecDepth 100000 in
theorem allHalves_any (w : World) :
    Calls Try.prog 23 #[] w fun e w' => ∃ v1 v2, e = .returned (.agg #[v1, v2]) ∧ OwnLists w' w.heap.size v1 3 (fun _ => 31) halfA ∧ OwnLists w' w.heap.size v2 336 (fun _ => 31) (fun g => halfB (3 * g)) ∧ Below w.heap.size w w' := by
  have HS := hide (fun i W (hi : i < 100000) => shiftsOf_any i W hi)
  have HFA := hide (fun i W => firstHalf_cap (sgF T2 2) (10 * (i % 3)) (i / 3 % 31) (i / 3 / 31) W (by omega))
  have HFB := hide (fun i W (hi : i < 100000) => secondHalf_cap (sgF T2 2) (sgF T4 4) (10 * (i % 3)) (i / 3 % 31) (i / 3 / 31) W (by omega) (by omega) (fun i j hi hj => by
      rcases sgF_sign (fun i _ => T2_lt i) i hi with e | e <;> rcases sgF_sign (fun i _ => T4_lt i) j hj with e' | e' <;> rw [e, e'] <;> decide))
  have HAE := hide (fun i => (show (fun n => sgF T2 2 ((n + 10 * (i % 3)) % 31)) = halfA i from rfl))
  have HBE := hide (fun i => (show (fun n => sgF T2 2 ((n + i / 3 % 31) % 31) * sgF T4 4 ((n + i / 3 / 31) % 31)) = halfB i from rfl))
  simp only [HAE.out] at HFA
  simp only [HBE.out] at HFB
  clear HAE HBE
  go_enter Try.func23, Try.ntmps23
  go_wp2_with fail
  obtain ⟨W0, hW0⟩ : ∃ q : World, q = w.alloc (.cells #[.slice none 0 0, .slice none 0 0] 64) := ⟨_, rfl⟩
  try rw [← hW0]
  have p0 : Box W0 w.heap.size 64 #[.slice none 0 0, .slice none 0 0] := by rw [hW0]; exact Box.made rfl
  have hB0 : Below w.heap.size w W0 := by rw [hW0]; exact (Below.refl _ _).alloc (Nat.le_refl _) _
  have hs0 : w.heap.size < W0.heap.size := by rw [hW0]; simp
  have hz0 : w.heap.size + 1 = W0.heap.size := by rw [hW0]; simp
  try simp only [hz0]
  clear hW0 hz0
  refine (signsOf_any (some ⟨W0.heap.size, 0, none⟩) 2 2 T2 _ (by decide) (fun i _ => T2_lt i) ((IntsAt.of_list [2, 0] 2 rfl (Box.made rfl) (Nat.zero_le _)).congr (fun i hi => by match i, hi with | 0, _ => rfl | 1, _ => rfl))).mono ?_
  rintro e w1 ⟨rfl, hb1⟩
  have hc1 : Below W0.heap.size W0 w1 := below_behind hb1
  have p1 := p0.below hc1
  have hB1 := hB0.trans (hc1.mono hB0.size)
  clear hb1 p0 hB0
  go_wp2_with fail
  refine (signsOf_any (some ⟨w1.heap.size, 0, none⟩) 4 4 T4 _ (by decide) (fun i _ => T4_lt i) ((IntsAt.of_list [4, 3, 2, 0] 4 rfl (Box.made rfl) (Nat.zero_le _)).congr (fun i hi => by match i, hi with | 0, _ => rfl | 1, _ => rfl | 2, _ => rfl | 3, _ => rfl))).mono ?_
  rintro e w2 ⟨rfl, hb2⟩
  have hc2 : Below w1.heap.size w1 w2 := below_behind hb2
  have p2 := p1.below hc2
  have hB2 := hB1.trans (hc2.mono hB1.size)
  have hs2 : w.heap.size < w2.heap.size := Nat.lt_of_lt_of_le hs0 (Nat.le_trans hc1.size hc2.size)
  clear hb2 hB1 hc1 hc2 p1 hs0
  go_upto_region 2 with (first | (refine wpList_store31 rfl (.tmp 1) (.tmp 7) rfl w2.heap.size (arrF fun _ => 0) (sgF T2 2) rfl rfl ((rowIs_arr31 w2 _ _ rfl).alloc _) ?_; intro W4 r4 o4) | (refine wpList_store31 rfl (.tmp 2) (.tmp 9) rfl (w2.alloc (.cells (arr31 fun _ => 0) 85)).heap.size (arrF fun _ => 0) (sgF T4 4) rfl rfl (o4.row (rowIs_arr31 _ _ _ rfl) (by simp)) ?_; intro W5 r5 o5) | (refine wpList_allocTo rfl (some 1) rfl (.pointer (some ⟨w2.heap.size, 0, none⟩)) (.cells (arr31 fun _ => 0) 85) (by kernel_rfl) ?_) | (refine wpList_allocTo rfl (some 2) rfl (.pointer (some ⟨(w2.alloc (.cells (arr31 fun _ => 0) 85)).heap.size, 0, none⟩)) (.cells (arr31 fun _ => 0) 85) (by kernel_rfl) ?_))
  obtain ⟨g1, hg1⟩ : ∃ g, g = w2.heap.size := ⟨_, rfl⟩
  obtain ⟨g2, hg2⟩ : ∃ g, g = (w2.alloc (.cells (arr31 fun _ => 0) 85)).heap.size := ⟨_, rfl⟩
  have hq1 : w2.heap.size + 1 = g2 := by rw [hg2]; simp
  have hc5 : Below w2.heap.size w2 W5 := (((((Below.refl _ _).alloc (Nat.le_refl _) _).alloc (by simp) _).trans (o4.to_below (by omega) (by simp; omega))).trans (o5.to_below (by simp) (Nat.le_trans (by simp; omega) o4.size)))
  have hB5 := hB2.trans (hc5.mono hB2.size)
  have p5 := p2.below hc5
  have r3 := o5.row r4 (by simp)
  rw [← hg1] at r3
  rw [← hg2] at r5
  try simp only [hq1]
  subst hg1
  have hw1 : w.heap.size < w2.heap.size := hs2
  have hg12 : w2.heap.size < g2 := by omega
  clear hg2 r4 o4 o5 hB2 hc5 p2 hs2
  go_upto_region 3 with fail
  obtain ⟨g3, hg3⟩ : ∃ g, W5.heap.size = g := ⟨_, rfl⟩
  obtain ⟨W6, hW6⟩ : ∃ q : World, q = W5.alloc (.cells #[.slice none 0 0, .slice none 0 0] 64) := ⟨_, rfl⟩
  rw [← hW6]
  have b3 : Box W6 g3 64 #[.slice none 0 0, .slice none 0 0] := by rw [hW6]; exact Box.made hg3.symm
  have hl2 := r5.lt
  have R1 := hide (show W6.rowIs w2.heap.size 85 31 (arrF (sgF T2 2)) by rw [hW6]; exact r3.alloc _)
  have R2 := hide (show W6.rowIs g2 85 31 (arrF (sgF T4 4)) by rw [hW6]; exact r5.alloc _)
  have HP := hide (show Box W6 w.heap.size 64 #[.slice none 0 0, .slice none 0 0] by rw [hW6]; exact p5.alloc _)
  have hB6 : Below w.heap.size w W6 := by rw [hW6]; exact hB5.alloc hB5.size _
  have h36 : g3 < W6.heap.size := by rw [hW6, ← hg3]; simp
  have h13 : w2.heap.size ≠ g3 := by omega
  have h23 : g2 ≠ g3 := by omega
  have h03 : w.heap.size ≠ g3 := by omega
  have h03l : w.heap.size ≤ g3 := by omega
  try simp only [hg3]
  clear hW6 hB5 hg3 r3 r5 p5 hl2
  go_wp2_with fail
  go_loopw [10] (fun i wr => ∃ (k : Nat) (v : Value), k ≤ 3 ∧ i = .int .i64 (k : Int) ∧ Box wr g3 64 #[v, .slice none 0 0] ∧ OwnLists wr W6.heap.size v k (fun _ => 31) halfA ∧ Only g3 W6 wr) (fun i _ => 3 - (Go.RowKit.intOf i).toNat)
  case atStart => exact ⟨0, .slice none 0 0, by decide, rfl, b3, OwnLists.nil_ _ _ _ _, Only.refl _ _⟩
  case round =>
    clear b3
    obtain ⟨k, u, hk, rfl, hB3, hH, hO⟩ := hrel
    obtain ⟨wA, rfl⟩ : ∃ q : World, q = wr := ⟨_, rfl⟩
    by_cases hk3 : k < 3
    · have hkz : (k : Int) < 3 := by omega
      have HSk := hide (fun W => HS.out k W (by omega))
      have HFk := hide (fun W => HFA.out k W)
      have HFW := hide hH
      obtain ⟨hx, hhx⟩ : ∃ z, halfA k = z := ⟨_, rfl⟩
      simp only [hhx] at HFk
      have HSN := hide (show ∀ i, i < k + 1 → snocN k (fun _ => 31) 31 i = 31 ∧ ∀ j, j < snocN k (fun _ => 31) 31 i → snocF k halfA hx i j = halfA i j from fun i hi => by
        unfold snocN snocF
        by_cases e : i < k
        · rw [if_pos e, if_pos e]; exact ⟨rfl, fun _ _ => rfl⟩
        · obtain rfl : i = k := by omega
          rw [if_neg e, if_neg e, hhx]; exact ⟨rfl, fun _ _ => rfl⟩)
      clear hhx HFW
      obtain ⟨s0, hs0⟩ : ∃ z : Int, ((10 * (k % 3) : Nat) : Int) = z := ⟨_, rfl⟩
      obtain ⟨s1, hs1⟩ : ∃ z : Int, ((k / 3 % 31 : Nat) : Int) = z := ⟨_, rfl⟩
      obtain ⟨s2, hs2⟩ : ∃ z : Int, ((k / 3 / 31 : Nat) : Int) = z := ⟨_, rfl⟩
      simp only [hs0, hs1, hs2] at HSk HFk
      clear hs0 hs1 hs2
      go_upto_region 6 with fail
      refine wp_region_held_drew (S := fun w' => Only g3 W6 w') (by kernel_rfl) hO.drew (fun hHeld => ?_)
      refine wpAnyH_take (i := 0) (oi := ⟨some 13, _, _, _, _, _⟩) (v := ?_) rfl (by kernel_rfl) (by kernel_rfl) (by kernel_rfl) (fun _ _ _ h => h) (Or.inl ⟨by rfl, ?_⟩) (by assumption) ?_
      rotate_left
      · (intro w' hSw; (try dsimp only at hSw); go_simp <;> (with_reducible rfl))
      try simp only [Act.put, List.setIfInBounds_toArray, List.set_cons_zero, List.set_cons_succ]
      refine wpAnyH_take (i := 2) (oi := ⟨some 15, _, _, _, _, _⟩) (v := (.agg (arr31 (sgF T2 2)))) rfl (by kernel_rfl) (by kernel_rfl) (by kernel_rfl) (fun _ _ _ h => h) (Or.inl ⟨by rfl, fun w' hSw => exec_load31 rfl (hSw.row R1.out h13)⟩) (by assumption) ?_
      try simp only [Act.put, List.setIfInBounds_toArray, List.set_cons_zero, List.set_cons_succ]
      refine wpAnyH_take (i := 3) (oi := ⟨some 16, _, _, _, _, _⟩) (v := ?_) rfl (by kernel_rfl) (by kernel_rfl) (by kernel_rfl) (fun _ _ _ h => h) (Or.inl ⟨by rfl, ?_⟩) (by assumption) ?_
      rotate_left
      · (intro w' hSw; (try dsimp only at hSw); go_simp <;> (with_reducible rfl))
      try simp only [Act.put, List.setIfInBounds_toArray, List.set_cons_zero, List.set_cons_succ]
      refine wpAnyH_ready (rs := [1, 4]) (by kernel_rfl) (by simp) ?_
      refine AllReadyH.cons (o := ⟨some 14, _, _, _, _, _⟩) rfl (fun K' hK => ?_) (AllReadyH.cons (o := ⟨some 17, _, _, _, _, _⟩) rfl (fun K' hK => ?_) AllReadyH.nil)
      · skip
        obtain ⟨c0, c1, -, -, -⟩ := box_two hB3
        go_simp
        refine hK.out _ _ (by first | exact hO | exact hO.drew) (fun hHeld => ?_)
        clear hK K'
        try simp only [Act.put, List.setIfInBounds_toArray, List.set_cons_zero, List.set_cons_succ]
        clear c0 c1
        refine wpAnyH_ready (rs := [4]) (by kernel_rfl) (by simp) ?_
        refine AllReadyH.cons (o := ⟨some 17, _, _, _, _, _⟩) rfl (fun K' hK => ?_) AllReadyH.nil
        go_simp
        go_at_call 43
        refine (HSk.out _).mono ?_
        rintro r' v2 ⟨rfl, hb2⟩
        have hc2 : Below wA.heap.size wA v2 := by first | exact hb2 | exact below_of_drew hb2 | exact below_of_drew (below_of_drew hb2)
        have O2 := hO.below hc2
        have B2 := hB3.below hc2
        have H2 := hH.below hc2
        clear hb2
        go_wp2_with fail
        refine hK.out _ _ (by first | exact O2 | exact O2.drew) (fun hHeld => ?_)
        clear hK K'
        try simp only [Act.put, List.setIfInBounds_toArray, List.set_cons_zero, List.set_cons_succ]
        refine wpAnyH_ready (rs := [5]) (by kernel_rfl) (by simp) ?_
        refine AllReadyH.cons (o := ⟨some 18, _, _, _, _, _⟩) rfl (fun K' hK => ?_) AllReadyH.nil
        go_simp
        go_at_call 45
        refine (HFk.out _).mono ?_
        rintro r' v3 ⟨A3, rfl, hI3, hb3⟩
        have hc3 : Below v2.heap.size v2 v3 := by first | exact hb3 | exact below_of_drew hb3 | exact below_of_drew (below_of_drew hb3)
        have O3 := O2.below hc3
        have B3 := B2.below hc3
        have H3 := H2.below hc3
        have J3 : IntsAt v3 v2.heap.size A3 31 hx := by have h := hI3; exact h
        clear hb3
        go_wp2_with fail
        refine hK.out _ _ (by first | exact O3 | exact O3.drew) (fun hHeld => ?_)
        clear hK K'
        try simp only [Act.put, List.setIfInBounds_toArray, List.set_cons_zero, List.set_cons_succ]
        refine wpAnyH_ready (rs := [6]) (by kernel_rfl) (by simp) ?_
        refine AllReadyH.cons (o := ⟨some 19, _, _, _, _, _⟩) rfl (fun K' hK => ?_) AllReadyH.nil
        go_simp
        have O4 := O3.alloc (.cells #[.slice A3 31 31] 22)
        have B4 := B3.alloc (.cells #[.slice A3 31 31] 22)
        have H4 := H3.alloc (.cells #[.slice A3 31 31] 22)
        have J4 := J3.alloc (.cells #[.slice A3 31 31] 22)
        obtain ⟨q4, hq4⟩ : ∃ z, v3.heap.size = z := ⟨_, rfl⟩
        have x4 : (v3.alloc (.cells #[.slice A3 31 31] 22)).cell? ⟨q4, 0, none⟩ = some (.slice A3 31 31) := by rw [← hq4]; exact (Box.made rfl : Box _ v3.heap.size 22 #[.slice A3 31 31]).at_ 0
        try simp only [hq4]
        refine hK.out _ _ (by first | exact O4 | exact O4.drew) (fun hHeld => ?_)
        clear hK K'
        try simp only [Act.put, List.setIfInBounds_toArray, List.set_cons_zero, List.set_cons_succ]
        refine wpAnyH_ready (rs := [7]) (by kernel_rfl) (by simp) ?_
        refine AllReadyH.cons (o := ⟨some 20, _, _, _, _, _⟩) rfl (fun K' hK => ?_) AllReadyH.nil
        have hap5 : ∀ b o, A3 = some ⟨b, o, none⟩ → (u : Value).ownBlock ≠ some b ∧ b < (v3.alloc (.cells #[.slice A3 31 31] 22)).heap.size := fun b o e => by
          have h3 := block_of J4 e (show 0 < 31 by decide)
          exact ⟨fun z => (by have h1 := (H2.lt z).2; omega), h3.2⟩
        refine step_append_list _ rfl (.tmp 14) (.tmp 19) rfl W6.heap.size u k (fun _ => 31) halfA (by first | rfl | (go_simp; done)) (by have h := H4; exact h) q4 A3 31 31 hx (by first | rfl | (go_simp; done)) (by have h := x4; exact h) (by decide) (by decide) (by have h := J4.weak O2.size; exact h) (by have h := hap5; exact h) (by omega) (by have h := O4.size; exact h) (fun v' w5 h5 hb5 => ?_)
        obtain ⟨Av, cv, rfl, -, -, -⟩ := OwnLists.form h5
        have hc5 : Below W6.heap.size (v3.alloc (.cells #[.slice A3 31 31] 22)) w5 := by first | exact hb5 | exact ⟨hb5.os, hb5.tape, hb5.output, hb5.size, hb5.block⟩
        have O5 : Only g3 W6 w5 := O4.from_below hc5 (Nat.le_refl _)
        have B5 := B4.kept hc5 h36
        refine hK.out _ _ (by first | exact O5 | exact O5.drew) (fun hHeld => ?_)
        clear hK K'
        try simp only [Act.put, List.setIfInBounds_toArray, List.set_cons_zero, List.set_cons_succ]
        refine wpAnyH_take (i := 8) (oi := ⟨some 21, _, _, _, _, _⟩) (v := ?_) rfl (by kernel_rfl) (by kernel_rfl) (by kernel_rfl) (fun _ _ _ h => h) (Or.inl ⟨by rfl, ?_⟩) (by assumption) ?_
        rotate_left
        · (intro w' hSw; (try dsimp only at hSw); go_simp <;> (with_reducible rfl))
        try simp only [Act.put, List.setIfInBounds_toArray, List.set_cons_zero, List.set_cons_succ]
        refine wpAnyH_ready (rs := [9]) (by kernel_rfl) (by simp) ?_
        refine AllReadyH.cons (o := ⟨none, _, _, _, _, _⟩) rfl (fun K' hK => ?_) AllReadyH.nil
        obtain ⟨c0, c1, f0, f1, hl⟩ := box_two B5
        have O6 := hide (O5.set_ 0 (.slice Av (k + 1) cv))
        have B6 := hide (show Box (w5.setCell ⟨g3, 0, none⟩ (.slice Av (k + 1) cv)) g3 64 #[(.slice Av (k + 1) cv), .slice none 0 0] by have h := B5.set_ 0 (.slice Av (k + 1) cv); simpa using h)
        have H6 := hide (h5.only (g := g3) h36 ((Only.refl g3 w5).set_ 0 (.slice Av (k + 1) cv)))
        go_simp
        refine hK.out _ _ (by first | exact O6.out | exact O6.out.drew) (fun hHeld => ?_)
        clear hK K'
        try simp only [Act.put, List.setIfInBounds_toArray, List.set_cons_zero, List.set_cons_succ]
        clear c0 c1 f0 f1 hl
        refine wpAnyH_done (by kernel_rfl) ?_ _
        go_wp2_with fail
        go_roundw
        case rel => exact ⟨k + 1, _, by omega, by go_num, B6.out, H6.out.congr HSN.out, O6.out⟩
        case measure => simp [Go.RowKit.intOf]; omega
      · skip
        go_simp
        go_at_call 43
        refine (HSk.out _).mono ?_
        rintro r' v7 ⟨rfl, hb7⟩
        have hc7 : Below wA.heap.size wA v7 := by first | exact hb7 | exact below_of_drew hb7 | exact below_of_drew (below_of_drew hb7)
        have O7 := hO.below hc7
        have B7 := hB3.below hc7
        have H7 := hH.below hc7
        clear hb7
        go_wp2_with fail
        refine hK.out _ _ (by first | exact O7 | exact O7.drew) (fun hHeld => ?_)
        clear hK K'
        try simp only [Act.put, List.setIfInBounds_toArray, List.set_cons_zero, List.set_cons_succ]
        refine wpAnyH_ready (rs := [1, 5]) (by kernel_rfl) (by simp) ?_
        refine AllReadyH.cons (o := ⟨some 14, _, _, _, _, _⟩) rfl (fun K' hK => ?_) (AllReadyH.cons (o := ⟨some 18, _, _, _, _, _⟩) rfl (fun K' hK => ?_) AllReadyH.nil)
        · skip
          obtain ⟨c0, c1, -, -, -⟩ := box_two B7
          go_simp
          refine hK.out _ _ (by first | exact O7 | exact O7.drew) (fun hHeld => ?_)
          clear hK K'
          try simp only [Act.put, List.setIfInBounds_toArray, List.set_cons_zero, List.set_cons_succ]
          clear c0 c1
          refine wpAnyH_ready (rs := [5]) (by kernel_rfl) (by simp) ?_
          refine AllReadyH.cons (o := ⟨some 18, _, _, _, _, _⟩) rfl (fun K' hK => ?_) AllReadyH.nil
          go_simp
          go_at_call 45
          refine (HFk.out _).mono ?_
          rintro r' v9 ⟨A9, rfl, hI9, hb9⟩
          have hc9 : Below v7.heap.size v7 v9 := by first | exact hb9 | exact below_of_drew hb9 | exact below_of_drew (below_of_drew hb9)
          have O9 := O7.below hc9
          have B9 := B7.below hc9
          have H9 := H7.below hc9
          have J9 : IntsAt v9 v7.heap.size A9 31 hx := by have h := hI9; exact h
          clear hb9
          go_wp2_with fail
          refine hK.out _ _ (by first | exact O9 | exact O9.drew) (fun hHeld => ?_)
          clear hK K'
          try simp only [Act.put, List.setIfInBounds_toArray, List.set_cons_zero, List.set_cons_succ]
          refine wpAnyH_ready (rs := [6]) (by kernel_rfl) (by simp) ?_
          refine AllReadyH.cons (o := ⟨some 19, _, _, _, _, _⟩) rfl (fun K' hK => ?_) AllReadyH.nil
          go_simp
          have O10 := O9.alloc (.cells #[.slice A9 31 31] 22)
          have B10 := B9.alloc (.cells #[.slice A9 31 31] 22)
          have H10 := H9.alloc (.cells #[.slice A9 31 31] 22)
          have J10 := J9.alloc (.cells #[.slice A9 31 31] 22)
          obtain ⟨q10, hq10⟩ : ∃ z, v9.heap.size = z := ⟨_, rfl⟩
          have x10 : (v9.alloc (.cells #[.slice A9 31 31] 22)).cell? ⟨q10, 0, none⟩ = some (.slice A9 31 31) := by rw [← hq10]; exact (Box.made rfl : Box _ v9.heap.size 22 #[.slice A9 31 31]).at_ 0
          try simp only [hq10]
          refine hK.out _ _ (by first | exact O10 | exact O10.drew) (fun hHeld => ?_)
          clear hK K'
          try simp only [Act.put, List.setIfInBounds_toArray, List.set_cons_zero, List.set_cons_succ]
          refine wpAnyH_ready (rs := [7]) (by kernel_rfl) (by simp) ?_
          refine AllReadyH.cons (o := ⟨some 20, _, _, _, _, _⟩) rfl (fun K' hK => ?_) AllReadyH.nil
          have hap11 : ∀ b o, A9 = some ⟨b, o, none⟩ → (u : Value).ownBlock ≠ some b ∧ b < (v9.alloc (.cells #[.slice A9 31 31] 22)).heap.size := fun b o e => by
            have h3 := block_of J10 e (show 0 < 31 by decide)
            exact ⟨fun z => (by have h1 := (H7.lt z).2; omega), h3.2⟩
          refine step_append_list _ rfl (.tmp 14) (.tmp 19) rfl W6.heap.size u k (fun _ => 31) halfA (by first | rfl | (go_simp; done)) (by have h := H10; exact h) q10 A9 31 31 hx (by first | rfl | (go_simp; done)) (by have h := x10; exact h) (by decide) (by decide) (by have h := J10.weak O7.size; exact h) (by have h := hap11; exact h) (by omega) (by have h := O10.size; exact h) (fun v' w11 h11 hb11 => ?_)
          obtain ⟨Av, cv, rfl, -, -, -⟩ := OwnLists.form h11
          have hc11 : Below W6.heap.size (v9.alloc (.cells #[.slice A9 31 31] 22)) w11 := by first | exact hb11 | exact ⟨hb11.os, hb11.tape, hb11.output, hb11.size, hb11.block⟩
          have O11 : Only g3 W6 w11 := O10.from_below hc11 (Nat.le_refl _)
          have B11 := B10.kept hc11 h36
          refine hK.out _ _ (by first | exact O11 | exact O11.drew) (fun hHeld => ?_)
          clear hK K'
          try simp only [Act.put, List.setIfInBounds_toArray, List.set_cons_zero, List.set_cons_succ]
          refine wpAnyH_take (i := 8) (oi := ⟨some 21, _, _, _, _, _⟩) (v := ?_) rfl (by kernel_rfl) (by kernel_rfl) (by kernel_rfl) (fun _ _ _ h => h) (Or.inl ⟨by rfl, ?_⟩) (by assumption) ?_
          rotate_left
          · (intro w' hSw; (try dsimp only at hSw); go_simp <;> (with_reducible rfl))
          try simp only [Act.put, List.setIfInBounds_toArray, List.set_cons_zero, List.set_cons_succ]
          refine wpAnyH_ready (rs := [9]) (by kernel_rfl) (by simp) ?_
          refine AllReadyH.cons (o := ⟨none, _, _, _, _, _⟩) rfl (fun K' hK => ?_) AllReadyH.nil
          obtain ⟨c0, c1, f0, f1, hl⟩ := box_two B11
          have O12 := hide (O11.set_ 0 (.slice Av (k + 1) cv))
          have B12 := hide (show Box (w11.setCell ⟨g3, 0, none⟩ (.slice Av (k + 1) cv)) g3 64 #[(.slice Av (k + 1) cv), .slice none 0 0] by have h := B11.set_ 0 (.slice Av (k + 1) cv); simpa using h)
          have H12 := hide (h11.only (g := g3) h36 ((Only.refl g3 w11).set_ 0 (.slice Av (k + 1) cv)))
          go_simp
          refine hK.out _ _ (by first | exact O12.out | exact O12.out.drew) (fun hHeld => ?_)
          clear hK K'
          try simp only [Act.put, List.setIfInBounds_toArray, List.set_cons_zero, List.set_cons_succ]
          clear c0 c1 f0 f1 hl
          refine wpAnyH_done (by kernel_rfl) ?_ _
          go_wp2_with fail
          go_roundw
          case rel => exact ⟨k + 1, _, by omega, by go_num, B12.out, H12.out.congr HSN.out, O12.out⟩
          case measure => simp [Go.RowKit.intOf]; omega
        · skip
          go_simp
          go_at_call 45
          refine (HFk.out _).mono ?_
          rintro r' v13 ⟨A13, rfl, hI13, hb13⟩
          have hc13 : Below v7.heap.size v7 v13 := by first | exact hb13 | exact below_of_drew hb13 | exact below_of_drew (below_of_drew hb13)
          have O13 := O7.below hc13
          have B13 := B7.below hc13
          have H13 := H7.below hc13
          have J13 : IntsAt v13 v7.heap.size A13 31 hx := by have h := hI13; exact h
          clear hb13
          go_wp2_with fail
          refine hK.out _ _ (by first | exact O13 | exact O13.drew) (fun hHeld => ?_)
          clear hK K'
          try simp only [Act.put, List.setIfInBounds_toArray, List.set_cons_zero, List.set_cons_succ]
          refine wpAnyH_ready (rs := [1, 6]) (by kernel_rfl) (by simp) ?_
          refine AllReadyH.cons (o := ⟨some 14, _, _, _, _, _⟩) rfl (fun K' hK => ?_) (AllReadyH.cons (o := ⟨some 19, _, _, _, _, _⟩) rfl (fun K' hK => ?_) AllReadyH.nil)
          · skip
            obtain ⟨c0, c1, -, -, -⟩ := box_two B13
            go_simp
            refine hK.out _ _ (by first | exact O13 | exact O13.drew) (fun hHeld => ?_)
            clear hK K'
            try simp only [Act.put, List.setIfInBounds_toArray, List.set_cons_zero, List.set_cons_succ]
            clear c0 c1
            refine wpAnyH_ready (rs := [6]) (by kernel_rfl) (by simp) ?_
            refine AllReadyH.cons (o := ⟨some 19, _, _, _, _, _⟩) rfl (fun K' hK => ?_) AllReadyH.nil
            go_simp
            have O15 := O13.alloc (.cells #[.slice A13 31 31] 22)
            have B15 := B13.alloc (.cells #[.slice A13 31 31] 22)
            have H15 := H13.alloc (.cells #[.slice A13 31 31] 22)
            have J15 := J13.alloc (.cells #[.slice A13 31 31] 22)
            obtain ⟨q15, hq15⟩ : ∃ z, v13.heap.size = z := ⟨_, rfl⟩
            have x15 : (v13.alloc (.cells #[.slice A13 31 31] 22)).cell? ⟨q15, 0, none⟩ = some (.slice A13 31 31) := by rw [← hq15]; exact (Box.made rfl : Box _ v13.heap.size 22 #[.slice A13 31 31]).at_ 0
            try simp only [hq15]
            refine hK.out _ _ (by first | exact O15 | exact O15.drew) (fun hHeld => ?_)
            clear hK K'
            try simp only [Act.put, List.setIfInBounds_toArray, List.set_cons_zero, List.set_cons_succ]
            refine wpAnyH_ready (rs := [7]) (by kernel_rfl) (by simp) ?_
            refine AllReadyH.cons (o := ⟨some 20, _, _, _, _, _⟩) rfl (fun K' hK => ?_) AllReadyH.nil
            have hap16 : ∀ b o, A13 = some ⟨b, o, none⟩ → (u : Value).ownBlock ≠ some b ∧ b < (v13.alloc (.cells #[.slice A13 31 31] 22)).heap.size := fun b o e => by
              have h3 := block_of J15 e (show 0 < 31 by decide)
              exact ⟨fun z => (by have h1 := (H7.lt z).2; omega), h3.2⟩
            refine step_append_list _ rfl (.tmp 14) (.tmp 19) rfl W6.heap.size u k (fun _ => 31) halfA (by first | rfl | (go_simp; done)) (by have h := H15; exact h) q15 A13 31 31 hx (by first | rfl | (go_simp; done)) (by have h := x15; exact h) (by decide) (by decide) (by have h := J15.weak O7.size; exact h) (by have h := hap16; exact h) (by omega) (by have h := O15.size; exact h) (fun v' w16 h16 hb16 => ?_)
            obtain ⟨Av, cv, rfl, -, -, -⟩ := OwnLists.form h16
            have hc16 : Below W6.heap.size (v13.alloc (.cells #[.slice A13 31 31] 22)) w16 := by first | exact hb16 | exact ⟨hb16.os, hb16.tape, hb16.output, hb16.size, hb16.block⟩
            have O16 : Only g3 W6 w16 := O15.from_below hc16 (Nat.le_refl _)
            have B16 := B15.kept hc16 h36
            refine hK.out _ _ (by first | exact O16 | exact O16.drew) (fun hHeld => ?_)
            clear hK K'
            try simp only [Act.put, List.setIfInBounds_toArray, List.set_cons_zero, List.set_cons_succ]
            refine wpAnyH_take (i := 8) (oi := ⟨some 21, _, _, _, _, _⟩) (v := ?_) rfl (by kernel_rfl) (by kernel_rfl) (by kernel_rfl) (fun _ _ _ h => h) (Or.inl ⟨by rfl, ?_⟩) (by assumption) ?_
            rotate_left
            · (intro w' hSw; (try dsimp only at hSw); go_simp <;> (with_reducible rfl))
            try simp only [Act.put, List.setIfInBounds_toArray, List.set_cons_zero, List.set_cons_succ]
            refine wpAnyH_ready (rs := [9]) (by kernel_rfl) (by simp) ?_
            refine AllReadyH.cons (o := ⟨none, _, _, _, _, _⟩) rfl (fun K' hK => ?_) AllReadyH.nil
            obtain ⟨c0, c1, f0, f1, hl⟩ := box_two B16
            have O17 := hide (O16.set_ 0 (.slice Av (k + 1) cv))
            have B17 := hide (show Box (w16.setCell ⟨g3, 0, none⟩ (.slice Av (k + 1) cv)) g3 64 #[(.slice Av (k + 1) cv), .slice none 0 0] by have h := B16.set_ 0 (.slice Av (k + 1) cv); simpa using h)
            have H17 := hide (h16.only (g := g3) h36 ((Only.refl g3 w16).set_ 0 (.slice Av (k + 1) cv)))
            go_simp
            refine hK.out _ _ (by first | exact O17.out | exact O17.out.drew) (fun hHeld => ?_)
            clear hK K'
            try simp only [Act.put, List.setIfInBounds_toArray, List.set_cons_zero, List.set_cons_succ]
            clear c0 c1 f0 f1 hl
            refine wpAnyH_done (by kernel_rfl) ?_ _
            go_wp2_with fail
            go_roundw
            case rel => exact ⟨k + 1, _, by omega, by go_num, B17.out, H17.out.congr HSN.out, O17.out⟩
            case measure => simp [Go.RowKit.intOf]; omega
          · skip
            go_simp
            have O18 := O13.alloc (.cells #[.slice A13 31 31] 22)
            have B18 := B13.alloc (.cells #[.slice A13 31 31] 22)
            have H18 := H13.alloc (.cells #[.slice A13 31 31] 22)
            have J18 := J13.alloc (.cells #[.slice A13 31 31] 22)
            obtain ⟨q18, hq18⟩ : ∃ z, v13.heap.size = z := ⟨_, rfl⟩
            have x18 : (v13.alloc (.cells #[.slice A13 31 31] 22)).cell? ⟨q18, 0, none⟩ = some (.slice A13 31 31) := by rw [← hq18]; exact (Box.made rfl : Box _ v13.heap.size 22 #[.slice A13 31 31]).at_ 0
            try simp only [hq18]
            refine hK.out _ _ (by first | exact O18 | exact O18.drew) (fun hHeld => ?_)
            clear hK K'
            try simp only [Act.put, List.setIfInBounds_toArray, List.set_cons_zero, List.set_cons_succ]
            refine wpAnyH_ready (rs := [1]) (by kernel_rfl) (by simp) ?_
            refine AllReadyH.cons (o := ⟨some 14, _, _, _, _, _⟩) rfl (fun K' hK => ?_) AllReadyH.nil
            obtain ⟨c0, c1, -, -, -⟩ := box_two B18
            go_simp
            refine hK.out _ _ (by first | exact O18 | exact O18.drew) (fun hHeld => ?_)
            clear hK K'
            try simp only [Act.put, List.setIfInBounds_toArray, List.set_cons_zero, List.set_cons_succ]
            clear c0 c1
            refine wpAnyH_ready (rs := [7]) (by kernel_rfl) (by simp) ?_
            refine AllReadyH.cons (o := ⟨some 20, _, _, _, _, _⟩) rfl (fun K' hK => ?_) AllReadyH.nil
            have hap20 : ∀ b o, A13 = some ⟨b, o, none⟩ → (u : Value).ownBlock ≠ some b ∧ b < (v13.alloc (.cells #[.slice A13 31 31] 22)).heap.size := fun b o e => by
              have h3 := block_of J18 e (show 0 < 31 by decide)
              exact ⟨fun z => (by have h1 := (H7.lt z).2; omega), h3.2⟩
            refine step_append_list _ rfl (.tmp 14) (.tmp 19) rfl W6.heap.size u k (fun _ => 31) halfA (by first | rfl | (go_simp; done)) (by have h := H18; exact h) q18 A13 31 31 hx (by first | rfl | (go_simp; done)) (by have h := x18; exact h) (by decide) (by decide) (by have h := J18.weak O7.size; exact h) (by have h := hap20; exact h) (by omega) (by have h := O18.size; exact h) (fun v' w20 h20 hb20 => ?_)
            obtain ⟨Av, cv, rfl, -, -, -⟩ := OwnLists.form h20
            have hc20 : Below W6.heap.size (v13.alloc (.cells #[.slice A13 31 31] 22)) w20 := by first | exact hb20 | exact ⟨hb20.os, hb20.tape, hb20.output, hb20.size, hb20.block⟩
            have O20 : Only g3 W6 w20 := O18.from_below hc20 (Nat.le_refl _)
            have B20 := B18.kept hc20 h36
            refine hK.out _ _ (by first | exact O20 | exact O20.drew) (fun hHeld => ?_)
            clear hK K'
            try simp only [Act.put, List.setIfInBounds_toArray, List.set_cons_zero, List.set_cons_succ]
            refine wpAnyH_take (i := 8) (oi := ⟨some 21, _, _, _, _, _⟩) (v := ?_) rfl (by kernel_rfl) (by kernel_rfl) (by kernel_rfl) (fun _ _ _ h => h) (Or.inl ⟨by rfl, ?_⟩) (by assumption) ?_
            rotate_left
            · (intro w' hSw; (try dsimp only at hSw); go_simp <;> (with_reducible rfl))
            try simp only [Act.put, List.setIfInBounds_toArray, List.set_cons_zero, List.set_cons_succ]
            refine wpAnyH_ready (rs := [9]) (by kernel_rfl) (by simp) ?_
            refine AllReadyH.cons (o := ⟨none, _, _, _, _, _⟩) rfl (fun K' hK => ?_) AllReadyH.nil
            obtain ⟨c0, c1, f0, f1, hl⟩ := box_two B20
            have O21 := hide (O20.set_ 0 (.slice Av (k + 1) cv))
            have B21 := hide (show Box (w20.setCell ⟨g3, 0, none⟩ (.slice Av (k + 1) cv)) g3 64 #[(.slice Av (k + 1) cv), .slice none 0 0] by have h := B20.set_ 0 (.slice Av (k + 1) cv); simpa using h)
            have H21 := hide (h20.only (g := g3) h36 ((Only.refl g3 w20).set_ 0 (.slice Av (k + 1) cv)))
            go_simp
            refine hK.out _ _ (by first | exact O21.out | exact O21.out.drew) (fun hHeld => ?_)
            clear hK K'
            try simp only [Act.put, List.setIfInBounds_toArray, List.set_cons_zero, List.set_cons_succ]
            clear c0 c1 f0 f1 hl
            refine wpAnyH_done (by kernel_rfl) ?_ _
            go_wp2_with fail
            go_roundw
            case rel => exact ⟨k + 1, _, by omega, by go_num, B21.out, H21.out.congr HSN.out, O21.out⟩
            case measure => simp [Go.RowKit.intOf]; omega
    · obtain rfl : k = 3 := by omega
      have hle := hO.size
      have hBA : Below w.heap.size w wA := hB6.trans (hO.to_below h03l hB6.size)
      have HP2 := hide (hO.box HP.out h03)
      have R12 := hide (hO.row R1.out h13)
      have R22 := hide (hO.row R2.out h23)
      obtain ⟨wS, rfl⟩ : ∃ q : World, q = wA := ⟨_, rfl⟩
      obtain ⟨u1, rfl⟩ : ∃ q : Value, q = u := ⟨_, rfl⟩
      have h36S : g3 < wS.heap.size := by omega
      go_wp2_with fail
      go_loopw [5] (fun i wr => ∃ (k : Nat) (v : Value), k ≤ 336 ∧ i = .int .i64 ((3 * k : Nat) : Int) ∧ Box wr g3 64 #[u1, v] ∧ OwnLists wr wS.heap.size v k (fun _ => 31) (fun g => halfB (3 * g)) ∧ Only g3 wS wr) (fun i _ => 1008 - (Go.RowKit.intOf i).toNat)
      case atStart => exact ⟨0, .slice none 0 0, by decide, rfl, hB3, OwnLists.nil_ _ _ _ _, Only.refl _ _⟩
      case round =>
        have HH1 := hide hH
        have HO1 := hide hO
        clear hB3 hH hO
        obtain ⟨k, u, hk, rfl, hB3, hH, hO⟩ := hrel
        obtain ⟨wA, rfl⟩ : ∃ q : World, q = wr := ⟨_, rfl⟩
        by_cases hk3 : k < 336
        · have hkz : ((3 * k : Nat) : Int) < 1008 := by omega
          have HSk := hide (fun W => HS.out (3 * k) W (by omega))
          have HFk := hide (fun W => HFB.out (3 * k) W (by omega))
          obtain ⟨hx, hhx⟩ : ∃ z, halfB (3 * k) = z := ⟨_, rfl⟩
          simp only [hhx] at HFk
          have HSN := hide (show ∀ i, i < k + 1 → snocN k (fun _ => 31) 31 i = 31 ∧ ∀ j, j < snocN k (fun _ => 31) 31 i → snocF k (fun g => halfB (3 * g)) hx i j = halfB (3 * i) j from fun i hi => by
            unfold snocN snocF
            by_cases e : i < k
            · rw [if_pos e, if_pos e]; exact ⟨rfl, fun _ _ => rfl⟩
            · obtain rfl : i = k := by omega
              rw [if_neg e, if_neg e, hhx]; exact ⟨rfl, fun _ _ => rfl⟩)
          clear hhx
          have q1 : IntKind.i64.wrap (((3 * k : Nat) : Int) + 3) = ((3 * (k + 1) : Nat) : Int) := by rw [IntWalk.i64_in _ (by omega)]; omega
          obtain ⟨s0, hs0⟩ : ∃ z : Int, ((10 * (3 * k % 3) : Nat) : Int) = z := ⟨_, rfl⟩
          obtain ⟨s1, hs1⟩ : ∃ z : Int, ((3 * k / 3 % 31 : Nat) : Int) = z := ⟨_, rfl⟩
          obtain ⟨s2, hs2⟩ : ∃ z : Int, ((3 * k / 3 / 31 : Nat) : Int) = z := ⟨_, rfl⟩
          simp only [hs0, hs1, hs2] at HSk HFk
          clear hs0 hs1 hs2
          obtain ⟨kk, hkk⟩ : ∃ z : Int, ((3 * k : Nat) : Int) = z := ⟨_, rfl⟩
          obtain ⟨kn, hkn⟩ : ∃ z : Int, ((3 * (k + 1) : Nat) : Int) = z := ⟨_, rfl⟩
          have HKN := hide hkn
          have HKK := hide hkk
          simp only [hkk] at HSk q1 hkz ⊢
          simp only [hkn] at q1
          clear hkk hkn
          go_upto_region 11 with fail
          refine wp_region_held_drew (S := fun w' => Only g3 wS w') (by kernel_rfl) hO.drew (fun hHeld => ?_)
          refine wpAnyH_take (i := 0) (oi := ⟨some 27, _, _, _, _, _⟩) (v := ?_) rfl (by kernel_rfl) (by kernel_rfl) (by kernel_rfl) (fun _ _ _ h => h) (Or.inl ⟨by rfl, ?_⟩) (by assumption) ?_
          rotate_left
          · (intro w' hSw; (try dsimp only at hSw); go_simp <;> (with_reducible rfl))
          try simp only [Act.put, List.setIfInBounds_toArray, List.set_cons_zero, List.set_cons_succ]
          refine wpAnyH_take (i := 2) (oi := ⟨some 29, _, _, _, _, _⟩) (v := (.agg (arr31 (sgF T2 2)))) rfl (by kernel_rfl) (by kernel_rfl) (by kernel_rfl) (fun _ _ _ h => h) (Or.inl ⟨by rfl, fun w' hSw => exec_load31 rfl (hSw.row R12.out h13)⟩) (by assumption) ?_
          try simp only [Act.put, List.setIfInBounds_toArray, List.set_cons_zero, List.set_cons_succ]
          refine wpAnyH_take (i := 3) (oi := ⟨some 30, _, _, _, _, _⟩) (v := (.agg (arr31 (sgF T4 4)))) rfl (by kernel_rfl) (by kernel_rfl) (by kernel_rfl) (fun _ _ _ h => h) (Or.inl ⟨by rfl, fun w' hSw => exec_load31 rfl (hSw.row R22.out h23)⟩) (by assumption) ?_
          try simp only [Act.put, List.setIfInBounds_toArray, List.set_cons_zero, List.set_cons_succ]
          refine wpAnyH_take (i := 4) (oi := ⟨some 31, _, _, _, _, _⟩) (v := ?_) rfl (by kernel_rfl) (by kernel_rfl) (by kernel_rfl) (fun _ _ _ h => h) (Or.inl ⟨by rfl, ?_⟩) (by assumption) ?_
          rotate_left
          · (intro w' hSw; (try dsimp only at hSw); go_simp <;> (with_reducible rfl))
          try simp only [Act.put, List.setIfInBounds_toArray, List.set_cons_zero, List.set_cons_succ]
          refine wpAnyH_ready (rs := [1, 5]) (by kernel_rfl) (by simp) ?_
          refine AllReadyH.cons (o := ⟨some 28, _, _, _, _, _⟩) rfl (fun K' hK => ?_) (AllReadyH.cons (o := ⟨some 32, _, _, _, _, _⟩) rfl (fun K' hK => ?_) AllReadyH.nil)
          · skip
            obtain ⟨c0, c1, -, -, -⟩ := box_two hB3
            go_simp
            refine hK.out _ _ (by first | exact hO | exact hO.drew) (fun hHeld => ?_)
            clear hK K'
            try simp only [Act.put, List.setIfInBounds_toArray, List.set_cons_zero, List.set_cons_succ]
            clear c0 c1
            refine wpAnyH_ready (rs := [5]) (by kernel_rfl) (by simp) ?_
            refine AllReadyH.cons (o := ⟨some 32, _, _, _, _, _⟩) rfl (fun K' hK => ?_) AllReadyH.nil
            go_simp
            go_at_call 43
            refine (HSk.out _).mono ?_
            rintro r' v23 ⟨rfl, hb23⟩
            have hc23 : Below wA.heap.size wA v23 := by first | exact hb23 | exact below_of_drew hb23 | exact below_of_drew (below_of_drew hb23)
            have O23 := hO.below hc23
            have B23 := hB3.below hc23
            have H23 := hH.below hc23
            clear hb23
            go_wp2_with fail
            refine hK.out _ _ (by first | exact O23 | exact O23.drew) (fun hHeld => ?_)
            clear hK K'
            try simp only [Act.put, List.setIfInBounds_toArray, List.set_cons_zero, List.set_cons_succ]
            refine wpAnyH_ready (rs := [6]) (by kernel_rfl) (by simp) ?_
            refine AllReadyH.cons (o := ⟨some 33, _, _, _, _, _⟩) rfl (fun K' hK => ?_) AllReadyH.nil
            go_simp
            go_at_call 46
            refine (HFk.out _).mono ?_
            rintro r' v24 ⟨A24, rfl, hI24, hb24⟩
            have hc24 : Below v23.heap.size v23 v24 := by first | exact hb24 | exact below_of_drew hb24 | exact below_of_drew (below_of_drew hb24)
            have O24 := O23.below hc24
            have B24 := B23.below hc24
            have H24 := H23.below hc24
            have J24 : IntsAt v24 v23.heap.size A24 31 hx := by have h := hI24; exact h
            clear hb24
            go_wp2_with fail
            refine hK.out _ _ (by first | exact O24 | exact O24.drew) (fun hHeld => ?_)
            clear hK K'
            try simp only [Act.put, List.setIfInBounds_toArray, List.set_cons_zero, List.set_cons_succ]
            refine wpAnyH_ready (rs := [7]) (by kernel_rfl) (by simp) ?_
            refine AllReadyH.cons (o := ⟨some 34, _, _, _, _, _⟩) rfl (fun K' hK => ?_) AllReadyH.nil
            go_simp
            have O25 := O24.alloc (.cells #[.slice A24 31 31] 22)
            have B25 := B24.alloc (.cells #[.slice A24 31 31] 22)
            have H25 := H24.alloc (.cells #[.slice A24 31 31] 22)
            have J25 := J24.alloc (.cells #[.slice A24 31 31] 22)
            obtain ⟨q25, hq25⟩ : ∃ z, v24.heap.size = z := ⟨_, rfl⟩
            have x25 : (v24.alloc (.cells #[.slice A24 31 31] 22)).cell? ⟨q25, 0, none⟩ = some (.slice A24 31 31) := by rw [← hq25]; exact (Box.made rfl : Box _ v24.heap.size 22 #[.slice A24 31 31]).at_ 0
            try simp only [hq25]
            refine hK.out _ _ (by first | exact O25 | exact O25.drew) (fun hHeld => ?_)
            clear hK K'
            try simp only [Act.put, List.setIfInBounds_toArray, List.set_cons_zero, List.set_cons_succ]
            refine wpAnyH_ready (rs := [8]) (by kernel_rfl) (by simp) ?_
            refine AllReadyH.cons (o := ⟨some 35, _, _, _, _, _⟩) rfl (fun K' hK => ?_) AllReadyH.nil
            have hap26 : ∀ b o, A24 = some ⟨b, o, none⟩ → (u : Value).ownBlock ≠ some b ∧ b < (v24.alloc (.cells #[.slice A24 31 31] 22)).heap.size := fun b o e => by
              have h3 := block_of J25 e (show 0 < 31 by decide)
              exact ⟨fun z => (by have h1 := (H23.lt z).2; omega), h3.2⟩
            refine step_append_list _ rfl (.tmp 28) (.tmp 34) rfl wS.heap.size u k (fun _ => 31) (fun g => halfB (3 * g)) (by first | rfl | (go_simp; done)) (by have h := H25; exact h) q25 A24 31 31 hx (by first | rfl | (go_simp; done)) (by have h := x25; exact h) (by decide) (by decide) (by have h := J25.weak O23.size; exact h) (by have h := hap26; exact h) (by omega) (by have h := O25.size; exact h) (fun v' w26 h26 hb26 => ?_)
            obtain ⟨Av, cv, rfl, -, -, -⟩ := OwnLists.form h26
            have hc26 : Below wS.heap.size (v24.alloc (.cells #[.slice A24 31 31] 22)) w26 := by first | exact hb26 | exact ⟨hb26.os, hb26.tape, hb26.output, hb26.size, hb26.block⟩
            have O26 : Only g3 wS w26 := O25.from_below hc26 (Nat.le_refl _)
            have B26 := B25.kept hc26 h36S
            refine hK.out _ _ (by first | exact O26 | exact O26.drew) (fun hHeld => ?_)
            clear hK K'
            try simp only [Act.put, List.setIfInBounds_toArray, List.set_cons_zero, List.set_cons_succ]
            refine wpAnyH_take (i := 9) (oi := ⟨some 36, _, _, _, _, _⟩) (v := ?_) rfl (by kernel_rfl) (by kernel_rfl) (by kernel_rfl) (fun _ _ _ h => h) (Or.inl ⟨by rfl, ?_⟩) (by assumption) ?_
            rotate_left
            · (intro w' hSw; (try dsimp only at hSw); go_simp <;> (with_reducible rfl))
            try simp only [Act.put, List.setIfInBounds_toArray, List.set_cons_zero, List.set_cons_succ]
            refine wpAnyH_ready (rs := [10]) (by kernel_rfl) (by simp) ?_
            refine AllReadyH.cons (o := ⟨none, _, _, _, _, _⟩) rfl (fun K' hK => ?_) AllReadyH.nil
            obtain ⟨c0, c1, f0, f1, hl⟩ := box_two B26
            have O27 := hide (O26.set_ 1 (.slice Av (k + 1) cv))
            have B27 := hide (show Box (w26.setCell ⟨g3, 1, none⟩ (.slice Av (k + 1) cv)) g3 64 #[u1, (.slice Av (k + 1) cv)] by have h := B26.set_ 1 (.slice Av (k + 1) cv); simpa using h)
            have H27 := hide (h26.only (g := g3) h36S ((Only.refl g3 w26).set_ 1 (.slice Av (k + 1) cv)))
            go_simp
            refine hK.out _ _ (by first | exact O27.out | exact O27.out.drew) (fun hHeld => ?_)
            clear hK K'
            try simp only [Act.put, List.setIfInBounds_toArray, List.set_cons_zero, List.set_cons_succ]
            clear c0 c1 f0 f1 hl
            refine wpAnyH_done (by kernel_rfl) ?_ _
            go_wp2_with fail
            go_roundw
            case rel => first | exact ⟨_, ⟨k + 1, _, by omega, by rw [HKN.out], B27.out, H27.out.congr HSN.out, O27.out⟩, rfl⟩ | exact ⟨_, _, ⟨k + 1, _, by omega, by rw [HKN.out], B27.out, H27.out.congr HSN.out, O27.out⟩, rfl⟩ | exact ⟨_, _, _, ⟨k + 1, _, by omega, by rw [HKN.out], B27.out, H27.out.congr HSN.out, O27.out⟩, rfl⟩ | exact ⟨_, _, _, _, ⟨k + 1, _, by omega, by rw [HKN.out], B27.out, H27.out.congr HSN.out, O27.out⟩, rfl⟩ | exact ⟨_, _, _, _, _, ⟨k + 1, _, by omega, by rw [HKN.out], B27.out, H27.out.congr HSN.out, O27.out⟩, rfl⟩ | exact ⟨_, _, _, _, _, _, ⟨k + 1, _, by omega, by rw [HKN.out], B27.out, H27.out.congr HSN.out, O27.out⟩, rfl⟩ | exact ⟨_, _, _, _, _, _, _, ⟨k + 1, _, by omega, by rw [HKN.out], B27.out, H27.out.congr HSN.out, O27.out⟩, rfl⟩ | exact ⟨_, _, _, _, _, _, _, _, ⟨k + 1, _, by omega, by rw [HKN.out], B27.out, H27.out.congr HSN.out, O27.out⟩, rfl⟩ | exact ⟨_, _, _, _, _, _, _, _, _, ⟨k + 1, _, by omega, by rw [HKN.out], B27.out, H27.out.congr HSN.out, O27.out⟩, rfl⟩ | exact ⟨_, _, _, _, _, _, _, _, _, _, ⟨k + 1, _, by omega, by rw [HKN.out], B27.out, H27.out.congr HSN.out, O27.out⟩, rfl⟩ | exact ⟨_, _, _, _, _, _, _, _, _, _, _, ⟨k + 1, _, by omega, by rw [HKN.out], B27.out, H27.out.congr HSN.out, O27.out⟩, rfl⟩ | exact ⟨_, _, _, _, _, _, _, _, _, _, _, _, ⟨k + 1, _, by omega, by rw [HKN.out], B27.out, H27.out.congr HSN.out, O27.out⟩, rfl⟩ | exact ⟨_, _, _, _, _, _, _, _, _, _, _, _, _, ⟨k + 1, _, by omega, by rw [HKN.out], B27.out, H27.out.congr HSN.out, O27.out⟩, rfl⟩ | exact ⟨_, _, _, _, _, _, _, _, _, _, _, _, _, _, ⟨k + 1, _, by omega, by rw [HKN.out], B27.out, H27.out.congr HSN.out, O27.out⟩, rfl⟩ | exact ⟨_, _, _, _, _, _, _, _, _, _, _, _, _, _, _, ⟨k + 1, _, by omega, by rw [HKN.out], B27.out, H27.out.congr HSN.out, O27.out⟩, rfl⟩ | exact ⟨_, _, _, _, _, _, _, _, _, _, _, _, _, _, _, _, ⟨k + 1, _, by omega, by rw [HKN.out], B27.out, H27.out.congr HSN.out, O27.out⟩, rfl⟩ | exact ⟨_, _, _, _, _, _, _, _, _, _, _, _, _, _, _, _, _, ⟨k + 1, _, by omega, by rw [HKN.out], B27.out, H27.out.congr HSN.out, O27.out⟩, rfl⟩ | exact ⟨_, _, _, _, _, _, _, _, _, _, _, _, _, _, _, _, _, _, ⟨k + 1, _, by omega, by rw [HKN.out], B27.out, H27.out.congr HSN.out, O27.out⟩, rfl⟩ | exact ⟨_, _, _, _, _, _, _, _, _, _, _, _, _, _, _, _, _, _, _, ⟨k + 1, _, by omega, by rw [HKN.out], B27.out, H27.out.congr HSN.out, O27.out⟩, rfl⟩ | exact ⟨_, _, _, _, _, _, _, _, _, _, _, _, _, _, _, _, _, _, _, _, ⟨k + 1, _, by omega, by rw [HKN.out], B27.out, H27.out.congr HSN.out, O27.out⟩, rfl⟩ | exact ⟨_, _, _, _, _, _, _, _, _, _, _, _, _, _, _, _, _, _, _, _, _, ⟨k + 1, _, by omega, by rw [HKN.out], B27.out, H27.out.congr HSN.out, O27.out⟩, rfl⟩ | exact ⟨_, _, _, _, _, _, _, _, _, _, _, _, _, _, _, _, _, _, _, _, _, _, ⟨k + 1, _, by omega, by rw [HKN.out], B27.out, H27.out.congr HSN.out, O27.out⟩, rfl⟩ | exact ⟨_, _, _, _, _, _, _, _, _, _, _, _, _, _, _, _, _, _, _, _, _, _, _, ⟨k + 1, _, by omega, by rw [HKN.out], B27.out, H27.out.congr HSN.out, O27.out⟩, rfl⟩ | exact ⟨_, _, _, _, _, _, _, _, _, _, _, _, _, _, _, _, _, _, _, _, _, _, _, _, ⟨k + 1, _, by omega, by rw [HKN.out], B27.out, H27.out.congr HSN.out, O27.out⟩, rfl⟩ | exact ⟨_, _, _, _, _, _, _, _, _, _, _, _, _, _, _, _, _, _, _, _, _, _, _, _, _, ⟨k + 1, _, by omega, by rw [HKN.out], B27.out, H27.out.congr HSN.out, O27.out⟩, rfl⟩ | exact ⟨_, _, _, _, _, _, _, _, _, _, _, _, _, _, _, _, _, _, _, _, _, _, _, _, _, _, ⟨k + 1, _, by omega, by rw [HKN.out], B27.out, H27.out.congr HSN.out, O27.out⟩, rfl⟩ | exact ⟨_, _, _, _, _, _, _, _, _, _, _, _, _, _, _, _, _, _, _, _, _, _, _, _, _, _, _, ⟨k + 1, _, by omega, by rw [HKN.out], B27.out, H27.out.congr HSN.out, O27.out⟩, rfl⟩ | exact ⟨_, _, _, _, _, _, _, _, _, _, _, _, _, _, _, _, _, _, _, _, _, _, _, _, _, _, _, _, ⟨k + 1, _, by omega, by rw [HKN.out], B27.out, H27.out.congr HSN.out, O27.out⟩, rfl⟩ | exact ⟨_, _, _, _, _, _, _, _, _, _, _, _, _, _, _, _, _, _, _, _, _, _, _, _, _, _, _, _, _, ⟨k + 1, _, by omega, by rw [HKN.out], B27.out, H27.out.congr HSN.out, O27.out⟩, rfl⟩ | exact ⟨_, _, _, _, _, _, _, _, _, _, _, _, _, _, _, _, _, _, _, _, _, _, _, _, _, _, _, _, _, _, ⟨k + 1, _, by omega, by rw [HKN.out], B27.out, H27.out.congr HSN.out, O27.out⟩, rfl⟩ | exact ⟨_, _, _, _, _, _, _, _, _, _, _, _, _, _, _, _, _, _, _, _, _, _, _, _, _, _, _, _, _, _, _, ⟨k + 1, _, by omega, by rw [HKN.out], B27.out, H27.out.congr HSN.out, O27.out⟩, rfl⟩ | exact ⟨_, _, _, _, _, _, _, _, _, _, _, _, _, _, _, _, _, _, _, _, _, _, _, _, _, _, _, _, _, _, _, _, ⟨k + 1, _, by omega, by rw [HKN.out], B27.out, H27.out.congr HSN.out, O27.out⟩, rfl⟩ | exact ⟨_, _, _, _, _, _, _, _, _, _, _, _, _, _, _, _, _, _, _, _, _, _, _, _, _, _, _, _, _, _, _, _, _, ⟨k + 1, _, by omega, by rw [HKN.out], B27.out, H27.out.congr HSN.out, O27.out⟩, rfl⟩ | exact ⟨_, _, _, _, _, _, _, _, _, _, _, _, _, _, _, _, _, _, _, _, _, _, _, _, _, _, _, _, _, _, _, _, _, _, ⟨k + 1, _, by omega, by rw [HKN.out], B27.out, H27.out.congr HSN.out, O27.out⟩, rfl⟩ | exact ⟨_, _, _, _, _, _, _, _, _, _, _, _, _, _, _, _, _, _, _, _, _, _, _, _, _, _, _, _, _, _, _, _, _, _, _, ⟨k + 1, _, by omega, by rw [HKN.out], B27.out, H27.out.congr HSN.out, O27.out⟩, rfl⟩ | exact ⟨_, _, _, _, _, _, _, _, _, _, _, _, _, _, _, _, _, _, _, _, _, _, _, _, _, _, _, _, _, _, _, _, _, _, _, _, ⟨k + 1, _, by omega, by rw [HKN.out], B27.out, H27.out.congr HSN.out, O27.out⟩, rfl⟩ | exact ⟨_, _, _, _, _, _, _, _, _, _, _, _, _, _, _, _, _, _, _, _, _, _, _, _, _, _, _, _, _, _, _, _, _, _, _, _, _, ⟨k + 1, _, by omega, by rw [HKN.out], B27.out, H27.out.congr HSN.out, O27.out⟩, rfl⟩ | exact ⟨_, _, _, _, _, _, _, _, _, _, _, _, _, _, _, _, _, _, _, _, _, _, _, _, _, _, _, _, _, _, _, _, _, _, _, _, _, _, ⟨k + 1, _, by omega, by rw [HKN.out], B27.out, H27.out.congr HSN.out, O27.out⟩, rfl⟩ | exact ⟨_, _, _, _, _, _, _, _, _, _, _, _, _, _, _, _, _, _, _, _, _, _, _, _, _, _, _, _, _, _, _, _, _, _, _, _, _, _, _, ⟨k + 1, _, by omega, by rw [HKN.out], B27.out, H27.out.congr HSN.out, O27.out⟩, rfl⟩ 
            case measure => simp [Go.RowKit.intOf]; have := HKN.out; have := HKK.out; omega
          · skip
            go_simp
            go_at_call 43
            refine (HSk.out _).mono ?_
            rintro r' v28 ⟨rfl, hb28⟩
            have hc28 : Below wA.heap.size wA v28 := by first | exact hb28 | exact below_of_drew hb28 | exact below_of_drew (below_of_drew hb28)
            have O28 := hO.below hc28
            have B28 := hB3.below hc28
            have H28 := hH.below hc28
            clear hb28
            go_wp2_with fail
            refine hK.out _ _ (by first | exact O28 | exact O28.drew) (fun hHeld => ?_)
            clear hK K'
            try simp only [Act.put, List.setIfInBounds_toArray, List.set_cons_zero, List.set_cons_succ]
            refine wpAnyH_ready (rs := [1, 6]) (by kernel_rfl) (by simp) ?_
            refine AllReadyH.cons (o := ⟨some 28, _, _, _, _, _⟩) rfl (fun K' hK => ?_) (AllReadyH.cons (o := ⟨some 33, _, _, _, _, _⟩) rfl (fun K' hK => ?_) AllReadyH.nil)
            · skip
              obtain ⟨c0, c1, -, -, -⟩ := box_two B28
              go_simp
              refine hK.out _ _ (by first | exact O28 | exact O28.drew) (fun hHeld => ?_)
              clear hK K'
              try simp only [Act.put, List.setIfInBounds_toArray, List.set_cons_zero, List.set_cons_succ]
              clear c0 c1
              refine wpAnyH_ready (rs := [6]) (by kernel_rfl) (by simp) ?_
              refine AllReadyH.cons (o := ⟨some 33, _, _, _, _, _⟩) rfl (fun K' hK => ?_) AllReadyH.nil
              go_simp
              go_at_call 46
              refine (HFk.out _).mono ?_
              rintro r' v30 ⟨A30, rfl, hI30, hb30⟩
              have hc30 : Below v28.heap.size v28 v30 := by first | exact hb30 | exact below_of_drew hb30 | exact below_of_drew (below_of_drew hb30)
              have O30 := O28.below hc30
              have B30 := B28.below hc30
              have H30 := H28.below hc30
              have J30 : IntsAt v30 v28.heap.size A30 31 hx := by have h := hI30; exact h
              clear hb30
              go_wp2_with fail
              refine hK.out _ _ (by first | exact O30 | exact O30.drew) (fun hHeld => ?_)
              clear hK K'
              try simp only [Act.put, List.setIfInBounds_toArray, List.set_cons_zero, List.set_cons_succ]
              refine wpAnyH_ready (rs := [7]) (by kernel_rfl) (by simp) ?_
              refine AllReadyH.cons (o := ⟨some 34, _, _, _, _, _⟩) rfl (fun K' hK => ?_) AllReadyH.nil
              go_simp
              have O31 := O30.alloc (.cells #[.slice A30 31 31] 22)
              have B31 := B30.alloc (.cells #[.slice A30 31 31] 22)
              have H31 := H30.alloc (.cells #[.slice A30 31 31] 22)
              have J31 := J30.alloc (.cells #[.slice A30 31 31] 22)
              obtain ⟨q31, hq31⟩ : ∃ z, v30.heap.size = z := ⟨_, rfl⟩
              have x31 : (v30.alloc (.cells #[.slice A30 31 31] 22)).cell? ⟨q31, 0, none⟩ = some (.slice A30 31 31) := by rw [← hq31]; exact (Box.made rfl : Box _ v30.heap.size 22 #[.slice A30 31 31]).at_ 0
              try simp only [hq31]
              refine hK.out _ _ (by first | exact O31 | exact O31.drew) (fun hHeld => ?_)
              clear hK K'
              try simp only [Act.put, List.setIfInBounds_toArray, List.set_cons_zero, List.set_cons_succ]
              refine wpAnyH_ready (rs := [8]) (by kernel_rfl) (by simp) ?_
              refine AllReadyH.cons (o := ⟨some 35, _, _, _, _, _⟩) rfl (fun K' hK => ?_) AllReadyH.nil
              have hap32 : ∀ b o, A30 = some ⟨b, o, none⟩ → (u : Value).ownBlock ≠ some b ∧ b < (v30.alloc (.cells #[.slice A30 31 31] 22)).heap.size := fun b o e => by
                have h3 := block_of J31 e (show 0 < 31 by decide)
                exact ⟨fun z => (by have h1 := (H28.lt z).2; omega), h3.2⟩
              refine step_append_list _ rfl (.tmp 28) (.tmp 34) rfl wS.heap.size u k (fun _ => 31) (fun g => halfB (3 * g)) (by first | rfl | (go_simp; done)) (by have h := H31; exact h) q31 A30 31 31 hx (by first | rfl | (go_simp; done)) (by have h := x31; exact h) (by decide) (by decide) (by have h := J31.weak O28.size; exact h) (by have h := hap32; exact h) (by omega) (by have h := O31.size; exact h) (fun v' w32 h32 hb32 => ?_)
              obtain ⟨Av, cv, rfl, -, -, -⟩ := OwnLists.form h32
              have hc32 : Below wS.heap.size (v30.alloc (.cells #[.slice A30 31 31] 22)) w32 := by first | exact hb32 | exact ⟨hb32.os, hb32.tape, hb32.output, hb32.size, hb32.block⟩
              have O32 : Only g3 wS w32 := O31.from_below hc32 (Nat.le_refl _)
              have B32 := B31.kept hc32 h36S
              refine hK.out _ _ (by first | exact O32 | exact O32.drew) (fun hHeld => ?_)
              clear hK K'
              try simp only [Act.put, List.setIfInBounds_toArray, List.set_cons_zero, List.set_cons_succ]
              refine wpAnyH_take (i := 9) (oi := ⟨some 36, _, _, _, _, _⟩) (v := ?_) rfl (by kernel_rfl) (by kernel_rfl) (by kernel_rfl) (fun _ _ _ h => h) (Or.inl ⟨by rfl, ?_⟩) (by assumption) ?_
              rotate_left
              · (intro w' hSw; (try dsimp only at hSw); go_simp <;> (with_reducible rfl))
              try simp only [Act.put, List.setIfInBounds_toArray, List.set_cons_zero, List.set_cons_succ]
              refine wpAnyH_ready (rs := [10]) (by kernel_rfl) (by simp) ?_
              refine AllReadyH.cons (o := ⟨none, _, _, _, _, _⟩) rfl (fun K' hK => ?_) AllReadyH.nil
              obtain ⟨c0, c1, f0, f1, hl⟩ := box_two B32
              have O33 := hide (O32.set_ 1 (.slice Av (k + 1) cv))
              have B33 := hide (show Box (w32.setCell ⟨g3, 1, none⟩ (.slice Av (k + 1) cv)) g3 64 #[u1, (.slice Av (k + 1) cv)] by have h := B32.set_ 1 (.slice Av (k + 1) cv); simpa using h)
              have H33 := hide (h32.only (g := g3) h36S ((Only.refl g3 w32).set_ 1 (.slice Av (k + 1) cv)))
              go_simp
              refine hK.out _ _ (by first | exact O33.out | exact O33.out.drew) (fun hHeld => ?_)
              clear hK K'
              try simp only [Act.put, List.setIfInBounds_toArray, List.set_cons_zero, List.set_cons_succ]
              clear c0 c1 f0 f1 hl
              refine wpAnyH_done (by kernel_rfl) ?_ _
              go_wp2_with fail
              go_roundw
              case rel => first | exact ⟨_, ⟨k + 1, _, by omega, by rw [HKN.out], B33.out, H33.out.congr HSN.out, O33.out⟩, rfl⟩ | exact ⟨_, _, ⟨k + 1, _, by omega, by rw [HKN.out], B33.out, H33.out.congr HSN.out, O33.out⟩, rfl⟩ | exact ⟨_, _, _, ⟨k + 1, _, by omega, by rw [HKN.out], B33.out, H33.out.congr HSN.out, O33.out⟩, rfl⟩ | exact ⟨_, _, _, _, ⟨k + 1, _, by omega, by rw [HKN.out], B33.out, H33.out.congr HSN.out, O33.out⟩, rfl⟩ | exact ⟨_, _, _, _, _, ⟨k + 1, _, by omega, by rw [HKN.out], B33.out, H33.out.congr HSN.out, O33.out⟩, rfl⟩ | exact ⟨_, _, _, _, _, _, ⟨k + 1, _, by omega, by rw [HKN.out], B33.out, H33.out.congr HSN.out, O33.out⟩, rfl⟩ | exact ⟨_, _, _, _, _, _, _, ⟨k + 1, _, by omega, by rw [HKN.out], B33.out, H33.out.congr HSN.out, O33.out⟩, rfl⟩ | exact ⟨_, _, _, _, _, _, _, _, ⟨k + 1, _, by omega, by rw [HKN.out], B33.out, H33.out.congr HSN.out, O33.out⟩, rfl⟩ | exact ⟨_, _, _, _, _, _, _, _, _, ⟨k + 1, _, by omega, by rw [HKN.out], B33.out, H33.out.congr HSN.out, O33.out⟩, rfl⟩ | exact ⟨_, _, _, _, _, _, _, _, _, _, ⟨k + 1, _, by omega, by rw [HKN.out], B33.out, H33.out.congr HSN.out, O33.out⟩, rfl⟩ | exact ⟨_, _, _, _, _, _, _, _, _, _, _, ⟨k + 1, _, by omega, by rw [HKN.out], B33.out, H33.out.congr HSN.out, O33.out⟩, rfl⟩ | exact ⟨_, _, _, _, _, _, _, _, _, _, _, _, ⟨k + 1, _, by omega, by rw [HKN.out], B33.out, H33.out.congr HSN.out, O33.out⟩, rfl⟩ | exact ⟨_, _, _, _, _, _, _, _, _, _, _, _, _, ⟨k + 1, _, by omega, by rw [HKN.out], B33.out, H33.out.congr HSN.out, O33.out⟩, rfl⟩ | exact ⟨_, _, _, _, _, _, _, _, _, _, _, _, _, _, ⟨k + 1, _, by omega, by rw [HKN.out], B33.out, H33.out.congr HSN.out, O33.out⟩, rfl⟩ | exact ⟨_, _, _, _, _, _, _, _, _, _, _, _, _, _, _, ⟨k + 1, _, by omega, by rw [HKN.out], B33.out, H33.out.congr HSN.out, O33.out⟩, rfl⟩ | exact ⟨_, _, _, _, _, _, _, _, _, _, _, _, _, _, _, _, ⟨k + 1, _, by omega, by rw [HKN.out], B33.out, H33.out.congr HSN.out, O33.out⟩, rfl⟩ | exact ⟨_, _, _, _, _, _, _, _, _, _, _, _, _, _, _, _, _, ⟨k + 1, _, by omega, by rw [HKN.out], B33.out, H33.out.congr HSN.out, O33.out⟩, rfl⟩ | exact ⟨_, _, _, _, _, _, _, _, _, _, _, _, _, _, _, _, _, _, ⟨k + 1, _, by omega, by rw [HKN.out], B33.out, H33.out.congr HSN.out, O33.out⟩, rfl⟩ | exact ⟨_, _, _, _, _, _, _, _, _, _, _, _, _, _, _, _, _, _, _, ⟨k + 1, _, by omega, by rw [HKN.out], B33.out, H33.out.congr HSN.out, O33.out⟩, rfl⟩ | exact ⟨_, _, _, _, _, _, _, _, _, _, _, _, _, _, _, _, _, _, _, _, ⟨k + 1, _, by omega, by rw [HKN.out], B33.out, H33.out.congr HSN.out, O33.out⟩, rfl⟩ | exact ⟨_, _, _, _, _, _, _, _, _, _, _, _, _, _, _, _, _, _, _, _, _, ⟨k + 1, _, by omega, by rw [HKN.out], B33.out, H33.out.congr HSN.out, O33.out⟩, rfl⟩ | exact ⟨_, _, _, _, _, _, _, _, _, _, _, _, _, _, _, _, _, _, _, _, _, _, ⟨k + 1, _, by omega, by rw [HKN.out], B33.out, H33.out.congr HSN.out, O33.out⟩, rfl⟩ | exact ⟨_, _, _, _, _, _, _, _, _, _, _, _, _, _, _, _, _, _, _, _, _, _, _, ⟨k + 1, _, by omega, by rw [HKN.out], B33.out, H33.out.congr HSN.out, O33.out⟩, rfl⟩ | exact ⟨_, _, _, _, _, _, _, _, _, _, _, _, _, _, _, _, _, _, _, _, _, _, _, _, ⟨k + 1, _, by omega, by rw [HKN.out], B33.out, H33.out.congr HSN.out, O33.out⟩, rfl⟩ | exact ⟨_, _, _, _, _, _, _, _, _, _, _, _, _, _, _, _, _, _, _, _, _, _, _, _, _, ⟨k + 1, _, by omega, by rw [HKN.out], B33.out, H33.out.congr HSN.out, O33.out⟩, rfl⟩ | exact ⟨_, _, _, _, _, _, _, _, _, _, _, _, _, _, _, _, _, _, _, _, _, _, _, _, _, _, ⟨k + 1, _, by omega, by rw [HKN.out], B33.out, H33.out.congr HSN.out, O33.out⟩, rfl⟩ | exact ⟨_, _, _, _, _, _, _, _, _, _, _, _, _, _, _, _, _, _, _, _, _, _, _, _, _, _, _, ⟨k + 1, _, by omega, by rw [HKN.out], B33.out, H33.out.congr HSN.out, O33.out⟩, rfl⟩ | exact ⟨_, _, _, _, _, _, _, _, _, _, _, _, _, _, _, _, _, _, _, _, _, _, _, _, _, _, _, _, ⟨k + 1, _, by omega, by rw [HKN.out], B33.out, H33.out.congr HSN.out, O33.out⟩, rfl⟩ | exact ⟨_, _, _, _, _, _, _, _, _, _, _, _, _, _, _, _, _, _, _, _, _, _, _, _, _, _, _, _, _, ⟨k + 1, _, by omega, by rw [HKN.out], B33.out, H33.out.congr HSN.out, O33.out⟩, rfl⟩ | exact ⟨_, _, _, _, _, _, _, _, _, _, _, _, _, _, _, _, _, _, _, _, _, _, _, _, _, _, _, _, _, _, ⟨k + 1, _, by omega, by rw [HKN.out], B33.out, H33.out.congr HSN.out, O33.out⟩, rfl⟩ | exact ⟨_, _, _, _, _, _, _, _, _, _, _, _, _, _, _, _, _, _, _, _, _, _, _, _, _, _, _, _, _, _, _, ⟨k + 1, _, by omega, by rw [HKN.out], B33.out, H33.out.congr HSN.out, O33.out⟩, rfl⟩ | exact ⟨_, _, _, _, _, _, _, _, _, _, _, _, _, _, _, _, _, _, _, _, _, _, _, _, _, _, _, _, _, _, _, _, ⟨k + 1, _, by omega, by rw [HKN.out], B33.out, H33.out.congr HSN.out, O33.out⟩, rfl⟩ | exact ⟨_, _, _, _, _, _, _, _, _, _, _, _, _, _, _, _, _, _, _, _, _, _, _, _, _, _, _, _, _, _, _, _, _, ⟨k + 1, _, by omega, by rw [HKN.out], B33.out, H33.out.congr HSN.out, O33.out⟩, rfl⟩ | exact ⟨_, _, _, _, _, _, _, _, _, _, _, _, _, _, _, _, _, _, _, _, _, _, _, _, _, _, _, _, _, _, _, _, _, _, ⟨k + 1, _, by omega, by rw [HKN.out], B33.out, H33.out.congr HSN.out, O33.out⟩, rfl⟩ | exact ⟨_, _, _, _, _, _, _, _, _, _, _, _, _, _, _, _, _, _, _, _, _, _, _, _, _, _, _, _, _, _, _, _, _, _, _, ⟨k + 1, _, by omega, by rw [HKN.out], B33.out, H33.out.congr HSN.out, O33.out⟩, rfl⟩ | exact ⟨_, _, _, _, _, _, _, _, _, _, _, _, _, _, _, _, _, _, _, _, _, _, _, _, _, _, _, _, _, _, _, _, _, _, _, _, ⟨k + 1, _, by omega, by rw [HKN.out], B33.out, H33.out.congr HSN.out, O33.out⟩, rfl⟩ | exact ⟨_, _, _, _, _, _, _, _, _, _, _, _, _, _, _, _, _, _, _, _, _, _, _, _, _, _, _, _, _, _, _, _, _, _, _, _, _, ⟨k + 1, _, by omega, by rw [HKN.out], B33.out, H33.out.congr HSN.out, O33.out⟩, rfl⟩ | exact ⟨_, _, _, _, _, _, _, _, _, _, _, _, _, _, _, _, _, _, _, _, _, _, _, _, _, _, _, _, _, _, _, _, _, _, _, _, _, _, ⟨k + 1, _, by omega, by rw [HKN.out], B33.out, H33.out.congr HSN.out, O33.out⟩, rfl⟩ | exact ⟨_, _, _, _, _, _, _, _, _, _, _, _, _, _, _, _, _, _, _, _, _, _, _, _, _, _, _, _, _, _, _, _, _, _, _, _, _, _, _, ⟨k + 1, _, by omega, by rw [HKN.out], B33.out, H33.out.congr HSN.out, O33.out⟩, rfl⟩ 
              case measure => simp [Go.RowKit.intOf]; have := HKN.out; have := HKK.out; omega
            · skip
              go_simp
              go_at_call 46
              refine (HFk.out _).mono ?_
              rintro r' v34 ⟨A34, rfl, hI34, hb34⟩
              have hc34 : Below v28.heap.size v28 v34 := by first | exact hb34 | exact below_of_drew hb34 | exact below_of_drew (below_of_drew hb34)
              have O34 := O28.below hc34
              have B34 := B28.below hc34
              have H34 := H28.below hc34
              have J34 : IntsAt v34 v28.heap.size A34 31 hx := by have h := hI34; exact h
              clear hb34
              go_wp2_with fail
              refine hK.out _ _ (by first | exact O34 | exact O34.drew) (fun hHeld => ?_)
              clear hK K'
              try simp only [Act.put, List.setIfInBounds_toArray, List.set_cons_zero, List.set_cons_succ]
              refine wpAnyH_ready (rs := [1, 7]) (by kernel_rfl) (by simp) ?_
              refine AllReadyH.cons (o := ⟨some 28, _, _, _, _, _⟩) rfl (fun K' hK => ?_) (AllReadyH.cons (o := ⟨some 34, _, _, _, _, _⟩) rfl (fun K' hK => ?_) AllReadyH.nil)
              · skip
                obtain ⟨c0, c1, -, -, -⟩ := box_two B34
                go_simp
                refine hK.out _ _ (by first | exact O34 | exact O34.drew) (fun hHeld => ?_)
                clear hK K'
                try simp only [Act.put, List.setIfInBounds_toArray, List.set_cons_zero, List.set_cons_succ]
                clear c0 c1
                refine wpAnyH_ready (rs := [7]) (by kernel_rfl) (by simp) ?_
                refine AllReadyH.cons (o := ⟨some 34, _, _, _, _, _⟩) rfl (fun K' hK => ?_) AllReadyH.nil
                go_simp
                have O36 := O34.alloc (.cells #[.slice A34 31 31] 22)
                have B36 := B34.alloc (.cells #[.slice A34 31 31] 22)
                have H36 := H34.alloc (.cells #[.slice A34 31 31] 22)
                have J36 := J34.alloc (.cells #[.slice A34 31 31] 22)
                obtain ⟨q36, hq36⟩ : ∃ z, v34.heap.size = z := ⟨_, rfl⟩
                have x36 : (v34.alloc (.cells #[.slice A34 31 31] 22)).cell? ⟨q36, 0, none⟩ = some (.slice A34 31 31) := by rw [← hq36]; exact (Box.made rfl : Box _ v34.heap.size 22 #[.slice A34 31 31]).at_ 0
                try simp only [hq36]
                refine hK.out _ _ (by first | exact O36 | exact O36.drew) (fun hHeld => ?_)
                clear hK K'
                try simp only [Act.put, List.setIfInBounds_toArray, List.set_cons_zero, List.set_cons_succ]
                refine wpAnyH_ready (rs := [8]) (by kernel_rfl) (by simp) ?_
                refine AllReadyH.cons (o := ⟨some 35, _, _, _, _, _⟩) rfl (fun K' hK => ?_) AllReadyH.nil
                have hap37 : ∀ b o, A34 = some ⟨b, o, none⟩ → (u : Value).ownBlock ≠ some b ∧ b < (v34.alloc (.cells #[.slice A34 31 31] 22)).heap.size := fun b o e => by
                  have h3 := block_of J36 e (show 0 < 31 by decide)
                  exact ⟨fun z => (by have h1 := (H28.lt z).2; omega), h3.2⟩
                refine step_append_list _ rfl (.tmp 28) (.tmp 34) rfl wS.heap.size u k (fun _ => 31) (fun g => halfB (3 * g)) (by first | rfl | (go_simp; done)) (by have h := H36; exact h) q36 A34 31 31 hx (by first | rfl | (go_simp; done)) (by have h := x36; exact h) (by decide) (by decide) (by have h := J36.weak O28.size; exact h) (by have h := hap37; exact h) (by omega) (by have h := O36.size; exact h) (fun v' w37 h37 hb37 => ?_)
                obtain ⟨Av, cv, rfl, -, -, -⟩ := OwnLists.form h37
                have hc37 : Below wS.heap.size (v34.alloc (.cells #[.slice A34 31 31] 22)) w37 := by first | exact hb37 | exact ⟨hb37.os, hb37.tape, hb37.output, hb37.size, hb37.block⟩
                have O37 : Only g3 wS w37 := O36.from_below hc37 (Nat.le_refl _)
                have B37 := B36.kept hc37 h36S
                refine hK.out _ _ (by first | exact O37 | exact O37.drew) (fun hHeld => ?_)
                clear hK K'
                try simp only [Act.put, List.setIfInBounds_toArray, List.set_cons_zero, List.set_cons_succ]
                refine wpAnyH_take (i := 9) (oi := ⟨some 36, _, _, _, _, _⟩) (v := ?_) rfl (by kernel_rfl) (by kernel_rfl) (by kernel_rfl) (fun _ _ _ h => h) (Or.inl ⟨by rfl, ?_⟩) (by assumption) ?_
                rotate_left
                · (intro w' hSw; (try dsimp only at hSw); go_simp <;> (with_reducible rfl))
                try simp only [Act.put, List.setIfInBounds_toArray, List.set_cons_zero, List.set_cons_succ]
                refine wpAnyH_ready (rs := [10]) (by kernel_rfl) (by simp) ?_
                refine AllReadyH.cons (o := ⟨none, _, _, _, _, _⟩) rfl (fun K' hK => ?_) AllReadyH.nil
                obtain ⟨c0, c1, f0, f1, hl⟩ := box_two B37
                have O38 := hide (O37.set_ 1 (.slice Av (k + 1) cv))
                have B38 := hide (show Box (w37.setCell ⟨g3, 1, none⟩ (.slice Av (k + 1) cv)) g3 64 #[u1, (.slice Av (k + 1) cv)] by have h := B37.set_ 1 (.slice Av (k + 1) cv); simpa using h)
                have H38 := hide (h37.only (g := g3) h36S ((Only.refl g3 w37).set_ 1 (.slice Av (k + 1) cv)))
                go_simp
                refine hK.out _ _ (by first | exact O38.out | exact O38.out.drew) (fun hHeld => ?_)
                clear hK K'
                try simp only [Act.put, List.setIfInBounds_toArray, List.set_cons_zero, List.set_cons_succ]
                clear c0 c1 f0 f1 hl
                refine wpAnyH_done (by kernel_rfl) ?_ _
                go_wp2_with fail
                go_roundw
                case rel => first | exact ⟨_, ⟨k + 1, _, by omega, by rw [HKN.out], B38.out, H38.out.congr HSN.out, O38.out⟩, rfl⟩ | exact ⟨_, _, ⟨k + 1, _, by omega, by rw [HKN.out], B38.out, H38.out.congr HSN.out, O38.out⟩, rfl⟩ | exact ⟨_, _, _, ⟨k + 1, _, by omega, by rw [HKN.out], B38.out, H38.out.congr HSN.out, O38.out⟩, rfl⟩ | exact ⟨_, _, _, _, ⟨k + 1, _, by omega, by rw [HKN.out], B38.out, H38.out.congr HSN.out, O38.out⟩, rfl⟩ | exact ⟨_, _, _, _, _, ⟨k + 1, _, by omega, by rw [HKN.out], B38.out, H38.out.congr HSN.out, O38.out⟩, rfl⟩ | exact ⟨_, _, _, _, _, _, ⟨k + 1, _, by omega, by rw [HKN.out], B38.out, H38.out.congr HSN.out, O38.out⟩, rfl⟩ | exact ⟨_, _, _, _, _, _, _, ⟨k + 1, _, by omega, by rw [HKN.out], B38.out, H38.out.congr HSN.out, O38.out⟩, rfl⟩ | exact ⟨_, _, _, _, _, _, _, _, ⟨k + 1, _, by omega, by rw [HKN.out], B38.out, H38.out.congr HSN.out, O38.out⟩, rfl⟩ | exact ⟨_, _, _, _, _, _, _, _, _, ⟨k + 1, _, by omega, by rw [HKN.out], B38.out, H38.out.congr HSN.out, O38.out⟩, rfl⟩ | exact ⟨_, _, _, _, _, _, _, _, _, _, ⟨k + 1, _, by omega, by rw [HKN.out], B38.out, H38.out.congr HSN.out, O38.out⟩, rfl⟩ | exact ⟨_, _, _, _, _, _, _, _, _, _, _, ⟨k + 1, _, by omega, by rw [HKN.out], B38.out, H38.out.congr HSN.out, O38.out⟩, rfl⟩ | exact ⟨_, _, _, _, _, _, _, _, _, _, _, _, ⟨k + 1, _, by omega, by rw [HKN.out], B38.out, H38.out.congr HSN.out, O38.out⟩, rfl⟩ | exact ⟨_, _, _, _, _, _, _, _, _, _, _, _, _, ⟨k + 1, _, by omega, by rw [HKN.out], B38.out, H38.out.congr HSN.out, O38.out⟩, rfl⟩ | exact ⟨_, _, _, _, _, _, _, _, _, _, _, _, _, _, ⟨k + 1, _, by omega, by rw [HKN.out], B38.out, H38.out.congr HSN.out, O38.out⟩, rfl⟩ | exact ⟨_, _, _, _, _, _, _, _, _, _, _, _, _, _, _, ⟨k + 1, _, by omega, by rw [HKN.out], B38.out, H38.out.congr HSN.out, O38.out⟩, rfl⟩ | exact ⟨_, _, _, _, _, _, _, _, _, _, _, _, _, _, _, _, ⟨k + 1, _, by omega, by rw [HKN.out], B38.out, H38.out.congr HSN.out, O38.out⟩, rfl⟩ | exact ⟨_, _, _, _, _, _, _, _, _, _, _, _, _, _, _, _, _, ⟨k + 1, _, by omega, by rw [HKN.out], B38.out, H38.out.congr HSN.out, O38.out⟩, rfl⟩ | exact ⟨_, _, _, _, _, _, _, _, _, _, _, _, _, _, _, _, _, _, ⟨k + 1, _, by omega, by rw [HKN.out], B38.out, H38.out.congr HSN.out, O38.out⟩, rfl⟩ | exact ⟨_, _, _, _, _, _, _, _, _, _, _, _, _, _, _, _, _, _, _, ⟨k + 1, _, by omega, by rw [HKN.out], B38.out, H38.out.congr HSN.out, O38.out⟩, rfl⟩ | exact ⟨_, _, _, _, _, _, _, _, _, _, _, _, _, _, _, _, _, _, _, _, ⟨k + 1, _, by omega, by rw [HKN.out], B38.out, H38.out.congr HSN.out, O38.out⟩, rfl⟩ | exact ⟨_, _, _, _, _, _, _, _, _, _, _, _, _, _, _, _, _, _, _, _, _, ⟨k + 1, _, by omega, by rw [HKN.out], B38.out, H38.out.congr HSN.out, O38.out⟩, rfl⟩ | exact ⟨_, _, _, _, _, _, _, _, _, _, _, _, _, _, _, _, _, _, _, _, _, _, ⟨k + 1, _, by omega, by rw [HKN.out], B38.out, H38.out.congr HSN.out, O38.out⟩, rfl⟩ | exact ⟨_, _, _, _, _, _, _, _, _, _, _, _, _, _, _, _, _, _, _, _, _, _, _, ⟨k + 1, _, by omega, by rw [HKN.out], B38.out, H38.out.congr HSN.out, O38.out⟩, rfl⟩ | exact ⟨_, _, _, _, _, _, _, _, _, _, _, _, _, _, _, _, _, _, _, _, _, _, _, _, ⟨k + 1, _, by omega, by rw [HKN.out], B38.out, H38.out.congr HSN.out, O38.out⟩, rfl⟩ | exact ⟨_, _, _, _, _, _, _, _, _, _, _, _, _, _, _, _, _, _, _, _, _, _, _, _, _, ⟨k + 1, _, by omega, by rw [HKN.out], B38.out, H38.out.congr HSN.out, O38.out⟩, rfl⟩ | exact ⟨_, _, _, _, _, _, _, _, _, _, _, _, _, _, _, _, _, _, _, _, _, _, _, _, _, _, ⟨k + 1, _, by omega, by rw [HKN.out], B38.out, H38.out.congr HSN.out, O38.out⟩, rfl⟩ | exact ⟨_, _, _, _, _, _, _, _, _, _, _, _, _, _, _, _, _, _, _, _, _, _, _, _, _, _, _, ⟨k + 1, _, by omega, by rw [HKN.out], B38.out, H38.out.congr HSN.out, O38.out⟩, rfl⟩ | exact ⟨_, _, _, _, _, _, _, _, _, _, _, _, _, _, _, _, _, _, _, _, _, _, _, _, _, _, _, _, ⟨k + 1, _, by omega, by rw [HKN.out], B38.out, H38.out.congr HSN.out, O38.out⟩, rfl⟩ | exact ⟨_, _, _, _, _, _, _, _, _, _, _, _, _, _, _, _, _, _, _, _, _, _, _, _, _, _, _, _, _, ⟨k + 1, _, by omega, by rw [HKN.out], B38.out, H38.out.congr HSN.out, O38.out⟩, rfl⟩ | exact ⟨_, _, _, _, _, _, _, _, _, _, _, _, _, _, _, _, _, _, _, _, _, _, _, _, _, _, _, _, _, _, ⟨k + 1, _, by omega, by rw [HKN.out], B38.out, H38.out.congr HSN.out, O38.out⟩, rfl⟩ | exact ⟨_, _, _, _, _, _, _, _, _, _, _, _, _, _, _, _, _, _, _, _, _, _, _, _, _, _, _, _, _, _, _, ⟨k + 1, _, by omega, by rw [HKN.out], B38.out, H38.out.congr HSN.out, O38.out⟩, rfl⟩ | exact ⟨_, _, _, _, _, _, _, _, _, _, _, _, _, _, _, _, _, _, _, _, _, _, _, _, _, _, _, _, _, _, _, _, ⟨k + 1, _, by omega, by rw [HKN.out], B38.out, H38.out.congr HSN.out, O38.out⟩, rfl⟩ | exact ⟨_, _, _, _, _, _, _, _, _, _, _, _, _, _, _, _, _, _, _, _, _, _, _, _, _, _, _, _, _, _, _, _, _, ⟨k + 1, _, by omega, by rw [HKN.out], B38.out, H38.out.congr HSN.out, O38.out⟩, rfl⟩ | exact ⟨_, _, _, _, _, _, _, _, _, _, _, _, _, _, _, _, _, _, _, _, _, _, _, _, _, _, _, _, _, _, _, _, _, _, ⟨k + 1, _, by omega, by rw [HKN.out], B38.out, H38.out.congr HSN.out, O38.out⟩, rfl⟩ | exact ⟨_, _, _, _, _, _, _, _, _, _, _, _, _, _, _, _, _, _, _, _, _, _, _, _, _, _, _, _, _, _, _, _, _, _, _, ⟨k + 1, _, by omega, by rw [HKN.out], B38.out, H38.out.congr HSN.out, O38.out⟩, rfl⟩ | exact ⟨_, _, _, _, _, _, _, _, _, _, _, _, _, _, _, _, _, _, _, _, _, _, _, _, _, _, _, _, _, _, _, _, _, _, _, _, ⟨k + 1, _, by omega, by rw [HKN.out], B38.out, H38.out.congr HSN.out, O38.out⟩, rfl⟩ | exact ⟨_, _, _, _, _, _, _, _, _, _, _, _, _, _, _, _, _, _, _, _, _, _, _, _, _, _, _, _, _, _, _, _, _, _, _, _, _, ⟨k + 1, _, by omega, by rw [HKN.out], B38.out, H38.out.congr HSN.out, O38.out⟩, rfl⟩ | exact ⟨_, _, _, _, _, _, _, _, _, _, _, _, _, _, _, _, _, _, _, _, _, _, _, _, _, _, _, _, _, _, _, _, _, _, _, _, _, _, ⟨k + 1, _, by omega, by rw [HKN.out], B38.out, H38.out.congr HSN.out, O38.out⟩, rfl⟩ | exact ⟨_, _, _, _, _, _, _, _, _, _, _, _, _, _, _, _, _, _, _, _, _, _, _, _, _, _, _, _, _, _, _, _, _, _, _, _, _, _, _, ⟨k + 1, _, by omega, by rw [HKN.out], B38.out, H38.out.congr HSN.out, O38.out⟩, rfl⟩ 
                case measure => simp [Go.RowKit.intOf]; have := HKN.out; have := HKK.out; omega
              · skip
                go_simp
                have O39 := O34.alloc (.cells #[.slice A34 31 31] 22)
                have B39 := B34.alloc (.cells #[.slice A34 31 31] 22)
                have H39 := H34.alloc (.cells #[.slice A34 31 31] 22)
                have J39 := J34.alloc (.cells #[.slice A34 31 31] 22)
                obtain ⟨q39, hq39⟩ : ∃ z, v34.heap.size = z := ⟨_, rfl⟩
                have x39 : (v34.alloc (.cells #[.slice A34 31 31] 22)).cell? ⟨q39, 0, none⟩ = some (.slice A34 31 31) := by rw [← hq39]; exact (Box.made rfl : Box _ v34.heap.size 22 #[.slice A34 31 31]).at_ 0
                try simp only [hq39]
                refine hK.out _ _ (by first | exact O39 | exact O39.drew) (fun hHeld => ?_)
                clear hK K'
                try simp only [Act.put, List.setIfInBounds_toArray, List.set_cons_zero, List.set_cons_succ]
                refine wpAnyH_ready (rs := [1]) (by kernel_rfl) (by simp) ?_
                refine AllReadyH.cons (o := ⟨some 28, _, _, _, _, _⟩) rfl (fun K' hK => ?_) AllReadyH.nil
                obtain ⟨c0, c1, -, -, -⟩ := box_two B39
                go_simp
                refine hK.out _ _ (by first | exact O39 | exact O39.drew) (fun hHeld => ?_)
                clear hK K'
                try simp only [Act.put, List.setIfInBounds_toArray, List.set_cons_zero, List.set_cons_succ]
                clear c0 c1
                refine wpAnyH_ready (rs := [8]) (by kernel_rfl) (by simp) ?_
                refine AllReadyH.cons (o := ⟨some 35, _, _, _, _, _⟩) rfl (fun K' hK => ?_) AllReadyH.nil
                have hap41 : ∀ b o, A34 = some ⟨b, o, none⟩ → (u : Value).ownBlock ≠ some b ∧ b < (v34.alloc (.cells #[.slice A34 31 31] 22)).heap.size := fun b o e => by
                  have h3 := block_of J39 e (show 0 < 31 by decide)
                  exact ⟨fun z => (by have h1 := (H28.lt z).2; omega), h3.2⟩
                refine step_append_list _ rfl (.tmp 28) (.tmp 34) rfl wS.heap.size u k (fun _ => 31) (fun g => halfB (3 * g)) (by first | rfl | (go_simp; done)) (by have h := H39; exact h) q39 A34 31 31 hx (by first | rfl | (go_simp; done)) (by have h := x39; exact h) (by decide) (by decide) (by have h := J39.weak O28.size; exact h) (by have h := hap41; exact h) (by omega) (by have h := O39.size; exact h) (fun v' w41 h41 hb41 => ?_)
                obtain ⟨Av, cv, rfl, -, -, -⟩ := OwnLists.form h41
                have hc41 : Below wS.heap.size (v34.alloc (.cells #[.slice A34 31 31] 22)) w41 := by first | exact hb41 | exact ⟨hb41.os, hb41.tape, hb41.output, hb41.size, hb41.block⟩
                have O41 : Only g3 wS w41 := O39.from_below hc41 (Nat.le_refl _)
                have B41 := B39.kept hc41 h36S
                refine hK.out _ _ (by first | exact O41 | exact O41.drew) (fun hHeld => ?_)
                clear hK K'
                try simp only [Act.put, List.setIfInBounds_toArray, List.set_cons_zero, List.set_cons_succ]
                refine wpAnyH_take (i := 9) (oi := ⟨some 36, _, _, _, _, _⟩) (v := ?_) rfl (by kernel_rfl) (by kernel_rfl) (by kernel_rfl) (fun _ _ _ h => h) (Or.inl ⟨by rfl, ?_⟩) (by assumption) ?_
                rotate_left
                · (intro w' hSw; (try dsimp only at hSw); go_simp <;> (with_reducible rfl))
                try simp only [Act.put, List.setIfInBounds_toArray, List.set_cons_zero, List.set_cons_succ]
                refine wpAnyH_ready (rs := [10]) (by kernel_rfl) (by simp) ?_
                refine AllReadyH.cons (o := ⟨none, _, _, _, _, _⟩) rfl (fun K' hK => ?_) AllReadyH.nil
                obtain ⟨c0, c1, f0, f1, hl⟩ := box_two B41
                have O42 := hide (O41.set_ 1 (.slice Av (k + 1) cv))
                have B42 := hide (show Box (w41.setCell ⟨g3, 1, none⟩ (.slice Av (k + 1) cv)) g3 64 #[u1, (.slice Av (k + 1) cv)] by have h := B41.set_ 1 (.slice Av (k + 1) cv); simpa using h)
                have H42 := hide (h41.only (g := g3) h36S ((Only.refl g3 w41).set_ 1 (.slice Av (k + 1) cv)))
                go_simp
                refine hK.out _ _ (by first | exact O42.out | exact O42.out.drew) (fun hHeld => ?_)
                clear hK K'
                try simp only [Act.put, List.setIfInBounds_toArray, List.set_cons_zero, List.set_cons_succ]
                clear c0 c1 f0 f1 hl
                refine wpAnyH_done (by kernel_rfl) ?_ _
                go_wp2_with fail
                go_roundw
                case rel => first | exact ⟨_, ⟨k + 1, _, by omega, by rw [HKN.out], B42.out, H42.out.congr HSN.out, O42.out⟩, rfl⟩ | exact ⟨_, _, ⟨k + 1, _, by omega, by rw [HKN.out], B42.out, H42.out.congr HSN.out, O42.out⟩, rfl⟩ | exact ⟨_, _, _, ⟨k + 1, _, by omega, by rw [HKN.out], B42.out, H42.out.congr HSN.out, O42.out⟩, rfl⟩ | exact ⟨_, _, _, _, ⟨k + 1, _, by omega, by rw [HKN.out], B42.out, H42.out.congr HSN.out, O42.out⟩, rfl⟩ | exact ⟨_, _, _, _, _, ⟨k + 1, _, by omega, by rw [HKN.out], B42.out, H42.out.congr HSN.out, O42.out⟩, rfl⟩ | exact ⟨_, _, _, _, _, _, ⟨k + 1, _, by omega, by rw [HKN.out], B42.out, H42.out.congr HSN.out, O42.out⟩, rfl⟩ | exact ⟨_, _, _, _, _, _, _, ⟨k + 1, _, by omega, by rw [HKN.out], B42.out, H42.out.congr HSN.out, O42.out⟩, rfl⟩ | exact ⟨_, _, _, _, _, _, _, _, ⟨k + 1, _, by omega, by rw [HKN.out], B42.out, H42.out.congr HSN.out, O42.out⟩, rfl⟩ | exact ⟨_, _, _, _, _, _, _, _, _, ⟨k + 1, _, by omega, by rw [HKN.out], B42.out, H42.out.congr HSN.out, O42.out⟩, rfl⟩ | exact ⟨_, _, _, _, _, _, _, _, _, _, ⟨k + 1, _, by omega, by rw [HKN.out], B42.out, H42.out.congr HSN.out, O42.out⟩, rfl⟩ | exact ⟨_, _, _, _, _, _, _, _, _, _, _, ⟨k + 1, _, by omega, by rw [HKN.out], B42.out, H42.out.congr HSN.out, O42.out⟩, rfl⟩ | exact ⟨_, _, _, _, _, _, _, _, _, _, _, _, ⟨k + 1, _, by omega, by rw [HKN.out], B42.out, H42.out.congr HSN.out, O42.out⟩, rfl⟩ | exact ⟨_, _, _, _, _, _, _, _, _, _, _, _, _, ⟨k + 1, _, by omega, by rw [HKN.out], B42.out, H42.out.congr HSN.out, O42.out⟩, rfl⟩ | exact ⟨_, _, _, _, _, _, _, _, _, _, _, _, _, _, ⟨k + 1, _, by omega, by rw [HKN.out], B42.out, H42.out.congr HSN.out, O42.out⟩, rfl⟩ | exact ⟨_, _, _, _, _, _, _, _, _, _, _, _, _, _, _, ⟨k + 1, _, by omega, by rw [HKN.out], B42.out, H42.out.congr HSN.out, O42.out⟩, rfl⟩ | exact ⟨_, _, _, _, _, _, _, _, _, _, _, _, _, _, _, _, ⟨k + 1, _, by omega, by rw [HKN.out], B42.out, H42.out.congr HSN.out, O42.out⟩, rfl⟩ | exact ⟨_, _, _, _, _, _, _, _, _, _, _, _, _, _, _, _, _, ⟨k + 1, _, by omega, by rw [HKN.out], B42.out, H42.out.congr HSN.out, O42.out⟩, rfl⟩ | exact ⟨_, _, _, _, _, _, _, _, _, _, _, _, _, _, _, _, _, _, ⟨k + 1, _, by omega, by rw [HKN.out], B42.out, H42.out.congr HSN.out, O42.out⟩, rfl⟩ | exact ⟨_, _, _, _, _, _, _, _, _, _, _, _, _, _, _, _, _, _, _, ⟨k + 1, _, by omega, by rw [HKN.out], B42.out, H42.out.congr HSN.out, O42.out⟩, rfl⟩ | exact ⟨_, _, _, _, _, _, _, _, _, _, _, _, _, _, _, _, _, _, _, _, ⟨k + 1, _, by omega, by rw [HKN.out], B42.out, H42.out.congr HSN.out, O42.out⟩, rfl⟩ | exact ⟨_, _, _, _, _, _, _, _, _, _, _, _, _, _, _, _, _, _, _, _, _, ⟨k + 1, _, by omega, by rw [HKN.out], B42.out, H42.out.congr HSN.out, O42.out⟩, rfl⟩ | exact ⟨_, _, _, _, _, _, _, _, _, _, _, _, _, _, _, _, _, _, _, _, _, _, ⟨k + 1, _, by omega, by rw [HKN.out], B42.out, H42.out.congr HSN.out, O42.out⟩, rfl⟩ | exact ⟨_, _, _, _, _, _, _, _, _, _, _, _, _, _, _, _, _, _, _, _, _, _, _, ⟨k + 1, _, by omega, by rw [HKN.out], B42.out, H42.out.congr HSN.out, O42.out⟩, rfl⟩ | exact ⟨_, _, _, _, _, _, _, _, _, _, _, _, _, _, _, _, _, _, _, _, _, _, _, _, ⟨k + 1, _, by omega, by rw [HKN.out], B42.out, H42.out.congr HSN.out, O42.out⟩, rfl⟩ | exact ⟨_, _, _, _, _, _, _, _, _, _, _, _, _, _, _, _, _, _, _, _, _, _, _, _, _, ⟨k + 1, _, by omega, by rw [HKN.out], B42.out, H42.out.congr HSN.out, O42.out⟩, rfl⟩ | exact ⟨_, _, _, _, _, _, _, _, _, _, _, _, _, _, _, _, _, _, _, _, _, _, _, _, _, _, ⟨k + 1, _, by omega, by rw [HKN.out], B42.out, H42.out.congr HSN.out, O42.out⟩, rfl⟩ | exact ⟨_, _, _, _, _, _, _, _, _, _, _, _, _, _, _, _, _, _, _, _, _, _, _, _, _, _, _, ⟨k + 1, _, by omega, by rw [HKN.out], B42.out, H42.out.congr HSN.out, O42.out⟩, rfl⟩ | exact ⟨_, _, _, _, _, _, _, _, _, _, _, _, _, _, _, _, _, _, _, _, _, _, _, _, _, _, _, _, ⟨k + 1, _, by omega, by rw [HKN.out], B42.out, H42.out.congr HSN.out, O42.out⟩, rfl⟩ | exact ⟨_, _, _, _, _, _, _, _, _, _, _, _, _, _, _, _, _, _, _, _, _, _, _, _, _, _, _, _, _, ⟨k + 1, _, by omega, by rw [HKN.out], B42.out, H42.out.congr HSN.out, O42.out⟩, rfl⟩ | exact ⟨_, _, _, _, _, _, _, _, _, _, _, _, _, _, _, _, _, _, _, _, _, _, _, _, _, _, _, _, _, _, ⟨k + 1, _, by omega, by rw [HKN.out], B42.out, H42.out.congr HSN.out, O42.out⟩, rfl⟩ | exact ⟨_, _, _, _, _, _, _, _, _, _, _, _, _, _, _, _, _, _, _, _, _, _, _, _, _, _, _, _, _, _, _, ⟨k + 1, _, by omega, by rw [HKN.out], B42.out, H42.out.congr HSN.out, O42.out⟩, rfl⟩ | exact ⟨_, _, _, _, _, _, _, _, _, _, _, _, _, _, _, _, _, _, _, _, _, _, _, _, _, _, _, _, _, _, _, _, ⟨k + 1, _, by omega, by rw [HKN.out], B42.out, H42.out.congr HSN.out, O42.out⟩, rfl⟩ | exact ⟨_, _, _, _, _, _, _, _, _, _, _, _, _, _, _, _, _, _, _, _, _, _, _, _, _, _, _, _, _, _, _, _, _, ⟨k + 1, _, by omega, by rw [HKN.out], B42.out, H42.out.congr HSN.out, O42.out⟩, rfl⟩ | exact ⟨_, _, _, _, _, _, _, _, _, _, _, _, _, _, _, _, _, _, _, _, _, _, _, _, _, _, _, _, _, _, _, _, _, _, ⟨k + 1, _, by omega, by rw [HKN.out], B42.out, H42.out.congr HSN.out, O42.out⟩, rfl⟩ | exact ⟨_, _, _, _, _, _, _, _, _, _, _, _, _, _, _, _, _, _, _, _, _, _, _, _, _, _, _, _, _, _, _, _, _, _, _, ⟨k + 1, _, by omega, by rw [HKN.out], B42.out, H42.out.congr HSN.out, O42.out⟩, rfl⟩ | exact ⟨_, _, _, _, _, _, _, _, _, _, _, _, _, _, _, _, _, _, _, _, _, _, _, _, _, _, _, _, _, _, _, _, _, _, _, _, ⟨k + 1, _, by omega, by rw [HKN.out], B42.out, H42.out.congr HSN.out, O42.out⟩, rfl⟩ | exact ⟨_, _, _, _, _, _, _, _, _, _, _, _, _, _, _, _, _, _, _, _, _, _, _, _, _, _, _, _, _, _, _, _, _, _, _, _, _, ⟨k + 1, _, by omega, by rw [HKN.out], B42.out, H42.out.congr HSN.out, O42.out⟩, rfl⟩ | exact ⟨_, _, _, _, _, _, _, _, _, _, _, _, _, _, _, _, _, _, _, _, _, _, _, _, _, _, _, _, _, _, _, _, _, _, _, _, _, _, ⟨k + 1, _, by omega, by rw [HKN.out], B42.out, H42.out.congr HSN.out, O42.out⟩, rfl⟩ | exact ⟨_, _, _, _, _, _, _, _, _, _, _, _, _, _, _, _, _, _, _, _, _, _, _, _, _, _, _, _, _, _, _, _, _, _, _, _, _, _, _, ⟨k + 1, _, by omega, by rw [HKN.out], B42.out, H42.out.congr HSN.out, O42.out⟩, rfl⟩ 
                case measure => simp [Go.RowKit.intOf]; have := HKN.out; have := HKK.out; omega
        · obtain rfl : k = 336 := by omega
          have HE := hide (hO.box HP2.out h03)
          have HBX := hide hB3
          have hBE : Below w.heap.size w wA := hBA.trans (hO.to_below h03l hBA.size)
          have hL1 := HH1.out.only h36 hO
          have hL2 := hH
          obtain ⟨Au, cu, rfl, -, -, -⟩ := OwnLists.form hL2
          obtain ⟨Aw, cw, rfl, -, -, -⟩ := OwnLists.form hL1
          have HOB := hide hBE
          obtain ⟨c0, c1, -, -, -⟩ := box_two hB3
          obtain ⟨d0, d1, f0, f1, hl⟩ := box_two HE.out
          have HR := hide (show Box ((wA.setCell ⟨w.heap.size, 0, none⟩ (.slice Aw 3 cw)).setCell ⟨w.heap.size, 1, none⟩ (.slice Au 336 cu)) w.heap.size 64 #[.slice Aw 3 cw, .slice Au 336 cu] by have h := (HE.out.set_ 0 (.slice Aw 3 cw)).set_ 1 (.slice Au 336 cu); simpa using h)
          have HBR := hide ((hBE.setCell (p := ⟨w.heap.size, 0, none⟩) (Nat.le_refl _) (.slice Aw 3 cw)).setCell (p := ⟨w.heap.size, 1, none⟩) (Nat.le_refl _) (.slice Au 336 cu))
          have HOR := hide (((Only.refl w.heap.size wA).set_ 0 (.slice Aw 3 cw)).set_ 1 (.slice Au 336 cu))
          go_wp2_with fail
          obtain ⟨y0, y1, -, -, -⟩ := box_two HR.out
          refine bodyPost_ret (v := .agg #[.slice Aw 3 cw, .slice Au 336 cu]) (by simp [results, Try.results23, go_sem, y0, y1]) rfl ⟨_, _, rfl, ?_, ?_, HBR.out⟩
          · exact (hL1.only (by omega) HOR.out).weak hB6.size
          · exact (hL2.only (by omega) HOR.out).weak hBA.size
end Go.Proofs.Ytcndeegfkgfnkaa
