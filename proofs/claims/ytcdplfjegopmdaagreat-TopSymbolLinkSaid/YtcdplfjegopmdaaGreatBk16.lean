/- Lemmas: S30. -/
import Derived.Laws.MakeOwn
import Derived.Test.YtcdplfjegopmdaaGreatBk12
import Derived.Test.YtcdplfjegopmdaaGreatBk15
set_option linter.unusedVariables false
set_option linter.unusedSimpArgs false
/- leastDistances of the code. -/
namespace Go.Proofs.YtcdplfjegopmdaaGreat
open Go.RowKit Go.Shelf Go.Lib
attribute [local go_sem] Oper.semAt_some
theorem pairInfo : (Tryz.prog.info? 129).map (fun i => (i.zero, i.size, i.bytes)) = some (some (.agg #[.int .i64 0, .int .i64 0]), 2, 16) := by kernel_rfl
theorem make_pairs (n : Nat) (hn : n ≤ 1000) (w : World) : (Instr.makeSlice 127 (.int .i64 (n : Int)) (.int .i64 (n : Int))).run Tryz.prog w = .ok (.slice (some ⟨w.heap.size, 0, none⟩) n n) (w.alloc (.cells (pairC n fun _ _ => 0) 129)) := by
  obtain ⟨i0, hi, hz0, hz1, hz2⟩ := info_parts pairInfo
  have hr := run_make (P := Tryz.prog) w 127 129 i0 _ Tryz.underlying127 hi hz0 .i64 .i64 n n (by omega) (Int.le_refl _) (by rw [hz2]; omega) (by omega)
  simp only [Int.toNat_natCast, hz1] at hr
  rw [← pairC_zero]
  exact hr
theorem minLt (x y : Int) : (if y < x then y else x) = min x y := by
  split <;> omega
/-- The distance of a part from the level of the number j of c bits. -/
def distF (p g : Int) (c j : Nat) : Int := ((p - g * lvl c (labF c j)).natAbs : Int)
theorem lvl_le {c : Nat} {F : Nat → Int} (h1 : 1 ≤ c) (h3 : c ≤ 3) (h : ∀ j, j < c → IsBit (F j)) : -7 ≤ lvl c F ∧ lvl c F ≤ 7 := by
  obtain rfl | rfl | rfl : c = 1 ∨ c = 2 ∨ c = 3 := by omega
  · have := lvl1_le h; omega
  · have := lvl2_le h; omega
  · exact lvl3_le h
theorem gl_le {g v : Int} (hg : 1 ≤ g ∧ g ≤ 10000000) (hv : -7 ≤ v ∧ v ≤ 7) : -70000000 ≤ g * v ∧ g * v ≤ 70000000 := by
  have h1 : g * v ≤ g * 7 := Int.mul_le_mul_of_nonneg_left hv.2 (by omega)
  have h2 : g * (-7) ≤ g * v := Int.mul_le_mul_of_nonneg_left hv.1 (by omega)
  omega
theorem distF_le {p g : Int} {c j : Nat} (hp : -100000000 ≤ p ∧ p ≤ 100000000) (hg : 1 ≤ g ∧ g ≤ 10000000) (h1 : 1 ≤ c) (h3 : c ≤ 3) : 0 ≤ distF p g c j ∧ distF p g c j ≤ 170000000 := by
  have := gl_le hg (lvl_le h1 h3 fun q _ => labF_bit c j q)
  unfold distF
  omega
/-- What lies in memory between two rounds. -/
structure LInv (w0 W : World) (B g5 b7 b3 b4 : Nat) (p g : Int) (c : Nat) (F : Nat → Nat → Int) : Prop where
  row : Box W g5 129 (pairC c F)
  box : Box W b7 127 #[.slice (some ⟨g5, 0, none⟩) c c]
  part : Box W b3 3 #[.int .i64 p]
  gain : Box W b4 3 #[.int .i64 g]
  below : Below B w0 W
section
variable {w0 W Y : World} {B g5 b7 b3 b4 : Nat} {p g : Int} {c : Nat} {F : Nat → Nat → Int}
theorem LInv.roundly {row : Option Nat} (h : LInv w0 W B g5 b7 b3 b4 p g c F) (hg : W.grownBy Y row) (hB : B ≤ b3) (hr : ∀ r, row = some r → B ≤ r ∧ ∃ o : Obj, W.heap[r]? = some o ∧ o.isCells = false) : LInv w0 Y B g5 b7 b3 b4 p g c F :=
  ⟨h.row.roundly hg fun r e => (hr r e).2, h.box.roundly hg fun r e => (hr r e).2, h.part.roundly hg fun r e => (hr r e).2, h.gain.roundly hg fun r e => (hr r e).2, h.below.grown hg (by have := h.part.lt; omega) fun r e => (hr r e).1⟩
theorem LInv.under (h : LInv w0 W B g5 b7 b3 b4 p g c F) (hb : Below W.heap.size W Y) (hB : B ≤ b3) : LInv w0 Y B g5 b7 b3 b4 p g c F :=
  ⟨h.row.below hb, h.box.below hb, h.part.below hb, h.gain.below hb, h.below.trans (hb.mono (by have := h.part.lt; omega))⟩
theorem LInv.put (h : LInv w0 W B g5 b7 b3 b4 p g c F) (q d : Nat) (v : Int) (G : Nat → Nat → Int) (hq : q < c) (hd : d < 2) (hG : ∀ i e, i < c → e < 2 → G i e = if i = q ∧ e = d then v else F i e) (h7 : b7 ≠ g5) (h3 : b3 ≠ g5) (h4 : b4 ≠ g5) (hB : B ≤ g5) : LInv w0 (W.setCell ⟨g5, q * 2 + d, none⟩ (.int .i64 v)) B g5 b7 b3 b4 p g c G :=
  ⟨by rw [← pairC_set F G v hq hd hG]; exact h.row.set_ _ _, h.box.other (p := ⟨g5, q * 2 + d, none⟩) h7 _, h.part.other (p := ⟨g5, q * 2 + d, none⟩) h3 _, h.gain.other (p := ⟨g5, q * 2 + d, none⟩) h4 _, h.below.setCell (p := ⟨g5, q * 2 + d, none⟩) hB _⟩
theorem LInv.congr {G : Nat → Nat → Int} (h : LInv w0 W B g5 b7 b3 b4 p g c F) (e : ∀ i d, i < c → d < 2 → F i d = G i d) : LInv w0 W B g5 b7 b3 b4 p g c G := ⟨by rw [← pairC_congr e]; exact h.row, h.box, h.part, h.gain, h.below⟩
end
set_option maxHeartbeats 8000000 in
set_option maxRecDepth 100000 in
theorem leastDistances_any (p g : Int) (c : Nat) (w : World) (hp : -100000000 ≤ p ∧ p ≤ 100000000) (hg : 1 ≤ g ∧ g ≤ 10000000) (h1 : 1 ≤ c) (h3 : c ≤ 3) :
    Calls Tryz.prog 108 #[.int .i64 p, .int .i64 g, .int .i64 (c : Int)] w fun e w' => ∃ gb, e = .returned (.slice (some ⟨gb, 0, none⟩) c c) ∧ w.heap.size ≤ gb ∧ Box w' gb 129 (pairC c (leastTo (distF p g c) c (2 ^ c))) ∧ Below w.heap.size w w' := by
  have HD := hide (fun j => distF_le (p := p) (g := g) (c := c) (j := j) hp hg h1 h3)
  have HDE := hide (show ∀ j, ((p - g * lvl c (labF c j)).natAbs : Int) = distF p g c j from fun _ => rfl)
  obtain ⟨D, hD⟩ : ∃ z, distF p g c = z := ⟨_, rfl⟩
  rw [hD]
  simp only [hD] at HD HDE
  clear hD
  have hmk := fun W => make_pairs c (by omega) W
  obtain ⟨E, hE⟩ : ∃ z, leastTo D c (2 ^ c) = z := ⟨_, rfl⟩
  rw [hE]
  have HE := hide hE
  clear hE
  refine (callsIn_wide (n := 9)).1 ?_
  refine callsIn_of_wp_marks Tryz.func108 rfl trivial ?_ rfl
  refine wpIn_wide.2 ?_
  simp only [Tryz.ntmps108, List.size_toArray, List.length_cons, List.length_nil, Nat.reduceAdd, Nat.reduceSub, Array.replicate_succ, Array.replicate_zero, List.push_toArray, List.append_toArray, List.nil_append, List.cons_append]
  go_upto_region 1 with fail
  obtain ⟨w1, hw1⟩ : ∃ q : World, q = (w.alloc (.cells #[.int .i64 p] 3)).alloc (.cells #[.int .i64 g] 3) := ⟨_, rfl⟩
  try rw [← hw1]
  have HX3 := hide (show Box w1 w.heap.size 3 #[.int .i64 p] by rw [hw1]; exact (Box.made rfl).alloc _)
  have HX4 := hide (show Box w1 (w.heap.size + 1) 3 #[.int .i64 g] by rw [hw1]; exact Box.made (by simp))
  have HB := hide (show Below w.heap.size w w1 by rw [hw1]; (repeat (first | (with_reducible exact Below.refl _ _) | (with_reducible refine Go.below_drewN ?_ _) | (with_reducible refine Below.drew ?_) | (with_reducible refine Below.alloc ?_ (by first | exact Nat.le_refl _ | (simp; done) | (simp; omega) | omega) _) | (with_reducible refine Below.setCell ?_ (by first | exact Nat.le_refl _ | (simp; done) | (simp; omega) | omega) _))))
  clear hw1
  obtain ⟨b3, hb3⟩ : ∃ z, w.heap.size = z := ⟨_, rfl⟩
  obtain ⟨b4, hb4⟩ : ∃ z, b3 + 1 = z := ⟨_, rfl⟩
  simp only [hb3, hb4] at HX3 HX4 HB ⊢
  go_upto_region 2 with fail
  obtain ⟨g5, hg5⟩ : ∃ z, w1.heap.size = z := ⟨_, rfl⟩
  obtain ⟨b7, hb7⟩ : ∃ z, g5 + 1 = z := ⟨_, rfl⟩
  obtain ⟨w2, hw2⟩ : ∃ q : World, q = (w1.alloc (.cells (pairC c fun _ _ => 0) 129)).alloc (.cells #[.slice (some ⟨g5, 0, none⟩) c c] 127) := ⟨_, rfl⟩
  simp only [hg5, hb7]
  try rw [← hw2]
  have HL := hide (show LInv w w2 b3 g5 b7 b3 b4 p g c (fun q _ => if q < 0 then 9223372036854775807 else 0) by
    rw [hw2]
    have e1 : (pairC c fun q _ => if q < 0 then (9223372036854775807 : Int) else 0) = pairC c fun _ _ => 0 := pairC_congr fun q _ _ _ => if_neg (Nat.not_lt_zero q)
    exact ⟨by rw [e1]; exact (Box.made hg5.symm).alloc _, Box.made (by simp; omega), (HX3.out.alloc _).alloc _, (HX4.out.alloc _).alloc _, (HB.out.alloc (by have := HB.out.size; omega) _).alloc (by have := HB.out.size; simp; omega) _⟩)
  have h35 : b3 < g5 := by have := HX3.out.lt; omega
  have h45 : b4 < g5 := by have := HX4.out.lt; omega
  have h57 : b7 ≠ g5 := by omega
  have hB3 : b3 ≤ b3 := Nat.le_refl _
  have hlt7 : b7 < w2.heap.size := HL.out.box.lt
  clear hw2 HX3 HX4 HB hmk
  obtain ⟨x7, f7, l7⟩ : w2.cell? ⟨b7, 0, none⟩ = some (.slice (some ⟨g5, 0, none⟩) c c) ∧ w2.frozen? ⟨b7, 0, none⟩ = false ∧ b7 < w2.heap.size := ⟨HL.out.box.at_ 0, HL.out.box.free 0, HL.out.box.lt⟩
  go_wp2_with fail
  clear x7 f7 l7
  go_loopw [17] (fun i wr => ∃ k : Nat, k ≤ c ∧ i = .int .i64 (k : Int) ∧ Hid (LInv w wr b3 g5 b7 b3 b4 p g c (fun q _ => if q < k then 9223372036854775807 else 0)) ∧ b7 < wr.heap.size) (fun i _ => c - (Go.RowKit.intOf i).toNat)
  case atStart => exact ⟨0, Nat.zero_le _, rfl, HL, hlt7⟩
  case round =>
    clear HL hlt7
    obtain ⟨k, hk, rfl, HL, hlt7⟩ := hrel
    obtain ⟨wA, rfl⟩ : ∃ x : World, x = wr := ⟨_, rfl⟩
    by_cases hlt : k < c
    case pos =>
      have hltz : (k : Int) < (c : Int) := by omega
      have x7 : wA.cell? ⟨b7, 0, none⟩ = some (.slice (some ⟨g5, 0, none⟩) c c) := HL.out.box.at_ 0
      have y0 := (HL.out.row.at_ (k * 2 + 0)).trans (pairC_at _ hlt (by decide))
      have y1 := (HL.out.row.at_ (k * 2 + 1)).trans (pairC_at _ hlt (by decide))
      have f0 := HL.out.row.free (k * 2 + 0)
      have f1 := HL.out.row.free (k * 2 + 1)
      simp only [Nat.add_zero] at y0 f0
      obtain ⟨F, hF⟩ : ∃ F : Nat → Nat → Int, F = (fun q _ => if q < k then 9223372036854775807 else 0) := ⟨_, rfl⟩
      rw [← hF] at HL
      have HL2 := hide ((HL.out.put k 0 9223372036854775807 (fun q d => if q = k ∧ d = 0 then 9223372036854775807 else F q d) hlt (by decide) (fun _ _ _ _ => rfl) h57 (by omega) (by omega) (by omega)).put k 1 9223372036854775807 (fun q d => if q < k + 1 then 9223372036854775807 else 0) hlt (by decide) (fun q d _ hd => by
        rw [hF]
        show (if q < k + 1 then _ else _) = (if q = k ∧ d = 1 then _ else if q = k ∧ d = 0 then _ else if q < k then _ else _)
        by_cases e : q = k
        · subst e
          obtain rfl | rfl : d = 0 ∨ d = 1 := by omega
          · simp
          · simp
        · rw [if_neg (fun h : q = k ∧ d = 1 => e h.1), if_neg (fun h : q = k ∧ d = 0 => e h.1)]
          by_cases h : q < k
          · rw [if_pos (show q < k + 1 by omega), if_pos h]
          · rw [if_neg (show ¬ q < k + 1 by omega), if_neg h]) h57 (by omega) (by omega) (by omega))
      simp only [Nat.add_zero] at HL2
      have hl5 := HL.out.row.lt
      clear HL hF
      go_wp2_with fail
      go_roundw
      case rel => exact ⟨k + 1, by omega, by go_num, HL2, by simpa [World.setCell] using hlt7⟩
      case measure => simp [Go.RowKit.intOf]; omega
    obtain rfl : c = k := by omega
    have hltz : ¬ (c : Int) < (c : Int) := by omega
    replace HL := hide (HL.out.congr (G := leastTo D c 0) fun q d hq _ => if_pos hq)
    clear hlt hk
    go_wp2_with fail
    refine (labelsOf_any _ _).mono ?_
    rintro e w6 ⟨rfl, hw6⟩
    obtain ⟨b6, hb6⟩ : ∃ z, wA.heap.size = z := ⟨_, rfl⟩
    have bn : Box w6 b6 3 #[.int .i64 (c : Int)] := by rw [← hw6]; exact Box.made hb6.symm
    have hc6 : Below wA.heap.size wA w6 := by rw [← hw6]; (repeat (first | (with_reducible exact Below.refl _ _) | (with_reducible refine Go.below_drewN ?_ _) | (with_reducible refine Below.drew ?_) | (with_reducible refine Below.alloc ?_ (by first | exact Nat.le_refl _ | (simp; done) | (simp; omega) | omega) _) | (with_reducible refine Below.setCell ?_ (by first | exact Nat.le_refl _ | (simp; done) | (simp; omega) | omega) _)))
    replace HL := hide (HL.out.under hc6 hB3)
    have h76 : b7 < b6 := by omega
    have HG5 := hide (show g5 < w6.heap.size by have := HL.out.row.lt; omega)
    simp only [hb6]
    clear hw6 hc6 hb6 hlt7
    go_wp2_with fail
    refine (wpIn_wide (n := 9)).1 ?_
    apply wpIn_rangeFunc_told (n := 9) (encs := encL c) rfl (by decide) rfl trivial (enters_of Tryz.func126 (by kernel_rfl) rfl) (labels_told 8 b6 c w6 bn h1 (by omega)) bn.lt (Below.refl _ _) (fun _ => rfl)
      (fun xs W => LInv w W b3 g5 b7 b3 b4 p g c (leastTo D c xs.length)) (fun _ _ => False)
    case hI => exact fun xs X Y row h hg hr => h.roundly hg hB3 fun r e => ⟨by have := (hr r e).1; have := bn.lt; omega, (hr r e).2⟩
    case hIr => exact fun xs X Y row h _ _ => h
    case hT => exact fun xs x => told_own _ _ _ xs x
    case h0 => exact HL.out
    case hassign =>
      intro l x W K hK
      unfold encL
      gi_wp2
      exact hK
    case hbody =>
      intro l xs x W hsz HLW HT hlen
      obtain ⟨k, hk⟩ : ∃ k, xs.length = k := ⟨_, rfl⟩
      have HLEN := hide (show (xs ++ [x]).length = k + 1 by rw [List.length_append, hk]; rfl)
      rw [hk] at HLW hlen
      obtain ⟨hlo, hIx⟩ := HT
      rw [hk] at hIx
      have h6W := bn.lt
      have HW0 := hide (Only.refl g5 W)
      clear HL
      have HL := hide HLW
      have HI := hide hIx
      clear HLW hIx
      have HLV := hide (fun W1 (h : IntsAt W1 0 (some ⟨x, 0, none⟩) c (labF c k)) => levelOf_any x 0 c c _ W1 h1 h3 (Nat.le_refl _) (by omega) (fun j _ => labF_bit c k j) h)
      have hvl := gl_le hg (lvl_le h1 h3 fun q _ => labF_bit c k q)
      have HDk := hide (HDE.out k)
      have hDk := HD.out k
      obtain ⟨v, hv⟩ : ∃ z, lvl c (labF c k) = z := ⟨_, rfl⟩
      rw [hv] at HLV hvl HDk
      obtain ⟨gv, hgv⟩ : ∃ z, g * v = z := ⟨_, rfl⟩
      rw [hgv] at hvl HDk
      have q1 : IntKind.i64.wrap (g * v) = gv := by rw [hgv]; exact IntWalk.i64_in _ (by omega)
      have q2 : IntKind.i64.wrap (p - gv) = p - gv := IntWalk.i64_in _ (by omega)
      have HSZ := hide (fun W1 => sizeOf_any (p - gv) W1 (by omega))
      rw [HDk.out] at HSZ
      obtain ⟨u, hu⟩ : ∃ z, D k = z := ⟨_, rfl⟩
      rw [hu] at HSZ hDk
      have HU := hide hu
      clear HDk hu hgv hv
      gi_wp2_with fail
      refine wpIn_region_held_drew (S := fun w' => w'.cell? ⟨b3, 0, none⟩ = some (.int .i64 p) ∧ w'.cell? ⟨b4, 0, none⟩ = some (.int .i64 g)) (by kernel_rfl) (by kernel_rfl) (fun ⟨_, _, h⟩ => h) ⟨HL.out.part.at_ 0, HL.out.gain.at_ 0⟩ (fun hHeld => ?_)
      obtain ⟨w_1, hw_1⟩ : ∃ q : World, q = W.drew := ⟨_, rfl⟩
      rw [← hw_1] at hHeld ⊢
      have hc_1 : Below W.heap.size W w_1 := by rw [hw_1]; exact (Below.refl _ _).drew
      clear hw_1
      replace HI := hide (HI.out.below hc_1)
      replace HL := hide (HL.out.under hc_1 hB3)
      replace HW0 := hide (HW0.out.below hc_1)
      clear hc_1
      refine wpAnyH_take (i := 0) (oi := ⟨some 28, _, _, _, _, _⟩) (v := ?_) rfl (by kernel_rfl) (by kernel_rfl) (by kernel_rfl) (fun _ _ _ h => h) (Or.inl ⟨by rfl, ?_⟩) (by assumption) ?_
      rotate_left
      · (intro w' hSw; (try dsimp only at hSw); go_simp <;> (with_reducible rfl))
      try simp only [Act.put, List.setIfInBounds_toArray, List.set_cons_zero, List.set_cons_succ]
      refine wpAnyH_take (i := 1) (oi := ⟨some 29, _, _, _, _, _⟩) (v := ?_) rfl (by kernel_rfl) (by kernel_rfl) (by kernel_rfl) (fun _ _ _ h => h) (Or.inl ⟨by rfl, ?_⟩) (by assumption) ?_
      rotate_left
      · (intro w' hSw; (try dsimp only at hSw); go_simp <;> (with_reducible rfl))
      try simp only [Act.put, List.setIfInBounds_toArray, List.set_cons_zero, List.set_cons_succ]
      refine wpAnyH_take (i := 2) (oi := ⟨some 30, _, _, _, _, _⟩) (v := ?_) rfl (by kernel_rfl) (by kernel_rfl) (by kernel_rfl) (fun _ _ _ h => h) (Or.inl ⟨by rfl, ?_⟩) (by assumption) ?_
      rotate_left
      · (intro w' hSw; (try dsimp only at hSw); go_simp <;> (with_reducible rfl))
      try simp only [Act.put, List.setIfInBounds_toArray, List.set_cons_zero, List.set_cons_succ]
      refine wpAnyH_ready (rs := [3]) (by kernel_rfl) (by simp) ?_
      refine AllReadyH.cons (o := ⟨some 31, _, _, _, _, _⟩) rfl (fun K' hK => ?_) AllReadyH.nil
      go_simp
      go_at_call 97
      refine (HLV.out _ (HI.out.weak (Nat.zero_le _))).mono ?_
      rintro e_ w_2 ⟨rfl, hb_2⟩
      replace HI := hide (HI.out.below hb_2)
      replace HL := hide (HL.out.under hb_2 hB3)
      replace HW0 := hide (HW0.out.below hb_2)
      clear hb_2
      go_wp2_with fail
      refine hK.out _ _ ⟨HL.out.part.at_ 0, HL.out.gain.at_ 0⟩ (fun hHeld => ?_)
      clear hK K'
      try simp only [Act.put, List.setIfInBounds_toArray, List.set_cons_zero, List.set_cons_succ]
      refine wpAnyH_take (i := 4) (oi := ⟨some 32, _, _, _, _, _⟩) (v := ?_) rfl (by kernel_rfl) (by kernel_rfl) (by kernel_rfl) (fun _ _ _ h => h) (Or.inl ⟨by rfl, ?_⟩) (by assumption) ?_
      rotate_left
      · (intro w' hSw; (try dsimp only at hSw); go_simp <;> (with_reducible rfl))
      try simp only [Act.put, List.setIfInBounds_toArray, List.set_cons_zero, List.set_cons_succ]
      refine wpAnyH_take (i := 5) (oi := ⟨some 33, _, _, _, _, _⟩) (v := ?_) rfl (by kernel_rfl) (by kernel_rfl) (by kernel_rfl) (fun _ _ _ h => h) (Or.inl ⟨by rfl, ?_⟩) (by assumption) ?_
      rotate_left
      · (intro w' hSw; (try dsimp only at hSw); go_simp <;> (with_reducible rfl))
      try simp only [Act.put, List.setIfInBounds_toArray, List.set_cons_zero, List.set_cons_succ]
      refine wpAnyH_ready (rs := [6]) (by kernel_rfl) (by simp) ?_
      refine AllReadyH.cons (o := ⟨some 34, _, _, _, _, _⟩) rfl (fun K' hK => ?_) AllReadyH.nil
      go_simp
      go_at_call 122
      refine (HSZ.out _).mono ?_
      rintro e_ v_ ⟨rfl, hv_⟩
      have hv_ := hv_.symm
      subst hv_
      go_wp2_with fail
      refine hK.out _ _ ⟨HL.out.part.at_ 0, HL.out.gain.at_ 0⟩ (fun hHeld => ?_)
      clear hK K'
      try simp only [Act.put, List.setIfInBounds_toArray, List.set_cons_zero, List.set_cons_succ]
      refine wpAnyH_take (i := 7) (oi := ⟨some 10, _, _, _, _, _⟩) (v := ?_) rfl (by kernel_rfl) (by kernel_rfl) (by kernel_rfl) (fun _ _ _ h => h) (Or.inl ⟨by rfl, ?_⟩) (by assumption) ?_
      rotate_left
      · (intro w' hSw; (try dsimp only at hSw); go_simp <;> (with_reducible rfl))
      try simp only [Act.put, List.setIfInBounds_toArray, List.set_cons_zero, List.set_cons_succ]
      refine wpAnyH_done (by kernel_rfl) ?_ _
      clear hHeld HLV HSZ q1 q2
      gi_wp2_with fail
      have HDL := hide (show ∀ q d, leastTo D c (k + 1) q d = if labF c k q = (d : Int) then min (leastTo D c k q d) u else leastTo D c k q d from fun q d => by rw [← HU.out]; rfl)
      have HLW := hide (fun q d => leastTo_low (D := D) (c := c) (fun j => (HD.out j).1) (k := k) (p := q) (b := d))
      obtain ⟨Y0, hY0⟩ : ∃ z, leastTo D c k = z := ⟨_, rfl⟩
      obtain ⟨Y1, hY1⟩ : ∃ z, leastTo D c (k + 1) = z := ⟨_, rfl⟩
      simp only [hY0, hY1] at HDL HLW
      rw [hY0] at HL
      have HY1 := hide hY1
      clear hY0 hY1
      have hl6 : w6.heap.size ≤ w_2.heap.size := Nat.le_trans hsz HW0.out.size
      have h56 : g5 < w6.heap.size := by have := HG5.out; omega
      gi_loopw [37] (fun i wr => ∃ q : Nat, q ≤ c ∧ i = .int .i64 (q : Int) ∧ Hid (LInv w wr b3 g5 b7 b3 b4 p g c (fun a d => if a < q then Y1 a d else Y0 a d)) ∧ Hid (IntsAt wr w6.heap.size (some ⟨x, 0, none⟩) c (labF c k)) ∧ Hid (Only g5 W wr)) (fun i _ => c - (Go.RowKit.intOf i).toNat)
      case atStart => exact ⟨0, Nat.zero_le _, rfl, hide (HL.out.congr fun a d _ _ => (if_neg (Nat.not_lt_zero a)).symm), HI, HW0⟩
      case round =>
        clear HL HI HW0 hl6
        obtain ⟨q, hq, rfl, HL, HI, HW0⟩ := hrel
        obtain ⟨wB, rfl⟩ : ∃ x : World, x = wr := ⟨_, rfl⟩
        by_cases hlt : q < c
        case neg =>
          obtain rfl : c = q := by omega
          have hltz : ¬ (c : Int) < (c : Int) := by omega
          have hl6 : w6.heap.size ≤ wB.heap.size := Nat.le_trans hsz HW0.out.size
          gi_wp2_with fail
          refine ⟨KeepsFrom.of_grownBy HW0.out fun j e => (by injection e; omega), HW0.out.block b6 (by omega) (fun e => by injection e; omega), ?_⟩
          show LInv w wB b3 g5 b7 b3 b4 p g c (leastTo D c (xs ++ [x]).length)
          rw [HLEN.out, HY1.out]
          exact HL.out.congr fun a d ha _ => if_pos ha
        have hltz : (q : Int) < (c : Int) := by omega
        have c0 := intsAt_cellK (HI.out.weak (Nat.zero_le _)) hlt
        obtain ⟨F, hF⟩ : ∃ F : Nat → Nat → Int, F = (fun a d => if a < q then Y1 a d else Y0 a d) := ⟨_, rfl⟩
        rw [← hF] at HL
        have HF0 := hide (fun d => (show F q d = Y0 q d by rw [hF]; exact if_neg (Nat.lt_irrefl q)))
        have HF1 := hide (fun a d => (show F a d = if a < q then Y1 a d else Y0 a d by rw [hF]))
        clear hF
        have hbit := labF_bit c k q
        obtain ⟨B, hBB⟩ : ∃ z, labF c k q = z := ⟨_, rfl⟩
        rw [hBB] at c0 hbit
        have HBB := hide hBB
        clear hBB
        simp only [Nat.zero_add] at c0
        rcases hbit with rfl | rfl
        · skip
          have hyl := HLW.out q 0
          obtain ⟨y, hy⟩ : ∃ z, Y0 q 0 = z := ⟨_, rfl⟩
          rw [hy] at hyl
          have HYC := hide (fun W1 (h : LInv w W1 b3 g5 b7 b3 b4 p g c F) => (⟨((h.row.at_ (q * 2)).trans (pairC_at (b := 0) F hlt (by decide))).trans (by rw [HF0.out, hy]), h.row.free (q * 2), h.row.lt⟩ : W1.cell? ⟨g5, q * 2, none⟩ = some (.int .i64 y) ∧ W1.frozen? ⟨g5, q * 2, none⟩ = false ∧ g5 < W1.heap.size))
          obtain ⟨m, hm⟩ : ∃ z : Int, (if u < y then u else y) = z := ⟨_, rfl⟩
          have hnew : Y1 q 0 = m := by rw [HDL.out, HBB.out, hy, ← hm, minLt]; exact if_pos rfl
          have hold : Y1 q 1 = Y0 q 1 := by rw [HDL.out, HBB.out]; exact if_neg (by decide)
          have HNX := hide (fun W1 (h : LInv w W1 b3 g5 b7 b3 b4 p g c F) => h.put q 0 m (fun a d => if a < q + 1 then Y1 a d else Y0 a d) hlt (by decide) (fun a d _ hd => by
            rw [HF1.out]
            by_cases e : a = q
            · subst e
              rw [if_pos (Nat.lt_succ_self _), if_neg (Nat.lt_irrefl _)]
              obtain rfl | rfl : d = 0 ∨ d = 1 := by omega
              · simp [hnew]
              · simp [hold]
            · rw [if_neg (fun h : a = q ∧ d = 0 => e h.1)]
              by_cases h : a < q
              · rw [if_pos (show a < q + 1 by omega), if_pos h]
              · rw [if_neg (show ¬ a < q + 1 by omega), if_neg h]) h57 (by omega) (by omega) (by omega))
          simp only [Nat.add_zero] at HNX
          clear hnew hold hy
          gi_wp2_with fail
          refine wpIn_region_held_drew (S := fun w' => w'.cell? ⟨b7, 0, none⟩ = some (.slice (some ⟨g5, 0, none⟩) c c)) (by kernel_rfl) (by kernel_rfl) (fun ⟨_, _, h⟩ => h) (HL.out.box.at_ 0) (fun hHeld => ?_)
          obtain ⟨w_3, hw_3⟩ : ∃ q : World, q = wB.drew := ⟨_, rfl⟩
          rw [← hw_3] at hHeld ⊢
          have hc_3 : Below wB.heap.size wB w_3 := by rw [hw_3]; exact (Below.refl _ _).drew
          clear hw_3
          replace HI := hide (HI.out.below hc_3)
          replace HL := hide (HL.out.under hc_3 hB3)
          replace HW0 := hide (HW0.out.below hc_3)
          clear hc_3
          refine wpAnyH_take (i := 0) (oi := ⟨some 42, _, _, _, _, _⟩) (v := ?_) rfl (by kernel_rfl) (by kernel_rfl) (by kernel_rfl) (fun _ _ _ h => h) (Or.inl ⟨by rfl, ?_⟩) (by assumption) ?_
          rotate_left
          · (intro w' hSw; (try dsimp only at hSw); go_simp <;> (with_reducible rfl))
          try simp only [Act.put, List.setIfInBounds_toArray, List.set_cons_zero, List.set_cons_succ]
          refine wpAnyH_take (i := 1) (oi := ⟨some 43, _, _, _, _, _⟩) (v := ?_) rfl (by kernel_rfl) (by kernel_rfl) (by kernel_rfl) (fun _ _ _ h => h) (Or.inl ⟨by rfl, ?_⟩) (by assumption) ?_
          rotate_left
          · (intro w' hSw; (try dsimp only at hSw); go_simp <;> (with_reducible rfl))
          try simp only [Act.put, List.setIfInBounds_toArray, List.set_cons_zero, List.set_cons_succ]
          refine wpAnyH_take (i := 2) (oi := ⟨some 44, _, _, _, _, _⟩) (v := ?_) rfl (by kernel_rfl) (by kernel_rfl) (by kernel_rfl) (fun _ _ _ h => h) (Or.inl ⟨by rfl, ?_⟩) (by assumption) ?_
          rotate_left
          · (intro w' hSw; (try dsimp only at hSw); go_simp <;> (with_reducible rfl))
          try simp only [Act.put, List.setIfInBounds_toArray, List.set_cons_zero, List.set_cons_succ]
          refine wpAnyH_take (i := 3) (oi := ⟨some 45, _, _, _, _, _⟩) (v := ?_) rfl (by kernel_rfl) (by kernel_rfl) (by kernel_rfl) (fun _ _ _ h => h) (Or.inl ⟨by rfl, ?_⟩) (by assumption) ?_
          rotate_left
          · (intro w' hSw; (try dsimp only at hSw); go_simp <;> (with_reducible rfl))
          try simp only [Act.put, List.setIfInBounds_toArray, List.set_cons_zero, List.set_cons_succ]
          refine wpAnyH_take (i := 4) (oi := ⟨some 46, _, _, _, _, _⟩) (v := ?_) rfl (by kernel_rfl) (by kernel_rfl) (by kernel_rfl) (fun _ _ _ h => h) (Or.inl ⟨by rfl, ?_⟩) (by assumption) ?_
          rotate_left
          · (intro w' hSw; (try dsimp only at hSw); go_simp <;> (with_reducible rfl))
          try simp only [Act.put, List.setIfInBounds_toArray, List.set_cons_zero, List.set_cons_succ]
          refine wpAnyH_take (i := 5) (oi := ⟨some 47, _, _, _, _, _⟩) (v := ?_) rfl (by kernel_rfl) (by kernel_rfl) (by kernel_rfl) (fun _ _ _ h => h) (Or.inl ⟨by rfl, ?_⟩) (by assumption) ?_
          rotate_left
          · (intro w' hSw; (try dsimp only at hSw); go_simp <;> (with_reducible rfl))
          try simp only [Act.put, List.setIfInBounds_toArray, List.set_cons_zero, List.set_cons_succ]
          refine wpAnyH_take (i := 6) (oi := ⟨some 48, _, _, _, _, _⟩) (v := ?_) rfl (by kernel_rfl) (by kernel_rfl) (by kernel_rfl) (fun _ _ _ h => h) (Or.inl ⟨by rfl, ?_⟩) (by assumption) ?_
          rotate_left
          · (intro w' hSw; (try dsimp only at hSw); go_simp <;> (with_reducible rfl))
          try simp only [Act.put, List.setIfInBounds_toArray, List.set_cons_zero, List.set_cons_succ]
          refine wpAnyH_take (i := 7) (oi := ⟨some 49, _, _, _, _, _⟩) (v := ?_) rfl (by kernel_rfl) (by kernel_rfl) (by kernel_rfl) (fun _ _ _ h => h) (Or.inl ⟨by rfl, ?_⟩) (by assumption) ?_
          rotate_left
          · (intro w' hSw; (try dsimp only at hSw); go_simp <;> (with_reducible rfl))
          try simp only [Act.put, List.setIfInBounds_toArray, List.set_cons_zero, List.set_cons_succ]
          refine wpAnyH_take (i := 9) (oi := ⟨some 51, _, _, _, _, _⟩) (v := ?_) rfl (by kernel_rfl) (by kernel_rfl) (by kernel_rfl) (fun _ _ _ h => h) (Or.inl ⟨by rfl, ?_⟩) (by assumption) ?_
          rotate_left
          · (intro w' hSw; (try dsimp only at hSw); go_simp <;> (with_reducible rfl))
          try simp only [Act.put, List.setIfInBounds_toArray, List.set_cons_zero, List.set_cons_succ]
          refine wpAnyH_take (i := 11) (oi := ⟨some 53, _, _, _, _, _⟩) (v := ?_) rfl (by kernel_rfl) (by kernel_rfl) (by kernel_rfl) (fun _ _ _ h => h) (Or.inl ⟨by rfl, ?_⟩) (by assumption) ?_
          rotate_left
          · (intro w' hSw; (try dsimp only at hSw); go_simp <;> (with_reducible rfl))
          try simp only [Act.put, List.setIfInBounds_toArray, List.set_cons_zero, List.set_cons_succ]
          refine wpAnyH_ready (rs := [8]) (by kernel_rfl) (by simp) ?_
          refine AllReadyH.cons (o := ⟨some 50, _, _, _, _, _⟩) rfl (fun K' hK => ?_) AllReadyH.nil
          obtain ⟨y0, f0, hly⟩ := HYC.out _ HL.out
          go_simp
          clear y0 f0 hly
          refine hK.out _ _ (HL.out.box.at_ 0) (fun hHeld => ?_)
          clear hK K'
          try simp only [Act.put, List.setIfInBounds_toArray, List.set_cons_zero, List.set_cons_succ]
          refine wpAnyH_take (i := 10) (oi := ⟨some 52, _, _, _, _, _⟩) (v := ?_) rfl (by kernel_rfl) (by kernel_rfl) (by kernel_rfl) (fun _ _ _ h => h) (Or.inl ⟨by rfl, ?_⟩) (by assumption) ?_
          rotate_left
          · (intro w' hSw; (try dsimp only at hSw); go_simp <;> (with_reducible rfl))
          try simp only [Act.put, List.setIfInBounds_toArray, List.set_cons_zero, List.set_cons_succ]
          refine wpAnyH_take (i := 12) (oi := ⟨some 54, _, _, _, _, _⟩) (v := ?_) rfl (by kernel_rfl) (by kernel_rfl) (by kernel_rfl) (fun _ _ _ h => h) (Or.inl ⟨by rfl, ?_⟩) (by assumption) ?_
          rotate_left
          · (intro w' hSw; (try dsimp only at hSw); go_simp <;> (with_reducible rfl))
          try simp only [Act.put, List.setIfInBounds_toArray, List.set_cons_zero, List.set_cons_succ]
          refine wpAnyH_ready (rs := [13]) (by kernel_rfl) (by simp) ?_
          refine AllReadyH.cons (o := ⟨none, _, _, _, _, _⟩) rfl (fun K' hK => ?_) AllReadyH.nil
          obtain ⟨y0, f0, hly⟩ := HYC.out _ HL.out
          go_simp
          clear y0 f0 hly
          have HL2 := hide (HNX.out _ HL.out)
          replace HI := hide (HI.out.other (p := ⟨g5, q * 2, none⟩) h56 (.int .i64 m))
          replace HW0 := hide (HW0.out.set_ (q * 2) (.int .i64 m))
          obtain ⟨w_4, hw_4⟩ : ∃ z : World, w_3.setCell ⟨g5, q * 2, none⟩ (.int .i64 m) = z := ⟨_, rfl⟩
          rw [hw_4] at HL2 HI HW0 ⊢
          clear hw_4 HL
          have HL := HL2
          clear HL2
          refine hK.out _ _ (HL.out.box.at_ 0) (fun hHeld => ?_)
          clear hK K'
          try simp only [Act.put, List.setIfInBounds_toArray, List.set_cons_zero, List.set_cons_succ]
          refine wpAnyH_done (by kernel_rfl) ?_ _
          clear hHeld HNX HYC HLW HDL
          gi_wp2_with fail
          go_roundw
          case rel => exact ⟨q + 1, by omega, by go_num, HL, HI, HW0⟩
          case measure => simp [Go.RowKit.intOf]; omega
        · skip
          have hyl := HLW.out q 1
          obtain ⟨y, hy⟩ : ∃ z, Y0 q 1 = z := ⟨_, rfl⟩
          rw [hy] at hyl
          have HYC := hide (fun W1 (h : LInv w W1 b3 g5 b7 b3 b4 p g c F) => (⟨((h.row.at_ (q * 2 + 1)).trans (pairC_at (b := 1) F hlt (by decide))).trans (by rw [HF0.out, hy]), h.row.free (q * 2 + 1), h.row.lt⟩ : W1.cell? ⟨g5, q * 2 + 1, none⟩ = some (.int .i64 y) ∧ W1.frozen? ⟨g5, q * 2 + 1, none⟩ = false ∧ g5 < W1.heap.size))
          obtain ⟨m, hm⟩ : ∃ z : Int, (if u < y then u else y) = z := ⟨_, rfl⟩
          have hnew : Y1 q 1 = m := by rw [HDL.out, HBB.out, hy, ← hm, minLt]; exact if_pos rfl
          have hold : Y1 q 0 = Y0 q 0 := by rw [HDL.out, HBB.out]; exact if_neg (by decide)
          have HNX := hide (fun W1 (h : LInv w W1 b3 g5 b7 b3 b4 p g c F) => h.put q 1 m (fun a d => if a < q + 1 then Y1 a d else Y0 a d) hlt (by decide) (fun a d _ hd => by
            rw [HF1.out]
            by_cases e : a = q
            · subst e
              rw [if_pos (Nat.lt_succ_self _), if_neg (Nat.lt_irrefl _)]
              obtain rfl | rfl : d = 0 ∨ d = 1 := by omega
              · simp [hold]
              · simp [hnew]
            · rw [if_neg (fun h : a = q ∧ d = 1 => e h.1)]
              by_cases h : a < q
              · rw [if_pos (show a < q + 1 by omega), if_pos h]
              · rw [if_neg (show ¬ a < q + 1 by omega), if_neg h]) h57 (by omega) (by omega) (by omega))
          skip
          clear hnew hold hy
          gi_wp2_with fail
          refine wpIn_region_held_drew (S := fun w' => w'.cell? ⟨b7, 0, none⟩ = some (.slice (some ⟨g5, 0, none⟩) c c)) (by kernel_rfl) (by kernel_rfl) (fun ⟨_, _, h⟩ => h) (HL.out.box.at_ 0) (fun hHeld => ?_)
          obtain ⟨w_5, hw_5⟩ : ∃ q : World, q = wB.drew := ⟨_, rfl⟩
          rw [← hw_5] at hHeld ⊢
          have hc_5 : Below wB.heap.size wB w_5 := by rw [hw_5]; exact (Below.refl _ _).drew
          clear hw_5
          replace HI := hide (HI.out.below hc_5)
          replace HL := hide (HL.out.under hc_5 hB3)
          replace HW0 := hide (HW0.out.below hc_5)
          clear hc_5
          refine wpAnyH_take (i := 0) (oi := ⟨some 42, _, _, _, _, _⟩) (v := ?_) rfl (by kernel_rfl) (by kernel_rfl) (by kernel_rfl) (fun _ _ _ h => h) (Or.inl ⟨by rfl, ?_⟩) (by assumption) ?_
          rotate_left
          · (intro w' hSw; (try dsimp only at hSw); go_simp <;> (with_reducible rfl))
          try simp only [Act.put, List.setIfInBounds_toArray, List.set_cons_zero, List.set_cons_succ]
          refine wpAnyH_take (i := 1) (oi := ⟨some 43, _, _, _, _, _⟩) (v := ?_) rfl (by kernel_rfl) (by kernel_rfl) (by kernel_rfl) (fun _ _ _ h => h) (Or.inl ⟨by rfl, ?_⟩) (by assumption) ?_
          rotate_left
          · (intro w' hSw; (try dsimp only at hSw); go_simp <;> (with_reducible rfl))
          try simp only [Act.put, List.setIfInBounds_toArray, List.set_cons_zero, List.set_cons_succ]
          refine wpAnyH_take (i := 2) (oi := ⟨some 44, _, _, _, _, _⟩) (v := ?_) rfl (by kernel_rfl) (by kernel_rfl) (by kernel_rfl) (fun _ _ _ h => h) (Or.inl ⟨by rfl, ?_⟩) (by assumption) ?_
          rotate_left
          · (intro w' hSw; (try dsimp only at hSw); go_simp <;> (with_reducible rfl))
          try simp only [Act.put, List.setIfInBounds_toArray, List.set_cons_zero, List.set_cons_succ]
          refine wpAnyH_take (i := 3) (oi := ⟨some 45, _, _, _, _, _⟩) (v := ?_) rfl (by kernel_rfl) (by kernel_rfl) (by kernel_rfl) (fun _ _ _ h => h) (Or.inl ⟨by rfl, ?_⟩) (by assumption) ?_
          rotate_left
          · (intro w' hSw; (try dsimp only at hSw); go_simp <;> (with_reducible rfl))
          try simp only [Act.put, List.setIfInBounds_toArray, List.set_cons_zero, List.set_cons_succ]
          refine wpAnyH_take (i := 4) (oi := ⟨some 46, _, _, _, _, _⟩) (v := ?_) rfl (by kernel_rfl) (by kernel_rfl) (by kernel_rfl) (fun _ _ _ h => h) (Or.inl ⟨by rfl, ?_⟩) (by assumption) ?_
          rotate_left
          · (intro w' hSw; (try dsimp only at hSw); go_simp <;> (with_reducible rfl))
          try simp only [Act.put, List.setIfInBounds_toArray, List.set_cons_zero, List.set_cons_succ]
          refine wpAnyH_take (i := 5) (oi := ⟨some 47, _, _, _, _, _⟩) (v := ?_) rfl (by kernel_rfl) (by kernel_rfl) (by kernel_rfl) (fun _ _ _ h => h) (Or.inl ⟨by rfl, ?_⟩) (by assumption) ?_
          rotate_left
          · (intro w' hSw; (try dsimp only at hSw); go_simp <;> (with_reducible rfl))
          try simp only [Act.put, List.setIfInBounds_toArray, List.set_cons_zero, List.set_cons_succ]
          refine wpAnyH_take (i := 6) (oi := ⟨some 48, _, _, _, _, _⟩) (v := ?_) rfl (by kernel_rfl) (by kernel_rfl) (by kernel_rfl) (fun _ _ _ h => h) (Or.inl ⟨by rfl, ?_⟩) (by assumption) ?_
          rotate_left
          · (intro w' hSw; (try dsimp only at hSw); go_simp <;> (with_reducible rfl))
          try simp only [Act.put, List.setIfInBounds_toArray, List.set_cons_zero, List.set_cons_succ]
          refine wpAnyH_take (i := 7) (oi := ⟨some 49, _, _, _, _, _⟩) (v := ?_) rfl (by kernel_rfl) (by kernel_rfl) (by kernel_rfl) (fun _ _ _ h => h) (Or.inl ⟨by rfl, ?_⟩) (by assumption) ?_
          rotate_left
          · (intro w' hSw; (try dsimp only at hSw); go_simp <;> (with_reducible rfl))
          try simp only [Act.put, List.setIfInBounds_toArray, List.set_cons_zero, List.set_cons_succ]
          refine wpAnyH_take (i := 9) (oi := ⟨some 51, _, _, _, _, _⟩) (v := ?_) rfl (by kernel_rfl) (by kernel_rfl) (by kernel_rfl) (fun _ _ _ h => h) (Or.inl ⟨by rfl, ?_⟩) (by assumption) ?_
          rotate_left
          · (intro w' hSw; (try dsimp only at hSw); go_simp <;> (with_reducible rfl))
          try simp only [Act.put, List.setIfInBounds_toArray, List.set_cons_zero, List.set_cons_succ]
          refine wpAnyH_take (i := 11) (oi := ⟨some 53, _, _, _, _, _⟩) (v := ?_) rfl (by kernel_rfl) (by kernel_rfl) (by kernel_rfl) (fun _ _ _ h => h) (Or.inl ⟨by rfl, ?_⟩) (by assumption) ?_
          rotate_left
          · (intro w' hSw; (try dsimp only at hSw); go_simp <;> (with_reducible rfl))
          try simp only [Act.put, List.setIfInBounds_toArray, List.set_cons_zero, List.set_cons_succ]
          refine wpAnyH_ready (rs := [8]) (by kernel_rfl) (by simp) ?_
          refine AllReadyH.cons (o := ⟨some 50, _, _, _, _, _⟩) rfl (fun K' hK => ?_) AllReadyH.nil
          obtain ⟨y0, f0, hly⟩ := HYC.out _ HL.out
          go_simp
          clear y0 f0 hly
          refine hK.out _ _ (HL.out.box.at_ 0) (fun hHeld => ?_)
          clear hK K'
          try simp only [Act.put, List.setIfInBounds_toArray, List.set_cons_zero, List.set_cons_succ]
          refine wpAnyH_take (i := 10) (oi := ⟨some 52, _, _, _, _, _⟩) (v := ?_) rfl (by kernel_rfl) (by kernel_rfl) (by kernel_rfl) (fun _ _ _ h => h) (Or.inl ⟨by rfl, ?_⟩) (by assumption) ?_
          rotate_left
          · (intro w' hSw; (try dsimp only at hSw); go_simp <;> (with_reducible rfl))
          try simp only [Act.put, List.setIfInBounds_toArray, List.set_cons_zero, List.set_cons_succ]
          refine wpAnyH_take (i := 12) (oi := ⟨some 54, _, _, _, _, _⟩) (v := ?_) rfl (by kernel_rfl) (by kernel_rfl) (by kernel_rfl) (fun _ _ _ h => h) (Or.inl ⟨by rfl, ?_⟩) (by assumption) ?_
          rotate_left
          · (intro w' hSw; (try dsimp only at hSw); go_simp <;> (with_reducible rfl))
          try simp only [Act.put, List.setIfInBounds_toArray, List.set_cons_zero, List.set_cons_succ]
          refine wpAnyH_ready (rs := [13]) (by kernel_rfl) (by simp) ?_
          refine AllReadyH.cons (o := ⟨none, _, _, _, _, _⟩) rfl (fun K' hK => ?_) AllReadyH.nil
          obtain ⟨y0, f0, hly⟩ := HYC.out _ HL.out
          go_simp
          clear y0 f0 hly
          have HL2 := hide (HNX.out _ HL.out)
          replace HI := hide (HI.out.other (p := ⟨g5, q * 2 + 1, none⟩) h56 (.int .i64 m))
          replace HW0 := hide (HW0.out.set_ (q * 2 + 1) (.int .i64 m))
          obtain ⟨w_6, hw_6⟩ : ∃ z : World, w_5.setCell ⟨g5, q * 2 + 1, none⟩ (.int .i64 m) = z := ⟨_, rfl⟩
          rw [hw_6] at HL2 HI HW0 ⊢
          clear hw_6 HL
          have HL := HL2
          clear HL2
          refine hK.out _ _ (HL.out.box.at_ 0) (fun hHeld => ?_)
          clear hK K'
          try simp only [Act.put, List.setIfInBounds_toArray, List.set_cons_zero, List.set_cons_succ]
          refine wpAnyH_done (by kernel_rfl) ?_ _
          clear hHeld HNX HYC HLW HDL
          gi_wp2_with fail
          go_roundw
          case rel => exact ⟨q + 1, by omega, by go_num, HL, HI, HW0⟩
          case measure => simp [Go.RowKit.intOf]; omega
    case hdone =>
      clear HL
      intro D0 xs W hD hxs HLW hK
      have HL := hide HLW
      have x7 : W.cell? ⟨b7, 0, none⟩ = some (.slice (some ⟨g5, 0, none⟩) c c) := HL.out.box.at_ 0
      have hK' := hide hK
      have HXS := hide hxs
      clear hxs hK HLW
      have hl7 := HL.out.box.lt
      go_wp2_with fail
      refine ⟨by simp, .inl ⟨_, _, rfl, run_takeDeferred hK'.out, ?_⟩⟩
      refine ⟨_, results_tmp rfl _ _ _, _, rfl, ?_⟩
      have hM3 : LInv w (W.putObj D0 (.deferred none)) b3 g5 b7 b3 b4 p g c (leastTo D c xs.length) := HL.out.roundly (grownBy_putObj' W D0 _) hB3 (fun r e => by cases e; exact ⟨by have := bn.lt; omega, _, hK'.out, rfl⟩)
      rw [HXS.out, HE.out] at hM3
      first | exact ⟨by omega, hM3.row, by rw [hb3]; exact hM3.below⟩ | exact ⟨g5, rfl, by omega, hM3.row, by rw [hb3]; exact hM3.below⟩
    case hstop => exact fun D xs W _ _ h _ => h.elim
end Go.Proofs.YtcdplfjegopmdaaGreat
