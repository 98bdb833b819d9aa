/- Lemmas: S83, S84, S85, S86. -/
import Derived.Laws.MakeOwn
import Derived.Test.YtceohaeebdhmjaaBk11
import Derived.Test.YtceohaeebdhmjaaBk19
import Derived.Test.YtceohaeebdhmjaaBk21
import Derived.Test.YtceohaeebdhmjaaBk22
import Derived.Test.YtceohaeebdhmjaaBk25
set_option linter.unusedVariables false
set_option linter.unusedSimpArgs false
/- Layers: rows that grow in turn, and their numbers. -/
namespace Go.Proofs.Ytceohaeebdhmjaa
open Go Go.RowKit Go.Lib
set_option maxRecDepth 100000 in
theorem step_append_oneB {ops : Array Oper} {o : Oper} {a : Act} {K : Act → World → Prop} {Q : Exit → Act → World → Prop} {E : Prop} (w : World) (hgd : o.guard = none) (s x : Operand)
    (ho : o.op = .call { callee := .builtin .append, args := #[s, x], argTypes := #[22, 22] })
    (base : Nat) (v : Value) (n : Nat) (F : Nat → Gau) (hs : a.eval s = v) (hown : OwnGaus w base v n F)
    (g c : Nat) (y : Gau) (hx : a.eval x = .slice (some ⟨g, 0, none⟩) 1 c) (hr : Box w g 43 #[.int .i64 y.re, .int .i64 y.im]) (hn : n ≤ 1000000) (hbase : base ≤ w.heap.size)
    (h : ∀ v' w', OwnGaus w' base v' (n + 1) (fun j => if j < n then F j else y) → Below base w w' → w.grownBy w' v.ownBlock → (v'.ownBlock = v.ownBlock ∨ v'.ownBlock = some w.heap.size) → K (a.put o.dst v') w') :
    if Region.wanted o (yielded ops a.tmps) = true then Oper.wp Try.prog o a w K Q else E := by
  have hw : Region.wanted o (yielded ops a.tmps) = true := by simp [Region.wanted, hgd]
  rw [if_pos hw]
  obtain ⟨i0, hi, hz0, hz1, hz2⟩ := info_parts gauInfo
  obtain ⟨v', w', hrun, hown', hg, -, hblk⟩ := run_append_own_at (P := Try.prog) w base 22 o.type 43 i0 (.agg #[.int .i64 0, .int .i64 0]) 2 16 Try.underlying22 hi hz0 hz1 hz2 rfl (by decide) v n _ hown ⟨g, 0, none⟩ 1 c (gauVals 1 fun _ => y) (by rw [gauVals_len])
      (fun j u hu => by
        rw [gauVals_get] at hu
        split at hu
        · rename_i hj
          injection hu with hu
          subst hu
          rw [Addr.add_lit, Nat.zero_add]
          obtain rfl | rfl : j = 0 ∨ j = 1 := by omega
          · exact hr.at_ 0
          · exact hr.at_ 1
        · cases hu)
      (fun u hu => by
        obtain ⟨j, -, rfl⟩ := List.mem_map.1 hu
        rfl) (by unfold maxLen; omega) (by omega) hbase
  rw [gauVals_cat] at hown'
  unfold Oper.wp execOp
  simp only [ho, resolve, invoke, builtin, Sem.run_bind, Sem.run_pure, Result.andThen_ok, List.map_toArray, List.map_cons, List.map_nil, hs, hx, hrun]
  exact h v' w' hown' ((Below.refl _ _).grown hg hbase (fun k hk => (World.ownsRow.lt hown k hk).1)) hg hblk
section
variable {w w1 : World} {base g n c i m : Nat} {V : Nat → Value} {L : Nat → Nat} {F : Nat → Nat → Gau} {r : Value} {G : Nat → Gau}
theorem OwnPlane.midway (h : OwnPlane w base (.slice (some ⟨g, 0, none⟩) n c) n V L F) (hi : i < n) (hg : w.grownBy w1 (V i).ownBlock) : w1.ownsRow base 22 1 (.slice (some ⟨g, 0, none⟩) n c) n ((List.range n).map V) := by
  refine World.ownsRow.kept h.1 hg (.inr ?_)
  rcases (h.2.1 i hi).2 with z | z
  · rw [z]; simp [Value.ownBlock]
  · exact fun y => z y.symm
theorem OwnPlane.midcell (h : OwnPlane w base (.slice (some ⟨g, 0, none⟩) n c) n V L F) (hi : i < n) (hg : w.grownBy w1 (V i).ownBlock) : w1.cell? ⟨g, i, none⟩ = some (V i) ∧ w1.frozen? ⟨g, i, none⟩ = false ∧ g < w1.heap.size := by
  have h1 := h.midway hi hg
  refine ⟨?_, World.ownsRow.frozenAt h1 i, (World.ownsRow.lt h1 g rfl).2⟩
  rw [World.ownsRow.cellAt h1 i (by omega)]
  simp [hi]
theorem OwnPlane.appended (h : OwnPlane w base (.slice (some ⟨g, 0, none⟩) n c) n V L F) (hi : i < n) (ho : OwnGaus w1 base r m G) (hg : w.grownBy w1 (V i).ownBlock) (hblk : r.ownBlock = (V i).ownBlock ∨ r.ownBlock = some w.heap.size) :
    OwnPlane (w1.setCell ⟨g, i, none⟩ r) base (.slice (some ⟨g, 0, none⟩) n c) n (fun j => if j = i then r else V j) (fun j => if j = i then m else L j) (fun j => if j = i then G else F j) := by
  have hgl := (h.lt (k := g) rfl).2
  have hgb : w1.grownBy (w1.setCell ⟨g, i, none⟩ r) (some g) := ⟨rfl, rfl, rfl, by simp, fun j _ hj => heap_setCell_other w1 ⟨g, i, none⟩ j r (fun e => hj (by simp [e]))⟩
  have hl : ((List.range n).map V).set i r = (List.range n).map (fun j => if j = i then r else V j) := by
    apply List.ext_getElem?
    intro j
    rw [List.getElem?_set]
    by_cases e : i = j
    · subst e; simp [hi]
    · rw [if_neg e]
      by_cases hj : j < n
      · simp [hj, show ¬ j = i from fun z => e z.symm]
      · simp [hj]
  have hrb : r.ownBlock = none ∨ r.ownBlock ≠ some g := by
    rcases hblk with y | y
    · rw [y]; exact (h.2.1 i hi).2
    · rw [y]; exact .inr (by intro z; injection z with z; omega)
  refine ⟨?_, fun j hj => ?_, fun j k hj hk hne => ?_⟩
  · have h1 := (World.ownsRow.stored (h.midway hi hg) i r).1
    rwa [hl] at h1
  · by_cases e : j = i
    · simp only [if_pos e]
      exact ⟨ho.kept_ hgb hrb, hrb⟩
    · simp only [if_neg e]
      exact ⟨((h.2.1 j hj).1.kept_ hg (h.2.2 j i hj hi e)).kept_ hgb (h.2.1 j hj).2, (h.2.1 j hj).2⟩
  · by_cases e : j = i
    · subst e
      have e2 : ¬ k = j := fun z => hne z.symm
      simp only [if_true, if_neg e2]
      rcases hblk with y | y
      · rw [y]; exact h.2.2 j k hj hk hne
      · rw [y]
        refine .inr fun z => ?_
        have := ((h.2.1 k hk).1.blockLt z.symm).2
        omega
    · simp only [if_neg e]
      by_cases e2 : k = i
      · simp only [if_pos e2]
        rcases hblk with y | y
        · rw [y]; exact h.2.2 j i hj hi e
        · rw [y]
          rcases hz : (V j).ownBlock with _ | b
          · exact .inl rfl
          · refine .inr fun z => ?_
            injection z with z
            have := ((h.2.1 j hj).1.blockLt hz).2
            omega
      · simp only [if_neg e2]
        exact h.2.2 j k hj hk hne
end
theorem OwnPlane.made (w : World) (base c : Nat) (F : Nat → Nat → Gau) (hb : base ≤ w.heap.size) (hc : c ≤ 1000) : OwnPlane (w.alloc (.cells (madeCells #[.slice none 0 0] c) 22)) base (.slice (some ⟨w.heap.size, 0, none⟩) c c) c (fun _ => .slice none 0 0) (fun _ => 0) F := by
  refine ⟨⟨by simp, .inr ⟨w.heap.size, c, _, rfl, hb, heap_alloc_new w _, Nat.le_refl _, by unfold maxLen; omega, by simp [madeCells], ?_⟩⟩, fun i _ => ⟨OwnGaus.nil_ _ _ _, .inl rfl⟩, fun i j _ _ _ => .inl rfl⟩
  apply List.ext_getElem?
  intro j
  have hm := madeMat_get c j
  by_cases hj : j < c
  · rw [if_pos hj] at hm
    simp [hj, hm]
  · simp [hj, madeCells]
/-- How many of the first j numbers lie in row i of c. -/
def cntL (c j i : Nat) : Nat := (j + (c - 1 - i)) / c
theorem cntL_zero {c i : Nat} (hi : i < c) : cntL c 0 i = 0 := by
  unfold cntL
  exact Nat.div_eq_of_lt (by omega)
theorem cntL_at {c j : Nat} (hc : 1 ≤ c) (h4 : c ≤ 4) : cntL c j (j % c) = j / c := by
  unfold cntL
  obtain rfl | rfl | rfl | rfl : c = 1 ∨ c = 2 ∨ c = 3 ∨ c = 4 := by omega
  all_goals omega
theorem cntL_next {c j i : Nat} (hc : 1 ≤ c) (h4 : c ≤ 4) (hi : i < c) : cntL c (j + 1) i = if i = j % c then cntL c j i + 1 else cntL c j i := by
  unfold cntL
  obtain rfl | rfl | rfl | rfl : c = 1 ∨ c = 2 ∨ c = 3 ∨ c = 4 := by omega
  all_goals (split <;> omega)
theorem cntL_end {c q i : Nat} (hc : 1 ≤ c) (h4 : c ≤ 4) (hi : i < c) : cntL c (c * q) i = q := by
  unfold cntL
  obtain rfl | rfl | rfl | rfl : c = 1 ∨ c = 2 ∨ c = 3 ∨ c = 4 := by omega
  all_goals omega
theorem at_row (j c : Nat) : j / c * c + j % c = j := by rw [Nat.mul_comm]; exact Nat.div_add_mod j c
/-- The error of symbols that are to be layered. -/
def lyrE (c : Int) (n : Nat) (F : Nat → Gau) : Int := if withinB c 1 4 = true then if n = 0 ∨ ¬ (n : Int) % c = 0 then 10 else if 200 < (n : Int) / c then 8 else unI (insideB 100000000 n F) 2 else 2
end Go.Proofs.Ytceohaeebdhmjaa
/- Layered of the code and of the reference. -/
namespace Go.Proofs.Ytceohaeebdhmjaa
open Go Go.RowKit Go.Lib
theorem lyrE_zero {k : Int} {n : Nat} {F : Nat → Gau} (h : lyrE k n F = 0) : ∃ d q : Nat, k = (d : Int) ∧ 1 ≤ d ∧ d ≤ 4 ∧ 1 ≤ q ∧ q ≤ 200 ∧ n = d * q ∧ insideB 100000000 n F = true := by
  unfold lyrE at h
  by_cases h0 : withinB k 1 4 = true
  · rw [if_pos h0] at h
    have h1 := withinB_iff.1 h0
    obtain ⟨d, rfl⟩ : ∃ d : Nat, k = (d : Int) := ⟨k.toNat, by omega⟩
    by_cases h2 : n = 0 ∨ ¬ (n : Int) % (d : Int) = 0
    · rw [if_pos h2] at h; exact absurd h (by decide)
    rw [if_neg h2] at h
    by_cases h3 : 200 < (n : Int) / (d : Int)
    · rw [if_pos h3] at h; exact absurd h (by decide)
    rw [if_neg h3] at h
    have h4 : n % d = 0 := by omega
    have h5 := Nat.div_add_mod n d
    rw [h4, Nat.add_zero] at h5
    refine ⟨d, n / d, rfl, by omega, by omega, ?_, by omega, h5.symm, ?_⟩
    · rcases Nat.eq_zero_or_pos (n / d) with z | z
      · rw [z, Nat.mul_zero] at h5; omega
      · exact z
    · unfold unI at h
      by_cases hb : insideB 100000000 n F = true
      · exact hb
      · rw [if_neg hb] at h; exact absurd h (by decide)
  · rw [if_neg h0] at h; exact absurd h (by decide)
theorem cnt_row {c j i r : Nat} (h : cntL c (j + 1) r = if r = i then cntL c j r + 1 else cntL c j r) : (if r = i then cntL c j i + 1 else cntL c j r) = cntL c (j + 1) r := by
  rw [h]
  by_cases e : r = i
  · subst e; simp
  · simp [e]
theorem row_F {F : Nat → Gau} {d : Nat} (r i t : Nat) : (if r = i then (fun t => F (t * d + i)) else (fun t => F (t * d + r))) t = F (t * d + r) := by
  by_cases e : r = i
  · subst e; simp
  · simp [e]
theorem OwnPlane.weakP {w : World} {base base' n : Nat} {v : Value} {V : Nat → Value} {L : Nat → Nat} {F : Nat → Nat → Gau} (h : OwnPlane w base v n V L F) (hb : base' ≤ base) : OwnPlane w base' v n V L F :=
  ⟨⟨h.1.1, h.1.2.elim Or.inl (fun ⟨g, cap, cur, hv, hg, r⟩ => Or.inr ⟨g, cap, cur, hv, Nat.le_trans hb hg, r⟩)⟩, fun i hi => ⟨(h.2.1 i hi).1.weak hb, (h.2.1 i hi).2⟩, h.2.2⟩
theorem lyrE_right {d q n : Nat} {F : Nat → Gau} (h1 : 1 ≤ d) (h4 : d ≤ 4) (q1 : 1 ≤ q) (q9 : q ≤ 200) (hn : n = d * q) : (n : Int) % (d : Int) = 0 ∧ (n : Int) / (d : Int) = (q : Int) ∧ 0 < n := by
  have e : (n : Int) = (d : Int) * (q : Int) := by rw [hn]; push_cast; rfl
  refine ⟨by rw [e]; exact Int.mul_emod_right _ _, by rw [e]; exact Int.mul_ediv_cancel_left _ (by omega), by rw [hn]; exact Nat.mul_pos (by omega) (by omega)⟩
set_option maxHeartbeats 8000000 in
set_option maxRecDepth 100000 in
theorem Layered_wrong (k : Int) (A : Option Addr) (n c : Nat) (F : Nat → Gau) (w : World) (hn : n ≤ 100000) (hI : GausAt w 0 A n F) (hE : lyrE k n F ≠ 0) :
    Calls Try.prog 17 #[.int .i64 k, .slice A n c] w fun e w' => e = .returned (.tuple #[.slice none 0 0, .int .i64 (lyrE k n F)]) ∧ Below w.heap.size w w' := by
  have HE := hide (show lyrE k n F = if withinB k 1 4 = true then if n = 0 ∨ ¬ (n : Int) % k = 0 then 10 else if 200 < (n : Int) / k then 8 else unI (insideB 100000000 n F) 2 else 2 from rfl)
  obtain ⟨E, hEE⟩ : ∃ z, lyrE k n F = z := ⟨_, rfl⟩
  rw [hEE] at HE hE
  rw [hEE]
  have HNE := hide hE
  have HI := hide hI
  have HWI := hide (fun W => isWithin_any k 1 4 W)
  clear hEE hE hI
  by_cases h0 : 1 ≤ k ∧ k ≤ 4
  case neg =>
    simp only [withinB_no h0] at HWI HE
    obtain rfl : E = 2 := HE.out.trans (if_neg (by decide))
    clear HE HI h0
    go_enter Try.func17, Try.ntmps17
    go_wp2_with fail
    refine (HWI.out _).mono ?_
    rintro e_ v_ ⟨rfl, rfl⟩
    go_wp2_with fail
    go_ret2
    first | exact ⟨rfl, Below.refl _ _⟩ | exact ⟨rfl, by (repeat (first | (with_reducible exact Below.refl _ _) | (with_reducible refine Go.below_drewN ?_ _) | (with_reducible refine Below.drew ?_) | (with_reducible refine Below.alloc ?_ (by first | exact Nat.le_refl _ | (simp; done) | (simp; omega) | omega) _) | (with_reducible refine Below.setCell ?_ (by first | exact Nat.le_refl _ | (simp; done) | (simp; omega) | omega) _)))⟩
  simp only [withinB_yes h0] at HWI HE
  replace HE := hide (HE.out.trans (if_pos trivial))
  obtain ⟨d, rfl⟩ : ∃ d : Nat, k = (d : Int) := ⟨k.toNat, by omega⟩
  have hd1 : 1 ≤ d := by omega
  have hd4 : d ≤ 4 := by omega
  have hd0 : ¬ (d : Int) = 0 := by omega
  have hd0n : ¬ d = 0 := by omega
  clear h0
  by_cases h1 : n = 0
  case pos =>
    obtain rfl : E = 10 := HE.out.trans (if_pos (.inl h1))
    have t0 : ((n : Int) == 0) = true := by simp; omega
    clear HE HI h1
    go_enter Try.func17, Try.ntmps17
    go_wp2_with fail
    refine (HWI.out _).mono ?_
    rintro e_ v_ ⟨rfl, rfl⟩
    go_wp2_with fail
    go_ret2
    first | exact ⟨rfl, Below.refl _ _⟩ | exact ⟨rfl, by (repeat (first | (with_reducible exact Below.refl _ _) | (with_reducible refine Go.below_drewN ?_ _) | (with_reducible refine Below.drew ?_) | (with_reducible refine Below.alloc ?_ (by first | exact Nat.le_refl _ | (simp; done) | (simp; omega) | omega) _) | (with_reducible refine Below.setCell ?_ (by first | exact Nat.le_refl _ | (simp; done) | (simp; omega) | omega) _)))⟩
  have t0 : ((n : Int) == 0) = false := by simp; omega
  by_cases h2 : (n : Int) % (d : Int) = 0
  case neg =>
    obtain rfl : E = 10 := HE.out.trans (if_pos (.inr h2))
    have HNM := hide h2
    have tm : ((n : Int) % (d : Int) != 0) = true := by simpa using HNM.out
    have tm2 : ((n : Int).tmod (d : Int) != 0) = true := by rw [Int.tmod_eq_emod_of_nonneg (by omega)]; exact tm
    have tm3 : ¬ n % d = 0 := fun e => HNM.out (by omega)
    clear HE HI h2 h1
    go_enter Try.func17, Try.ntmps17
    go_wp2_with fail
    refine (HWI.out _).mono ?_
    rintro e_ v_ ⟨rfl, rfl⟩
    go_wp2_with fail
    go_ret2
    first | exact ⟨rfl, Below.refl _ _⟩ | exact ⟨rfl, by (repeat (first | (with_reducible exact Below.refl _ _) | (with_reducible refine Go.below_drewN ?_ _) | (with_reducible refine Below.drew ?_) | (with_reducible refine Below.alloc ?_ (by first | exact Nat.le_refl _ | (simp; done) | (simp; omega) | omega) _) | (with_reducible refine Below.setCell ?_ (by first | exact Nat.le_refl _ | (simp; done) | (simp; omega) | omega) _)))⟩
  replace HE := hide (HE.out.trans (if_neg (by rintro (z | z); exact h1 z; exact z h2)))
  have HNM := hide h2
  have tm : ((n : Int) % (d : Int) != 0) = false := by simpa using HNM.out
  have tm2 : ((n : Int).tmod (d : Int) != 0) = false := by rw [Int.tmod_eq_emod_of_nonneg (by omega)]; exact tm
  have tm3 : n % d = 0 := by have := HNM.out; omega
  obtain ⟨z, hz⟩ : ∃ z : Nat, n / d = z := ⟨_, rfl⟩
  have hzz : (n : Int) / (d : Int) = (z : Int) := by rw [← hz]; push_cast; rfl
  have hzt : (n : Int).tdiv (d : Int) = (z : Int) := by rw [Int.tdiv_eq_ediv_of_nonneg (by omega)]; exact hzz
  rw [hzz] at HE
  have hwz : IntKind.i64.wrap (z : Int) = (z : Int) := IntWalk.i64_in _ (by have h9 := Nat.div_le_self n d; omega)
  clear h2 h1
  by_cases h3 : 200 < z
  case pos =>
    obtain rfl : E = 8 := HE.out.trans (if_pos (by omega))
    have t3 : (200 : Int) < (z : Int) := by omega
    clear HE HI h3
    go_enter Try.func17, Try.ntmps17
    go_wp2_with fail
    refine (HWI.out _).mono ?_
    rintro e_ v_ ⟨rfl, rfl⟩
    go_wp2_with fail
    go_ret2
    first | exact ⟨rfl, Below.refl _ _⟩ | exact ⟨rfl, by (repeat (first | (with_reducible exact Below.refl _ _) | (with_reducible refine Go.below_drewN ?_ _) | (with_reducible refine Below.drew ?_) | (with_reducible refine Below.alloc ?_ (by first | exact Nat.le_refl _ | (simp; done) | (simp; omega) | omega) _) | (with_reducible refine Below.setCell ?_ (by first | exact Nat.le_refl _ | (simp; done) | (simp; omega) | omega) _)))⟩
  replace HE := hide (HE.out.trans (if_neg (by omega)))
  have t3 : ¬ (200 : Int) < (z : Int) := by omega
  have hb : insideB 100000000 n F = false := by
    cases hb : insideB 100000000 n F
    · rfl
    · rw [hb] at HE; exact absurd HE.out HNE.out
  obtain rfl : E = 2 := by rw [HE.out, hb]; rfl
  clear HE h3
  have HAW := hide (areWithin_any A n c F 100000000 w (by decide) hn HI.out)
  rw [hb] at HAW
  clear HI hb
  go_enter Try.func17, Try.ntmps17
  go_wp2_with fail
  refine (HWI.out _).mono ?_
  rintro e_ v_ ⟨rfl, rfl⟩
  go_wp2_with fail
  refine HAW.out.mono ?_
  rintro e_ w1 ⟨rfl, hb1⟩
  go_wp2_with fail
  go_ret2
  exact ⟨rfl, hb1⟩
set_option maxHeartbeats 16000000 in
set_option maxRecDepth 100000 in
theorem Layered_right (d q : Nat) (A : Option Addr) (n c : Nat) (F : Nat → Gau) (w : World) (h1 : 1 ≤ d) (h4 : d ≤ 4) (q1 : 1 ≤ q) (q9 : q ≤ 200) (hnq : n = d * q) (hb : insideB 100000000 n F = true) (hI : GausAt w 0 A n F) :
    Calls Try.prog 17 #[.int .i64 (d : Int), .slice A n c] w fun e w' => ∃ v V, e = .returned (.tuple #[v, .int .i64 0]) ∧ OwnPlane w' w.heap.size v d V (fun _ => q) (fun i t => F (t * d + i)) ∧ Below w.heap.size w w' := by
  obtain ⟨e1, e2, hn0⟩ := lyrE_right (F := F) h1 h4 q1 q9 hnq
  have hn9 : n ≤ 800 := by rw [hnq]; exact Nat.mul_le_mul h4 q9
  have HNQ := hide hnq
  have HI := hide hI
  have HNM := hide e1
  have hd0 : ¬ (d : Int) = 0 := by omega
  have hd0n : ¬ d = 0 := by omega
  have t0 : ((n : Int) == 0) = false := by simp; omega
  have tm : ((n : Int) % (d : Int) != 0) = false := by simpa using HNM.out
  have tm2 : ((n : Int).tmod (d : Int) != 0) = false := by rw [Int.tmod_eq_emod_of_nonneg (by omega)]; exact tm
  have tm3 : n % d = 0 := by have := HNM.out; omega
  have hzt : (n : Int).tdiv (d : Int) = (q : Int) := by rw [Int.tdiv_eq_ediv_of_nonneg (by omega)]; exact e2
  have hz : n / d = q := by omega
  have t3 : ¬ (200 : Int) < (q : Int) := by omega
  have hwq : IntKind.i64.wrap (q : Int) = (q : Int) := IntWalk.i64_in _ (by omega)
  have HWI := hide (fun W => isWithin_any (d : Int) 1 4 W)
  simp only [withinB_yes (show 1 ≤ (d : Int) ∧ (d : Int) ≤ 4 by omega)] at HWI
  have hmk := madeMat d (by omega)
  clear e1 e2 hnq hI
  have HAW := hide (areWithin_any A n c F 100000000 w (by decide) (by omega) HI.out)
  rw [hb] at HAW
  clear hb
  go_enter Try.func17, Try.ntmps17
  go_wp2_with fail
  refine (HWI.out _).mono ?_
  rintro e_ v_ ⟨rfl, rfl⟩
  clear HWI
  go_wp2_with fail
  refine HAW.out.mono ?_
  rintro e_ w1 ⟨rfl, hb1⟩
  have HB := hide hb1
  clear hb1 HAW
  obtain ⟨gl, hgl⟩ : ∃ z, w1.heap.size = z := ⟨_, rfl⟩
  have hwg : w.heap.size ≤ gl := by rw [← hgl]; exact HB.out.size
  go_upto_region 10 with fail
  obtain ⟨w2, hw2⟩ : ∃ z : World, z = w1.alloc (.cells (madeCells #[.slice none 0 0] d) 22) := ⟨_, rfl⟩
  try simp only [hgl]
  try rw [← hw2]
  have HP := hide (show OwnPlane w2 gl (.slice (some ⟨gl, 0, none⟩) d d) d (fun _ => .slice none 0 0) (fun i => cntL d 0 i) (fun i t => F (t * d + i)) from by
    have h9 := OwnPlane.made w1 w1.heap.size d (fun i t => F (t * d + i)) (Nat.le_refl _) (by omega)
    rw [← hw2, hgl] at h9
    exact h9.congr fun i hi => ⟨rfl, (cntL_zero hi).symm, fun _ _ => rfl⟩)
  replace HB := hide (show Below w.heap.size w w2 by rw [hw2]; exact HB.out.alloc HB.out.size _)
  clear hw2 hmk
  go_wp2_with fail
  go_loopw [7, 8, 38] (fun _ _ z wr => ∃ (j : Nat) (V : Nat → Value), j ≤ n ∧ z = .int .i64 (j : Int) ∧ Hid (OwnPlane wr gl (.slice (some ⟨gl, 0, none⟩) d d) d V (fun i => cntL d j i) (fun i t => F (t * d + i))) ∧ Hid (Below w.heap.size w wr)) (fun _ _ z _ => n - (Go.RowKit.intOf z).toNat)
  case atStart => exact ⟨0, _, Nat.zero_le _, rfl, HP, HB⟩
  case round =>
    clear HP HB
    obtain ⟨j, V, hj, rfl, HP, HB⟩ := hrel
    obtain ⟨wA, rfl⟩ : ∃ x : World, x = wr := ⟨_, rfl⟩
    by_cases hlt : j < n
    case neg =>
      obtain rfl : n = j := by omega
      have hltz : ¬ (n : Int) < (n : Int) := by omega
      have HP2 := hide ((HP.out.congr (V' := V) (L' := fun _ => q) (F' := fun i t => F (t * d + i)) (fun i hi => ⟨rfl, (by rw [HNQ.out]; exact cntL_end h1 h4 hi), fun _ _ => rfl⟩)).weakP hwg)
      clear HP HI
      go_wp2_with fail
      go_ret2
      first | exact ⟨_, rfl, ⟨V, HP2.out⟩, HB.out⟩ | exact ⟨_, V, rfl, HP2.out, HB.out⟩ | exact ⟨⟨V, HP2.out⟩, HB.out⟩
    have hltz : (j : Int) < (n : Int) := by omega
    obtain ⟨i, hi⟩ : ∃ i, j % d = i := ⟨_, rfl⟩
    have hid : i < d := by rw [← hi]; exact Nat.mod_lt _ (by omega)
    have hidz : (i : Int) < (d : Int) := by omega
    have hit : (j : Int).tmod (d : Int) = (i : Int) := by rw [Int.tmod_eq_emod_of_nonneg (by omega), ← hi]; push_cast; rfl
    have HCA := hide (show cntL d j i = j / d by rw [← hi]; exact cntL_at h1 h4)
    have HFJ := hide (show F (j / d * d + i) = F j by rw [← hi, at_row])
    have HCN := hide (fun r (hr : r < d) => (show cntL d (j + 1) r = if r = i then cntL d j r + 1 else cntL d j r by rw [← hi]; exact cntL_next h1 h4 hr))
    obtain ⟨b, o, rfl, -, hbl, c0, c1⟩ := HI.out j hlt
    replace c0 := fun W (h : Below w.heap.size w W) => bcellW h c0
    replace c1 := fun W (h : Below w.heap.size w W) => bcellW h c1
    obtain ⟨x, hx⟩ : ∃ z, F j = z := ⟨_, rfl⟩
    simp only [hx] at c0 c1
    rw [hx] at HFJ
    obtain ⟨xr, hxr⟩ : ∃ z, x.re = z := ⟨_, rfl⟩
    obtain ⟨xi, hxi⟩ : ∃ z, x.im = z := ⟨_, rfl⟩
    simp only [hxr] at c0
    simp only [hxi] at c1
    have HXQ := hide (fun W (h : Below w.heap.size w W) => (⟨c0 W h, c1 W h⟩ : W.cell? ⟨b, o + j * 2, none⟩ = some (.int .i64 xr) ∧ W.cell? ⟨b, o + j * 2 + 1, none⟩ = some (.int .i64 xi)))
    have HXX := hide (show (⟨xr, xi⟩ : Gau) = x from Gau.same hxr.symm hxi.symm)
    obtain ⟨d0, d1⟩ := HXQ.out _ HB.out
    clear c0 c1
    clear hx hxr hxi
    have HXP := hide (fun W (h : Below w.heap.size w W) => (HXQ.out W h : W.cell? ⟨b, o + j * 2, none⟩ = some (.int .i64 xr) ∧ W.cell? ⟨b, o + j * 2 + 1, none⟩ = some (.int .i64 xi)))
    obtain ⟨Ai, ci, hVi, -, -⟩ := ownGaus_form (HP.out.2.1 i hid).1
    have HVI := hide hVi
    clear hVi
    have HP0 := hide HP.out
    go_upto_region 13 with fail
    obtain ⟨b8, hb8⟩ : ∃ z, wA.heap.size = z := ⟨_, rfl⟩
    obtain ⟨w3, hw3⟩ : ∃ z : World, z = wA.alloc (.cells #[.int .i64 xr, .int .i64 xi] 43) := ⟨_, rfl⟩
    try rw [← hw3]
    try simp only [hb8]
    have HX := hide (show Box w3 b8 43 #[.int .i64 xr, .int .i64 xi] by rw [hw3]; exact Box.made hb8.symm)
    have hc3 : Below wA.heap.size wA w3 := by rw [hw3]; exact (Below.refl _ _).alloc (Nat.le_refl _) _
    replace HP := hide (HP.out.below hc3)
    replace HB := hide (HB.out.trans (hc3.mono HB.out.size))
    skip
    have HBL := hide (show wA.heap.size ≤ b8 by omega)
    have HVB := hide (show (V i).ownBlock ≠ some b8 from fun z => (by have h9 := ((HP0.out.2.1 i hid).1.blockLt z).2; omega))
    clear hw3 hc3 hb8 d0 d1
    refine wp_region_held_drew (S := fun w' => w'.cell? ⟨b8, 0, none⟩ = some (.int .i64 xr) ∧ w'.cell? ⟨b8, 1, none⟩ = some (.int .i64 xi)) (by kernel_rfl) ⟨HX.out.at_ 0, HX.out.at_ 1⟩ (fun hHeld => ?_)
    obtain ⟨w_1, hw_1⟩ : ∃ q : World, q = w3.drew := ⟨_, rfl⟩
    rw [← hw_1] at hHeld ⊢
    have hc_1 : Below w3.heap.size w3 w_1 := by rw [hw_1]; exact (Below.refl _ _).drew
    clear hw_1
    replace HP := hide (HP.out.below hc_1)
    replace HX := hide (HX.out.below hc_1)
    replace HB := hide (HB.out.trans (hc_1.mono HB.out.size))
    clear hc_1
    refine wpAnyH_take (i := 0) (oi := ⟨some 43, _, _, _, _, _⟩) (v := ?_) rfl (by kernel_rfl) (by kernel_rfl) (by kernel_rfl) (fun _ _ _ h => h) (Or.inl ⟨by rfl, ?_⟩) (by assumption) ?_
    rotate_left
    · (intro w' hSw; (try dsimp only at hSw); go_simp <;> (with_reducible rfl))
    try simp only [Act.put, List.setIfInBounds_toArray, List.set_cons_zero, List.set_cons_succ]
    refine wpAnyH_take (i := 1) (oi := ⟨some 44, _, _, _, _, _⟩) (v := ?_) rfl (by kernel_rfl) (by kernel_rfl) (by kernel_rfl) (fun _ _ _ h => h) (Or.inl ⟨by rfl, ?_⟩) (by assumption) ?_
    rotate_left
    · (intro w' hSw; (try dsimp only at hSw); go_simp <;> (with_reducible rfl))
    try simp only [Act.put, List.setIfInBounds_toArray, List.set_cons_zero, List.set_cons_succ]
    refine wpAnyH_take (i := 2) (oi := ⟨some 45, _, _, _, _, _⟩) (v := ?_) rfl (by kernel_rfl) (by kernel_rfl) (by kernel_rfl) (fun _ _ _ h => h) (Or.inl ⟨by rfl, ?_⟩) (by assumption) ?_
    rotate_left
    · (intro w' hSw; (try dsimp only at hSw); go_simp <;> (with_reducible rfl))
    try simp only [Act.put, List.setIfInBounds_toArray, List.set_cons_zero, List.set_cons_succ]
    refine wpAnyH_take (i := 3) (oi := ⟨some 46, _, _, _, _, _⟩) (v := ?_) rfl (by kernel_rfl) (by kernel_rfl) (by kernel_rfl) (fun _ _ _ h => h) (Or.inl ⟨by rfl, ?_⟩) (by assumption) ?_
    rotate_left
    · (intro w' hSw; (try dsimp only at hSw); go_simp <;> (with_reducible rfl))
    try simp only [Act.put, List.setIfInBounds_toArray, List.set_cons_zero, List.set_cons_succ]
    refine wpAnyH_take (i := 4) (oi := ⟨some 47, _, _, _, _, _⟩) (v := ?_) rfl (by kernel_rfl) (by kernel_rfl) (by kernel_rfl) (fun _ _ _ h => h) (Or.inl ⟨by rfl, ?_⟩) (by assumption) ?_
    rotate_left
    · (intro w' hSw; (try dsimp only at hSw); go_simp <;> (with_reducible rfl))
    try simp only [Act.put, List.setIfInBounds_toArray, List.set_cons_zero, List.set_cons_succ]
    refine wpAnyH_take (i := 5) (oi := ⟨some 48, _, _, _, _, _⟩) (v := ?_) rfl (by kernel_rfl) (by kernel_rfl) (by kernel_rfl) (fun _ _ _ h => h) (Or.inl ⟨by rfl, ?_⟩) (by assumption) ?_
    rotate_left
    · (intro w' hSw; (try dsimp only at hSw); go_simp <;> (with_reducible rfl))
    try simp only [Act.put, List.setIfInBounds_toArray, List.set_cons_zero, List.set_cons_succ]
    refine wpAnyH_take (i := 6) (oi := ⟨some 49, _, _, _, _, _⟩) (v := ?_) rfl (by kernel_rfl) (by kernel_rfl) (by kernel_rfl) (fun _ _ _ h => h) (Or.inl ⟨by rfl, ?_⟩) (by assumption) ?_
    rotate_left
    · (intro w' hSw; (try dsimp only at hSw); go_simp <;> (with_reducible rfl))
    try simp only [Act.put, List.setIfInBounds_toArray, List.set_cons_zero, List.set_cons_succ]
    refine wpAnyH_take (i := 7) (oi := ⟨some 50, _, _, _, _, _⟩) (v := ?_) rfl (by kernel_rfl) (by kernel_rfl) (by kernel_rfl) (fun _ _ _ h => h) (Or.inl ⟨by rfl, ?_⟩) (by assumption) ?_
    rotate_left
    · (intro w' hSw; (try dsimp only at hSw); go_simp <;> (with_reducible rfl))
    try simp only [Act.put, List.setIfInBounds_toArray, List.set_cons_zero, List.set_cons_succ]
    refine wpAnyH_take (i := 8) (oi := ⟨some 51, _, _, _, _, _⟩) (v := ?_) rfl (by kernel_rfl) (by kernel_rfl) (by kernel_rfl) (fun _ _ _ h => h) (Or.inl ⟨by rfl, ?_⟩) (by assumption) ?_
    rotate_left
    · (intro w' hSw; (try dsimp only at hSw); go_simp <;> (with_reducible rfl))
    try simp only [Act.put, List.setIfInBounds_toArray, List.set_cons_zero, List.set_cons_succ]
    refine wpAnyH_take (i := 10) (oi := ⟨some 53, _, _, _, _, _⟩) (v := ?_) rfl (by kernel_rfl) (by kernel_rfl) (by kernel_rfl) (fun _ _ _ h => h) (Or.inl ⟨by rfl, ?_⟩) (by assumption) ?_
    rotate_left
    · (intro w' hSw; (try dsimp only at hSw); go_simp <;> (with_reducible rfl))
    try simp only [Act.put, List.setIfInBounds_toArray, List.set_cons_zero, List.set_cons_succ]
    refine wpAnyH_ready (rs := [9, 11]) (by kernel_rfl) (by simp) ?_
    refine AllReadyH.cons (o := ⟨some 52, _, _, _, _, _⟩) rfl (fun K' hK => ?_) (AllReadyH.cons (o := ⟨some 54, _, _, _, _, _⟩) rfl (fun K' hK => ?_) AllReadyH.nil)
    · skip
      have y0 := HP.out.at_ rfl hid
      rw [HVI.out] at y0
      have hgb := (HP.out.lt (k := gl) rfl).2
      go_simp
      clear y0 hgb
      refine hK.out _ _ ⟨HX.out.at_ 0, HX.out.at_ 1⟩ (fun hHeld => ?_)
      clear hK K'
      try simp only [Act.put, List.setIfInBounds_toArray, List.set_cons_zero, List.set_cons_succ]
      refine wpAnyH_ready (rs := [11]) (by kernel_rfl) (by simp) ?_
      refine AllReadyH.cons (o := ⟨some 54, _, _, _, _, _⟩) rfl (fun K' hK => ?_) AllReadyH.nil
      go_simp
      obtain ⟨g9, hg9⟩ : ∃ z, w_1.heap.size = z := ⟨_, rfl⟩
      obtain ⟨w_2, hw_2⟩ : ∃ z : World, z = w_1.alloc (.cells #[.int .i64 xr, .int .i64 xi] 43) := ⟨_, rfl⟩
      try rw [← hw_2]
      have HP9 := hide (show Box w_2 g9 43 #[.int .i64 x.re, .int .i64 x.im] by rw [← HXX.out, hw_2]; exact Box.made hg9.symm)
      have hc_2 : Below w_1.heap.size w_1 w_2 := by rw [hw_2]; exact (Below.refl _ _).alloc (Nat.le_refl _) _
      clear hw_2
      replace HP := hide (HP.out.below hc_2)
      replace HX := hide (HX.out.below hc_2)
      replace HB := hide (HB.out.trans (hc_2.mono HB.out.size))
      clear hc_2
      try simp only [hg9]
      clear hg9
      refine hK.out _ _ ⟨HX.out.at_ 0, HX.out.at_ 1⟩ (fun hHeld => ?_)
      clear hK K'
      try simp only [Act.put, List.setIfInBounds_toArray, List.set_cons_zero, List.set_cons_succ]
      refine wpAnyH_ready (rs := [12]) (by kernel_rfl) (by simp) ?_
      refine AllReadyH.cons (o := ⟨some 55, _, _, _, _, _⟩) rfl (fun K' hK => ?_) AllReadyH.nil
      refine step_append_oneB _ rfl (.tmp 52) (.tmp 54) rfl gl (.slice Ai (cntL d j i) ci) (cntL d j i) _ rfl (HVI.out ▸ (HP.out.2.1 i hid).1) g9 1 x rfl HP9.out (by rw [HCA.out]; have : j / d ≤ j := Nat.div_le_self _ _; omega) (by have h9 := (HP.out.lt (k := gl) rfl).2; omega) ?_
      intro v9 w_3 ho9 hb9 hgr9 hbk9
      rw [← HVI.out] at hgr9 hbk9
      have HX2 := hide (show Box w_3 b8 43 #[.int .i64 xr, .int .i64 xi] from (hgr9.block b8 HX.out.lt (fun z => HVB.out z.symm)).trans HX.out)
      clear HX
      have HX := HX2
      clear HX2
      have HO9 := hide (ho9.congr (G := fun t => F (t * d + i)) (fun t ht => by
        by_cases e : t < cntL d j i
        · rw [if_pos e]
        · rw [if_neg e, show t = j / d by rw [← HCA.out]; omega]; exact HFJ.out.symm))
      have HGR := hide hgr9
      have HBK := hide hbk9
      obtain ⟨A9, c9, rfl, -, -⟩ := ownGaus_form HO9.out
      replace HB := hide (HB.out.trans (hb9.mono hwg))
      clear ho9 hb9 hgr9 hbk9 HP9
      refine hK.out _ _ ⟨HX.out.at_ 0, HX.out.at_ 1⟩ (fun hHeld => ?_)
      clear hK K'
      try simp only [Act.put, List.setIfInBounds_toArray, List.set_cons_zero, List.set_cons_succ]
      refine wpAnyH_take (i := 13) (oi := ⟨some 56, _, _, _, _, _⟩) (v := ?_) rfl (by kernel_rfl) (by kernel_rfl) (by kernel_rfl) (fun _ _ _ h => h) (Or.inl ⟨by rfl, ?_⟩) (by assumption) ?_
      rotate_left
      · (intro w' hSw; (try dsimp only at hSw); go_simp <;> (with_reducible rfl))
      try simp only [Act.put, List.setIfInBounds_toArray, List.set_cons_zero, List.set_cons_succ]
      refine wpAnyH_ready (rs := [14]) (by kernel_rfl) (by simp) ?_
      refine AllReadyH.cons (o := ⟨none, _, _, _, _, _⟩) rfl (fun K' hK => ?_) AllReadyH.nil
      obtain ⟨y0, f0, hgb⟩ := HP.out.midcell hid HGR.out
      go_simp
      clear y0 f0 hgb
      have HP2 := hide ((HP.out.appended hid HO9.out HGR.out HBK.out).congr (V' := fun r => if r = i then (.slice A9 (cntL d j i + 1) c9) else V r) (L' := fun r => cntL d (j + 1) r) (F' := fun r t => F (t * d + r)) (fun r hr => ⟨rfl, cnt_row (HCN.out r hr), fun t _ => row_F r i t⟩))
      have HX2 := hide (HX.out.other (p := ⟨gl, i, none⟩) (by show b8 ≠ gl; have h9 := (HP0.out.lt (k := gl) rfl).2; have h8 := HBL.out; omega) (.slice A9 (cntL d j i + 1) c9))
      clear HX
      have HX := HX2
      clear HX2
      replace HB := hide (HB.out.setCell (p := ⟨gl, i, none⟩) hwg (.slice A9 (cntL d j i + 1) c9))
      obtain ⟨w_4, hw_4⟩ : ∃ z : World, w_3.setCell ⟨gl, i, none⟩ (.slice A9 (cntL d j i + 1) c9) = z := ⟨_, rfl⟩
      rw [hw_4] at HP2 HB HX ⊢
      clear hw_4 HP
      refine hK.out _ _ ⟨HX.out.at_ 0, HX.out.at_ 1⟩ (fun hHeld => ?_)
      clear hK K'
      try simp only [Act.put, List.setIfInBounds_toArray, List.set_cons_zero, List.set_cons_succ]
      refine wpAnyH_done (by kernel_rfl) ?_ _
      clear hHeld
      go_wp2_with fail
      go_roundw
      case rel => exact ⟨j + 1, _, by omega, by go_num, HP2, HB⟩
      case measure => simp [Go.RowKit.intOf]; omega
    · skip
      go_simp
      obtain ⟨g9, hg9⟩ : ∃ z, w_1.heap.size = z := ⟨_, rfl⟩
      obtain ⟨w_5, hw_5⟩ : ∃ z : World, z = w_1.alloc (.cells #[.int .i64 xr, .int .i64 xi] 43) := ⟨_, rfl⟩
      try rw [← hw_5]
      have HP9 := hide (show Box w_5 g9 43 #[.int .i64 x.re, .int .i64 x.im] by rw [← HXX.out, hw_5]; exact Box.made hg9.symm)
      have hc_5 : Below w_1.heap.size w_1 w_5 := by rw [hw_5]; exact (Below.refl _ _).alloc (Nat.le_refl _) _
      clear hw_5
      replace HP := hide (HP.out.below hc_5)
      replace HX := hide (HX.out.below hc_5)
      replace HB := hide (HB.out.trans (hc_5.mono HB.out.size))
      clear hc_5
      try simp only [hg9]
      clear hg9
      refine hK.out _ _ ⟨HX.out.at_ 0, HX.out.at_ 1⟩ (fun hHeld => ?_)
      clear hK K'
      try simp only [Act.put, List.setIfInBounds_toArray, List.set_cons_zero, List.set_cons_succ]
      refine wpAnyH_ready (rs := [9]) (by kernel_rfl) (by simp) ?_
      refine AllReadyH.cons (o := ⟨some 52, _, _, _, _, _⟩) rfl (fun K' hK => ?_) AllReadyH.nil
      have y0 := HP.out.at_ rfl hid
      rw [HVI.out] at y0
      have hgb := (HP.out.lt (k := gl) rfl).2
      go_simp
      clear y0 hgb
      refine hK.out _ _ ⟨HX.out.at_ 0, HX.out.at_ 1⟩ (fun hHeld => ?_)
      clear hK K'
      try simp only [Act.put, List.setIfInBounds_toArray, List.set_cons_zero, List.set_cons_succ]
      refine wpAnyH_ready (rs := [12]) (by kernel_rfl) (by simp) ?_
      refine AllReadyH.cons (o := ⟨some 55, _, _, _, _, _⟩) rfl (fun K' hK => ?_) AllReadyH.nil
      refine step_append_oneB _ rfl (.tmp 52) (.tmp 54) rfl gl (.slice Ai (cntL d j i) ci) (cntL d j i) _ rfl (HVI.out ▸ (HP.out.2.1 i hid).1) g9 1 x rfl HP9.out (by rw [HCA.out]; have : j / d ≤ j := Nat.div_le_self _ _; omega) (by have h9 := (HP.out.lt (k := gl) rfl).2; omega) ?_
      intro v9 w_6 ho9 hb9 hgr9 hbk9
      rw [← HVI.out] at hgr9 hbk9
      have HX2 := hide (show Box w_6 b8 43 #[.int .i64 xr, .int .i64 xi] from (hgr9.block b8 HX.out.lt (fun z => HVB.out z.symm)).trans HX.out)
      clear HX
      have HX := HX2
      clear HX2
      have HO9 := hide (ho9.congr (G := fun t => F (t * d + i)) (fun t ht => by
        by_cases e : t < cntL d j i
        · rw [if_pos e]
        · rw [if_neg e, show t = j / d by rw [← HCA.out]; omega]; exact HFJ.out.symm))
      have HGR := hide hgr9
      have HBK := hide hbk9
      obtain ⟨A9, c9, rfl, -, -⟩ := ownGaus_form HO9.out
      replace HB := hide (HB.out.trans (hb9.mono hwg))
      clear ho9 hb9 hgr9 hbk9 HP9
      refine hK.out _ _ ⟨HX.out.at_ 0, HX.out.at_ 1⟩ (fun hHeld => ?_)
      clear hK K'
      try simp only [Act.put, List.setIfInBounds_toArray, List.set_cons_zero, List.set_cons_succ]
      refine wpAnyH_take (i := 13) (oi := ⟨some 56, _, _, _, _, _⟩) (v := ?_) rfl (by kernel_rfl) (by kernel_rfl) (by kernel_rfl) (fun _ _ _ h => h) (Or.inl ⟨by rfl, ?_⟩) (by assumption) ?_
      rotate_left
      · (intro w' hSw; (try dsimp only at hSw); go_simp <;> (with_reducible rfl))
      try simp only [Act.put, List.setIfInBounds_toArray, List.set_cons_zero, List.set_cons_succ]
      refine wpAnyH_ready (rs := [14]) (by kernel_rfl) (by simp) ?_
      refine AllReadyH.cons (o := ⟨none, _, _, _, _, _⟩) rfl (fun K' hK => ?_) AllReadyH.nil
      obtain ⟨y0, f0, hgb⟩ := HP.out.midcell hid HGR.out
      go_simp
      clear y0 f0 hgb
      have HP2 := hide ((HP.out.appended hid HO9.out HGR.out HBK.out).congr (V' := fun r => if r = i then (.slice A9 (cntL d j i + 1) c9) else V r) (L' := fun r => cntL d (j + 1) r) (F' := fun r t => F (t * d + r)) (fun r hr => ⟨rfl, cnt_row (HCN.out r hr), fun t _ => row_F r i t⟩))
      have HX2 := hide (HX.out.other (p := ⟨gl, i, none⟩) (by show b8 ≠ gl; have h9 := (HP0.out.lt (k := gl) rfl).2; have h8 := HBL.out; omega) (.slice A9 (cntL d j i + 1) c9))
      clear HX
      have HX := HX2
      clear HX2
      replace HB := hide (HB.out.setCell (p := ⟨gl, i, none⟩) hwg (.slice A9 (cntL d j i + 1) c9))
      obtain ⟨w_7, hw_7⟩ : ∃ z : World, w_6.setCell ⟨gl, i, none⟩ (.slice A9 (cntL d j i + 1) c9) = z := ⟨_, rfl⟩
      rw [hw_7] at HP2 HB HX ⊢
      clear hw_7 HP
      refine hK.out _ _ ⟨HX.out.at_ 0, HX.out.at_ 1⟩ (fun hHeld => ?_)
      clear hK K'
      try simp only [Act.put, List.setIfInBounds_toArray, List.set_cons_zero, List.set_cons_succ]
      refine wpAnyH_done (by kernel_rfl) ?_ _
      clear hHeld
      go_wp2_with fail
      go_roundw
      case rel => exact ⟨j + 1, _, by omega, by go_num, HP2, HB⟩
      case measure => simp [Go.RowKit.intOf]; omega
set_option maxHeartbeats 8000000 in
set_option maxRecDepth 100000 in
theorem LayeredR_wrong (k : Int) (A : Option Addr) (n c : Nat) (F : Nat → Gau) (w : World) (hn : n ≤ 100000) (hI : GausAt w 0 A n F) (hE : lyrE k n F ≠ 0) :
    Calls Try.prog 19 #[.int .i64 k, .slice A n c] w fun e w' => e = .returned (.tuple #[.slice none 0 0, .int .i64 (lyrE k n F)]) ∧ Below w.heap.size w w' := by
  have HE := hide (show lyrE k n F = if withinB k 1 4 = true then if n = 0 ∨ ¬ (n : Int) % k = 0 then 10 else if 200 < (n : Int) / k then 8 else unI (insideB 100000000 n F) 2 else 2 from rfl)
  obtain ⟨E, hEE⟩ : ∃ z, lyrE k n F = z := ⟨_, rfl⟩
  rw [hEE] at HE hE
  rw [hEE]
  have HNE := hide hE
  have HI := hide hI
  have HWI := hide (fun W => within_any k 1 4 W)
  clear hEE hE hI
  by_cases h0 : 1 ≤ k ∧ k ≤ 4
  case neg =>
    simp only [withinB_no h0] at HWI HE
    obtain rfl : E = 2 := HE.out.trans (if_neg (by decide))
    clear HE HI h0
    go_enter Try.func19, Try.ntmps19
    go_wp2_with fail
    refine (HWI.out _).mono ?_
    rintro e_ v_ ⟨rfl, rfl⟩
    go_wp2_with fail
    go_ret2
    first | exact ⟨rfl, Below.refl _ _⟩ | exact ⟨rfl, by (repeat (first | (with_reducible exact Below.refl _ _) | (with_reducible refine Go.below_drewN ?_ _) | (with_reducible refine Below.drew ?_) | (with_reducible refine Below.alloc ?_ (by first | exact Nat.le_refl _ | (simp; done) | (simp; omega) | omega) _) | (with_reducible refine Below.setCell ?_ (by first | exact Nat.le_refl _ | (simp; done) | (simp; omega) | omega) _)))⟩
  simp only [withinB_yes h0] at HWI HE
  replace HE := hide (HE.out.trans (if_pos trivial))
  obtain ⟨d, rfl⟩ : ∃ d : Nat, k = (d : Int) := ⟨k.toNat, by omega⟩
  have hd1 : 1 ≤ d := by omega
  have hd4 : d ≤ 4 := by omega
  have hd0 : ¬ (d : Int) = 0 := by omega
  have hd0n : ¬ d = 0 := by omega
  clear h0
  by_cases h1 : n = 0
  case pos =>
    obtain rfl : E = 10 := HE.out.trans (if_pos (.inl h1))
    have t0 : ((n : Int) == 0) = true := by simp; omega
    clear HE HI h1
    go_enter Try.func19, Try.ntmps19
    go_wp2_with fail
    refine (HWI.out _).mono ?_
    rintro e_ v_ ⟨rfl, rfl⟩
    go_wp2_with fail
    go_ret2
    first | exact ⟨rfl, Below.refl _ _⟩ | exact ⟨rfl, by (repeat (first | (with_reducible exact Below.refl _ _) | (with_reducible refine Go.below_drewN ?_ _) | (with_reducible refine Below.drew ?_) | (with_reducible refine Below.alloc ?_ (by first | exact Nat.le_refl _ | (simp; done) | (simp; omega) | omega) _) | (with_reducible refine Below.setCell ?_ (by first | exact Nat.le_refl _ | (simp; done) | (simp; omega) | omega) _)))⟩
  have t0 : ((n : Int) == 0) = false := by simp; omega
  by_cases h2 : (n : Int) % (d : Int) = 0
  case neg =>
    obtain rfl : E = 10 := HE.out.trans (if_pos (.inr h2))
    have HNM := hide h2
    have tm : ((n : Int) % (d : Int) != 0) = true := by simpa using HNM.out
    have tm2 : ((n : Int).tmod (d : Int) != 0) = true := by rw [Int.tmod_eq_emod_of_nonneg (by omega)]; exact tm
    have tm3 : ¬ n % d = 0 := fun e => HNM.out (by omega)
    clear HE HI h2 h1
    go_enter Try.func19, Try.ntmps19
    go_wp2_with fail
    refine (HWI.out _).mono ?_
    rintro e_ v_ ⟨rfl, rfl⟩
    go_wp2_with fail
    go_ret2
    first | exact ⟨rfl, Below.refl _ _⟩ | exact ⟨rfl, by (repeat (first | (with_reducible exact Below.refl _ _) | (with_reducible refine Go.below_drewN ?_ _) | (with_reducible refine Below.drew ?_) | (with_reducible refine Below.alloc ?_ (by first | exact Nat.le_refl _ | (simp; done) | (simp; omega) | omega) _) | (with_reducible refine Below.setCell ?_ (by first | exact Nat.le_refl _ | (simp; done) | (simp; omega) | omega) _)))⟩
  replace HE := hide (HE.out.trans (if_neg (by rintro (z | z); exact h1 z; exact z h2)))
  have HNM := hide h2
  have tm : ((n : Int) % (d : Int) != 0) = false := by simpa using HNM.out
  have tm2 : ((n : Int).tmod (d : Int) != 0) = false := by rw [Int.tmod_eq_emod_of_nonneg (by omega)]; exact tm
  have tm3 : n % d = 0 := by have := HNM.out; omega
  obtain ⟨z, hz⟩ : ∃ z : Nat, n / d = z := ⟨_, rfl⟩
  have hzz : (n : Int) / (d : Int) = (z : Int) := by rw [← hz]; push_cast; rfl
  have hzt : (n : Int).tdiv (d : Int) = (z : Int) := by rw [Int.tdiv_eq_ediv_of_nonneg (by omega)]; exact hzz
  rw [hzz] at HE
  have hwz : IntKind.i64.wrap (z : Int) = (z : Int) := IntWalk.i64_in _ (by have h9 := Nat.div_le_self n d; omega)
  clear h2 h1
  by_cases h3 : 200 < z
  case pos =>
    obtain rfl : E = 8 := HE.out.trans (if_pos (by omega))
    have t3 : (200 : Int) < (z : Int) := by omega
    clear HE HI h3
    go_enter Try.func19, Try.ntmps19
    go_wp2_with fail
    refine (HWI.out _).mono ?_
    rintro e_ v_ ⟨rfl, rfl⟩
    go_wp2_with fail
    go_ret2
    first | exact ⟨rfl, Below.refl _ _⟩ | exact ⟨rfl, by (repeat (first | (with_reducible exact Below.refl _ _) | (with_reducible refine Go.below_drewN ?_ _) | (with_reducible refine Below.drew ?_) | (with_reducible refine Below.alloc ?_ (by first | exact Nat.le_refl _ | (simp; done) | (simp; omega) | omega) _) | (with_reducible refine Below.setCell ?_ (by first | exact Nat.le_refl _ | (simp; done) | (simp; omega) | omega) _)))⟩
  replace HE := hide (HE.out.trans (if_neg (by omega)))
  have t3 : ¬ (200 : Int) < (z : Int) := by omega
  have hb : insideB 100000000 n F = false := by
    cases hb : insideB 100000000 n F
    · rfl
    · rw [hb] at HE; exact absurd HE.out HNE.out
  obtain rfl : E = 2 := by rw [HE.out, hb]; rfl
  clear HE h3
  have HSZ := hide (fun j W => sizedR_any (F j) 100000000 W (by decide))
  have HBN := hide hb
  clear hb
  go_enter Try.func19, Try.ntmps19
  go_wp2_with fail
  refine (HWI.out _).mono ?_
  rintro e_ v_ ⟨rfl, rfl⟩
  go_wp2_with fail
  go_loopw [6] (fun i wr => ∃ k : Nat, k ≤ n ∧ i = .int .i64 (k : Int) ∧ Hid (∀ j, j < k → (F j).isIn 100000000 = true) ∧ Hid (Below w.heap.size w wr)) (fun i _ => n - (Go.RowKit.intOf i).toNat)
  case atStart => exact ⟨0, Nat.zero_le _, rfl, hide (fun j hj => absurd hj (Nat.not_lt_zero j)), hide (Below.refl _ _)⟩
  case round =>
    obtain ⟨k, hk, rfl, HZ, HB⟩ := hrel
    obtain ⟨w1, rfl⟩ : ∃ x : World, x = wr := ⟨_, rfl⟩
    by_cases hlt : k < n
    case pos =>
      have hltz : (k : Int) < (n : Int) := by omega
      obtain ⟨b, o, rfl, -, hb_, c0, c1⟩ := (HI.out.below HB.out) k hlt
      have HXk := hide (HSZ.out k)
      cases hv : (F k).isIn 100000000
      case false =>
        rw [hv] at HXk
        clear HSZ HZ HI hv
        generalize F k = x at *
        go_wp2_with fail
        refine (HXk.out _).mono ?_
        rintro e_ w2 ⟨rfl, hb2⟩
        have HB3 := hide (HB.out.trans (hb2.mono HB.out.size))
        clear hb2 c0 c1
        go_wp2_with fail
        go_ret2
        exact ⟨rfl, HB3.out⟩
      rw [hv] at HXk
      have HZ2 := hide (show ∀ j, j < k + 1 → (F j).isIn 100000000 = true from fun j hj => by
        by_cases e : j = k
        · rw [e]; exact hv
        · exact HZ.out j (by omega))
      clear HSZ HZ hv
      generalize F k = x at *
      go_wp2_with fail
      refine (HXk.out _).mono ?_
      rintro e_ w2 ⟨rfl, hb2⟩
      have HB3 := hide (HB.out.trans (hb2.mono HB.out.size))
      clear hb2 c0 c1
      go_wp2_with fail
      go_roundw
      case rel => exact ⟨k + 1, by omega, by go_num, HZ2, HB3⟩
      case measure => simp [Go.RowKit.intOf]; omega
    obtain rfl : n = k := by omega
    have hltz : ¬ ((n : Int) < (n : Int)) := by omega
    exfalso
    have h9 : insideB 100000000 n F = true := insideB_iff.2 (fun j hj => Gau.isIn_iff.1 (HZ.out j hj))
    rw [HBN.out] at h9
    exact absurd h9 (by decide)
set_option maxHeartbeats 16000000 in
set_option maxRecDepth 100000 in
theorem LayeredR_right (d q : Nat) (A : Option Addr) (n c : Nat) (F : Nat → Gau) (w : World) (h1 : 1 ≤ d) (h4 : d ≤ 4) (q1 : 1 ≤ q) (q9 : q ≤ 200) (hnq : n = d * q) (hb : insideB 100000000 n F = true) (hI : GausAt w 0 A n F) :
    Calls Try.prog 19 #[.int .i64 (d : Int), .slice A n c] w fun e w' => ∃ v V, e = .returned (.tuple #[v, .int .i64 0]) ∧ OwnPlane w' w.heap.size v d V (fun _ => q) (fun i t => F (t * d + i)) ∧ Below w.heap.size w w' := by
  obtain ⟨e1, e2, hn0⟩ := lyrE_right (F := F) h1 h4 q1 q9 hnq
  have hn9 : n ≤ 800 := by rw [hnq]; exact Nat.mul_le_mul h4 q9
  have HNQ := hide hnq
  have HI := hide hI
  have HNM := hide e1
  have hd0 : ¬ (d : Int) = 0 := by omega
  have hd0n : ¬ d = 0 := by omega
  have t0 : ((n : Int) == 0) = false := by simp; omega
  have tm : ((n : Int) % (d : Int) != 0) = false := by simpa using HNM.out
  have tm2 : ((n : Int).tmod (d : Int) != 0) = false := by rw [Int.tmod_eq_emod_of_nonneg (by omega)]; exact tm
  have tm3 : n % d = 0 := by have := HNM.out; omega
  have hzt : (n : Int).tdiv (d : Int) = (q : Int) := by rw [Int.tdiv_eq_ediv_of_nonneg (by omega)]; exact e2
  have hz : n / d = q := by omega
  have t3 : ¬ (200 : Int) < (q : Int) := by omega
  have hwq : IntKind.i64.wrap (q : Int) = (q : Int) := IntWalk.i64_in _ (by omega)
  have HWI := hide (fun W => within_any (d : Int) 1 4 W)
  simp only [withinB_yes (show 1 ≤ (d : Int) ∧ (d : Int) ≤ 4 by omega)] at HWI
  have hmk := madeMat d (by omega)
  clear e1 e2 hnq hI
  have HIN := hide (insideB_iff.1 hb)
  clear hb
  go_enter Try.func19, Try.ntmps19
  go_wp2_with fail
  refine (HWI.out _).mono ?_
  rintro e_ v_ ⟨rfl, rfl⟩
  clear HWI
  have HB := hide (Below.refl w.heap.size w)
  have HSZ := hide (fun j W => sizedR_any (F j) 100000000 W (by decide))
  go_wp2_with fail
  go_loopw [6] (fun i wr => ∃ k : Nat, k ≤ n ∧ i = .int .i64 (k : Int) ∧ Hid (∀ j, j < k → (F j).isIn 100000000 = true) ∧ Hid (Below w.heap.size w wr)) (fun i _ => n - (Go.RowKit.intOf i).toNat)
  case atStart => exact ⟨0, Nat.zero_le _, rfl, hide (fun j hj => absurd hj (Nat.not_lt_zero j)), hide (Below.refl _ _)⟩
  case round =>
    obtain ⟨k, hk, rfl, HZ, HB2⟩ := hrel
    obtain ⟨w1, rfl⟩ : ∃ x : World, x = wr := ⟨_, rfl⟩
    by_cases hlt : k < n
    case pos =>
      have hltz : (k : Int) < (n : Int) := by omega
      obtain ⟨b, o, rfl, -, hb_, c0, c1⟩ := (HI.out.below HB2.out) k hlt
      have HXk := hide (HSZ.out k)
      have hv : (F k).isIn 100000000 = true := Gau.isIn_iff.2 (HIN.out k hlt)
      rw [hv] at HXk
      have HZ2 := hide (show ∀ j, j < k + 1 → (F j).isIn 100000000 = true from fun j hj => by
        by_cases e : j = k
        · rw [e]; exact hv
        · exact HZ.out j (by omega))
      clear HSZ HZ hv
      generalize F k = x at *
      go_wp2_with fail
      refine (HXk.out _).mono ?_
      rintro e_ w2 ⟨rfl, hb2⟩
      have HB3 := hide (HB2.out.trans (hb2.mono HB2.out.size))
      clear hb2 c0 c1
      go_wp2_with fail
      go_roundw
      case rel => exact ⟨k + 1, by omega, by go_num, HZ2, HB3⟩
      case measure => simp [Go.RowKit.intOf]; omega
    obtain rfl : n = k := by omega
    have hltz : ¬ ((n : Int) < (n : Int)) := by omega
    clear HB HZ HSZ HIN
    have HB := HB2
    clear HB2
    obtain ⟨gl, hgl⟩ : ∃ z, w1.heap.size = z := ⟨_, rfl⟩
    have hwg : w.heap.size ≤ gl := by rw [← hgl]; exact HB.out.size
    go_upto_region 13 with fail
    obtain ⟨w2, hw2⟩ : ∃ z : World, z = w1.alloc (.cells (madeCells #[.slice none 0 0] d) 22) := ⟨_, rfl⟩
    try simp only [hgl]
    try rw [← hw2]
    have HP := hide (show OwnPlane w2 gl (.slice (some ⟨gl, 0, none⟩) d d) d (fun _ => .slice none 0 0) (fun i => cntL d 0 i) (fun i t => F (t * d + i)) from by
      have h9 := OwnPlane.made w1 w1.heap.size d (fun i t => F (t * d + i)) (Nat.le_refl _) (by omega)
      rw [← hw2, hgl] at h9
      exact h9.congr fun i hi => ⟨rfl, (cntL_zero hi).symm, fun _ _ => rfl⟩)
    replace HB := hide (show Below w.heap.size w w2 by rw [hw2]; exact HB.out.alloc HB.out.size _)
    clear hw2 hmk
    go_wp2_with fail
    go_loopw [8] (fun z wr => ∃ (j : Nat) (V : Nat → Value), j ≤ n ∧ z = .int .i64 (j : Int) ∧ Hid (OwnPlane wr gl (.slice (some ⟨gl, 0, none⟩) d d) d V (fun i => cntL d j i) (fun i t => F (t * d + i))) ∧ Hid (Below w.heap.size w wr)) (fun z _ => n - (Go.RowKit.intOf z).toNat)
    case atStart => exact ⟨0, _, Nat.zero_le _, rfl, HP, HB⟩
    case round =>
      clear HP HB
      obtain ⟨j, V, hj, rfl, HP, HB⟩ := hrel
      obtain ⟨wA, rfl⟩ : ∃ x : World, x = wr := ⟨_, rfl⟩
      by_cases hlt : j < n
      case neg =>
        obtain rfl : n = j := by omega
        have hltz : ¬ (n : Int) < (n : Int) := by omega
        have HP2 := hide ((HP.out.congr (V' := V) (L' := fun _ => q) (F' := fun i t => F (t * d + i)) (fun i hi => ⟨rfl, (by rw [HNQ.out]; exact cntL_end h1 h4 hi), fun _ _ => rfl⟩)).weakP hwg)
        clear HP HI
        go_wp2_with fail
        go_ret2
        first | exact ⟨_, rfl, ⟨V, HP2.out⟩, HB.out⟩ | exact ⟨_, V, rfl, HP2.out, HB.out⟩ | exact ⟨⟨V, HP2.out⟩, HB.out⟩
      have hltz : (j : Int) < (n : Int) := by omega
      obtain ⟨i, hi⟩ : ∃ i, j % d = i := ⟨_, rfl⟩
      have hid : i < d := by rw [← hi]; exact Nat.mod_lt _ (by omega)
      have hidz : (i : Int) < (d : Int) := by omega
      have hit : (j : Int).tmod (d : Int) = (i : Int) := by rw [Int.tmod_eq_emod_of_nonneg (by omega), ← hi]; push_cast; rfl
      have HCA := hide (show cntL d j i = j / d by rw [← hi]; exact cntL_at h1 h4)
      have HFJ := hide (show F (j / d * d + i) = F j by rw [← hi, at_row])
      have HCN := hide (fun r (hr : r < d) => (show cntL d (j + 1) r = if r = i then cntL d j r + 1 else cntL d j r by rw [← hi]; exact cntL_next h1 h4 hr))
      obtain ⟨b, o, rfl, -, hbl, c0, c1⟩ := HI.out j hlt
      replace c0 := fun W (h : Below w.heap.size w W) => bcellW h c0
      replace c1 := fun W (h : Below w.heap.size w W) => bcellW h c1
      obtain ⟨x, hx⟩ : ∃ z, F j = z := ⟨_, rfl⟩
      simp only [hx] at c0 c1
      rw [hx] at HFJ
      obtain ⟨xr, hxr⟩ : ∃ z, x.re = z := ⟨_, rfl⟩
      obtain ⟨xi, hxi⟩ : ∃ z, x.im = z := ⟨_, rfl⟩
      simp only [hxr] at c0
      simp only [hxi] at c1
      have HXQ := hide (fun W (h : Below w.heap.size w W) => (⟨c0 W h, c1 W h⟩ : W.cell? ⟨b, o + j * 2, none⟩ = some (.int .i64 xr) ∧ W.cell? ⟨b, o + j * 2 + 1, none⟩ = some (.int .i64 xi)))
      have HXX := hide (show (⟨xr, xi⟩ : Gau) = x from Gau.same hxr.symm hxi.symm)
      obtain ⟨d0, d1⟩ := HXQ.out _ HB.out
      clear c0 c1
      clear hx hxr hxi
      have HXP := hide (fun W (h : Below w.heap.size w W) => (HXQ.out W h : W.cell? ⟨b, o + j * 2, none⟩ = some (.int .i64 xr) ∧ W.cell? ⟨b, o + j * 2 + 1, none⟩ = some (.int .i64 xi)))
      obtain ⟨Ai, ci, hVi, -, -⟩ := ownGaus_form (HP.out.2.1 i hid).1
      have HVI := hide hVi
      clear hVi
      clear d0 d1
      go_upto_region 16 with fail
      refine wp_region_held_drew (S := fun w' => w'.cell? ⟨b, o + j * 2, none⟩ = some (.int .i64 xr) ∧ w'.cell? ⟨b, o + j * 2 + 1, none⟩ = some (.int .i64 xi)) (by kernel_rfl) (HXP.out _ HB.out.drew) (fun hHeld => ?_)
      obtain ⟨w_8, hw_8⟩ : ∃ q : World, q = wA.drew := ⟨_, rfl⟩
      rw [← hw_8] at hHeld ⊢
      have hc_8 : Below wA.heap.size wA w_8 := by rw [hw_8]; exact (Below.refl _ _).drew
      clear hw_8
      replace HP := hide (HP.out.below hc_8)
      replace HB := hide (HB.out.trans (hc_8.mono HB.out.size))
      clear hc_8
      refine wpAnyH_take (i := 0) (oi := ⟨some 47, _, _, _, _, _⟩) (v := ?_) rfl (by kernel_rfl) (by kernel_rfl) (by kernel_rfl) (fun _ _ _ h => h) (Or.inl ⟨by rfl, ?_⟩) (by assumption) ?_
      rotate_left
      · (intro w' hSw; (try dsimp only at hSw); go_simp <;> (with_reducible rfl))
      try simp only [Act.put, List.setIfInBounds_toArray, List.set_cons_zero, List.set_cons_succ]
      refine wpAnyH_take (i := 1) (oi := ⟨some 48, _, _, _, _, _⟩) (v := ?_) rfl (by kernel_rfl) (by kernel_rfl) (by kernel_rfl) (fun _ _ _ h => h) (Or.inl ⟨by rfl, ?_⟩) (by assumption) ?_
      rotate_left
      · (intro w' hSw; (try dsimp only at hSw); go_simp <;> (with_reducible rfl))
      try simp only [Act.put, List.setIfInBounds_toArray, List.set_cons_zero, List.set_cons_succ]
      refine wpAnyH_take (i := 2) (oi := ⟨some 49, _, _, _, _, _⟩) (v := ?_) rfl (by kernel_rfl) (by kernel_rfl) (by kernel_rfl) (fun _ _ _ h => h) (Or.inl ⟨by rfl, ?_⟩) (by assumption) ?_
      rotate_left
      · (intro w' hSw; (try dsimp only at hSw); go_simp <;> (with_reducible rfl))
      try simp only [Act.put, List.setIfInBounds_toArray, List.set_cons_zero, List.set_cons_succ]
      refine wpAnyH_take (i := 3) (oi := ⟨some 50, _, _, _, _, _⟩) (v := ?_) rfl (by kernel_rfl) (by kernel_rfl) (by kernel_rfl) (fun _ _ _ h => h) (Or.inl ⟨by rfl, ?_⟩) (by assumption) ?_
      rotate_left
      · (intro w' hSw; (try dsimp only at hSw); go_simp <;> (with_reducible rfl))
      try simp only [Act.put, List.setIfInBounds_toArray, List.set_cons_zero, List.set_cons_succ]
      refine wpAnyH_take (i := 4) (oi := ⟨some 51, _, _, _, _, _⟩) (v := ?_) rfl (by kernel_rfl) (by kernel_rfl) (by kernel_rfl) (fun _ _ _ h => h) (Or.inl ⟨by rfl, ?_⟩) (by assumption) ?_
      rotate_left
      · (intro w' hSw; (try dsimp only at hSw); go_simp <;> (with_reducible rfl))
      try simp only [Act.put, List.setIfInBounds_toArray, List.set_cons_zero, List.set_cons_succ]
      refine wpAnyH_take (i := 5) (oi := ⟨some 52, _, _, _, _, _⟩) (v := ?_) rfl (by kernel_rfl) (by kernel_rfl) (by kernel_rfl) (fun _ _ _ h => h) (Or.inl ⟨by rfl, ?_⟩) (by assumption) ?_
      rotate_left
      · (intro w' hSw; (try dsimp only at hSw); go_simp <;> (with_reducible rfl))
      try simp only [Act.put, List.setIfInBounds_toArray, List.set_cons_zero, List.set_cons_succ]
      refine wpAnyH_take (i := 6) (oi := ⟨some 53, _, _, _, _, _⟩) (v := ?_) rfl (by kernel_rfl) (by kernel_rfl) (by kernel_rfl) (fun _ _ _ h => h) (Or.inl ⟨by rfl, ?_⟩) (by assumption) ?_
      rotate_left
      · (intro w' hSw; (try dsimp only at hSw); go_simp <;> (with_reducible rfl))
      try simp only [Act.put, List.setIfInBounds_toArray, List.set_cons_zero, List.set_cons_succ]
      refine wpAnyH_take (i := 7) (oi := ⟨some 54, _, _, _, _, _⟩) (v := ?_) rfl (by kernel_rfl) (by kernel_rfl) (by kernel_rfl) (fun _ _ _ h => h) (Or.inl ⟨by rfl, ?_⟩) (by assumption) ?_
      rotate_left
      · (intro w' hSw; (try dsimp only at hSw); go_simp <;> (with_reducible rfl))
      try simp only [Act.put, List.setIfInBounds_toArray, List.set_cons_zero, List.set_cons_succ]
      refine wpAnyH_take (i := 8) (oi := ⟨some 55, _, _, _, _, _⟩) (v := ?_) rfl (by kernel_rfl) (by kernel_rfl) (by kernel_rfl) (fun _ _ _ h => h) (Or.inl ⟨by rfl, ?_⟩) (by assumption) ?_
      rotate_left
      · (intro w' hSw; (try dsimp only at hSw); go_simp <;> (with_reducible rfl))
      try simp only [Act.put, List.setIfInBounds_toArray, List.set_cons_zero, List.set_cons_succ]
      refine wpAnyH_take (i := 10) (oi := ⟨some 57, _, _, _, _, _⟩) (v := ?_) rfl (by kernel_rfl) (by kernel_rfl) (by kernel_rfl) (fun _ _ _ h => h) (Or.inl ⟨by rfl, ?_⟩) (by assumption) ?_
      rotate_left
      · (intro w' hSw; (try dsimp only at hSw); go_simp <;> (with_reducible rfl))
      try simp only [Act.put, List.setIfInBounds_toArray, List.set_cons_zero, List.set_cons_succ]
      refine wpAnyH_take (i := 11) (oi := ⟨some 58, _, _, _, _, _⟩) (v := ?_) rfl (by kernel_rfl) (by kernel_rfl) (by kernel_rfl) (fun _ _ _ h => h) (Or.inl ⟨by rfl, ?_⟩) (by assumption) ?_
      rotate_left
      · (intro w' hSw; (try dsimp only at hSw); go_simp <;> (with_reducible rfl))
      try simp only [Act.put, List.setIfInBounds_toArray, List.set_cons_zero, List.set_cons_succ]
      refine wpAnyH_take (i := 12) (oi := ⟨some 59, _, _, _, _, _⟩) (v := ?_) rfl (by kernel_rfl) (by kernel_rfl) (by kernel_rfl) (fun _ _ _ h => h) (Or.inl ⟨by rfl, ?_⟩) (by assumption) ?_
      rotate_left
      · (intro w' hSw; (try dsimp only at hSw); go_simp <;> (with_reducible rfl))
      try simp only [Act.put, List.setIfInBounds_toArray, List.set_cons_zero, List.set_cons_succ]
      refine wpAnyH_take (i := 13) (oi := ⟨some 60, _, _, _, _, _⟩) (v := ?_) rfl (by kernel_rfl) (by kernel_rfl) (by kernel_rfl) (fun _ _ _ h => h) (Or.inl ⟨by rfl, ?_⟩) (by assumption) ?_
      rotate_left
      · (intro w' hSw; (try dsimp only at hSw); go_simp <;> (with_reducible rfl))
      try simp only [Act.put, List.setIfInBounds_toArray, List.set_cons_zero, List.set_cons_succ]
      refine wpAnyH_ready (rs := [9, 14]) (by kernel_rfl) (by simp) ?_
      refine AllReadyH.cons (o := ⟨some 56, _, _, _, _, _⟩) rfl (fun K' hK => ?_) (AllReadyH.cons (o := ⟨some 61, _, _, _, _, _⟩) rfl (fun K' hK => ?_) AllReadyH.nil)
      · skip
        have y0 := HP.out.at_ rfl hid
        rw [HVI.out] at y0
        have hgb := (HP.out.lt (k := gl) rfl).2
        go_simp
        clear y0 hgb
        refine hK.out _ _ (HXP.out _ HB.out) (fun hHeld => ?_)
        clear hK K'
        try simp only [Act.put, List.setIfInBounds_toArray, List.set_cons_zero, List.set_cons_succ]
        refine wpAnyH_ready (rs := [14]) (by kernel_rfl) (by simp) ?_
        refine AllReadyH.cons (o := ⟨some 61, _, _, _, _, _⟩) rfl (fun K' hK => ?_) AllReadyH.nil
        go_simp
        obtain ⟨g9, hg9⟩ : ∃ z, w_8.heap.size = z := ⟨_, rfl⟩
        obtain ⟨w_9, hw_9⟩ : ∃ z : World, z = w_8.alloc (.cells #[.int .i64 xr, .int .i64 xi] 43) := ⟨_, rfl⟩
        try rw [← hw_9]
        have HP9 := hide (show Box w_9 g9 43 #[.int .i64 x.re, .int .i64 x.im] by rw [← HXX.out, hw_9]; exact Box.made hg9.symm)
        have hc_9 : Below w_8.heap.size w_8 w_9 := by rw [hw_9]; exact (Below.refl _ _).alloc (Nat.le_refl _) _
        clear hw_9
        replace HP := hide (HP.out.below hc_9)
        replace HB := hide (HB.out.trans (hc_9.mono HB.out.size))
        clear hc_9
        try simp only [hg9]
        clear hg9
        refine hK.out _ _ (HXP.out _ HB.out) (fun hHeld => ?_)
        clear hK K'
        try simp only [Act.put, List.setIfInBounds_toArray, List.set_cons_zero, List.set_cons_succ]
        refine wpAnyH_ready (rs := [15]) (by kernel_rfl) (by simp) ?_
        refine AllReadyH.cons (o := ⟨some 62, _, _, _, _, _⟩) rfl (fun K' hK => ?_) AllReadyH.nil
        refine step_append_oneB _ rfl (.tmp 56) (.tmp 61) rfl gl (.slice Ai (cntL d j i) ci) (cntL d j i) _ rfl (HVI.out ▸ (HP.out.2.1 i hid).1) g9 1 x rfl HP9.out (by rw [HCA.out]; have : j / d ≤ j := Nat.div_le_self _ _; omega) (by have h9 := (HP.out.lt (k := gl) rfl).2; omega) ?_
        intro v9 w_10 ho9 hb9 hgr9 hbk9
        rw [← HVI.out] at hgr9 hbk9
        have HO9 := hide (ho9.congr (G := fun t => F (t * d + i)) (fun t ht => by
          by_cases e : t < cntL d j i
          · rw [if_pos e]
          · rw [if_neg e, show t = j / d by rw [← HCA.out]; omega]; exact HFJ.out.symm))
        have HGR := hide hgr9
        have HBK := hide hbk9
        obtain ⟨A9, c9, rfl, -, -⟩ := ownGaus_form HO9.out
        replace HB := hide (HB.out.trans (hb9.mono hwg))
        clear ho9 hb9 hgr9 hbk9 HP9
        refine hK.out _ _ (HXP.out _ HB.out) (fun hHeld => ?_)
        clear hK K'
        try simp only [Act.put, List.setIfInBounds_toArray, List.set_cons_zero, List.set_cons_succ]
        refine wpAnyH_take (i := 16) (oi := ⟨some 63, _, _, _, _, _⟩) (v := ?_) rfl (by kernel_rfl) (by kernel_rfl) (by kernel_rfl) (fun _ _ _ h => h) (Or.inl ⟨by rfl, ?_⟩) (by assumption) ?_
        rotate_left
        · (intro w' hSw; (try dsimp only at hSw); go_simp <;> (with_reducible rfl))
        try simp only [Act.put, List.setIfInBounds_toArray, List.set_cons_zero, List.set_cons_succ]
        refine wpAnyH_ready (rs := [17]) (by kernel_rfl) (by simp) ?_
        refine AllReadyH.cons (o := ⟨none, _, _, _, _, _⟩) rfl (fun K' hK => ?_) AllReadyH.nil
        obtain ⟨y0, f0, hgb⟩ := HP.out.midcell hid HGR.out
        go_simp
        clear y0 f0 hgb
        have HP2 := hide ((HP.out.appended hid HO9.out HGR.out HBK.out).congr (V' := fun r => if r = i then (.slice A9 (cntL d j i + 1) c9) else V r) (L' := fun r => cntL d (j + 1) r) (F' := fun r t => F (t * d + r)) (fun r hr => ⟨rfl, cnt_row (HCN.out r hr), fun t _ => row_F r i t⟩))
        replace HB := hide (HB.out.setCell (p := ⟨gl, i, none⟩) hwg (.slice A9 (cntL d j i + 1) c9))
        obtain ⟨w_11, hw_11⟩ : ∃ z : World, w_10.setCell ⟨gl, i, none⟩ (.slice A9 (cntL d j i + 1) c9) = z := ⟨_, rfl⟩
        rw [hw_11] at HP2 HB ⊢
        clear hw_11 HP
        refine hK.out _ _ (HXP.out _ HB.out) (fun hHeld => ?_)
        clear hK K'
        try simp only [Act.put, List.setIfInBounds_toArray, List.set_cons_zero, List.set_cons_succ]
        refine wpAnyH_done (by kernel_rfl) ?_ _
        clear hHeld
        go_wp2_with fail
        go_roundw
        case rel => exact ⟨j + 1, _, by omega, by go_num, HP2, HB⟩
        case measure => simp [Go.RowKit.intOf]; omega
      · skip
        go_simp
        obtain ⟨g9, hg9⟩ : ∃ z, w_8.heap.size = z := ⟨_, rfl⟩
        obtain ⟨w_12, hw_12⟩ : ∃ z : World, z = w_8.alloc (.cells #[.int .i64 xr, .int .i64 xi] 43) := ⟨_, rfl⟩
        try rw [← hw_12]
        have HP9 := hide (show Box w_12 g9 43 #[.int .i64 x.re, .int .i64 x.im] by rw [← HXX.out, hw_12]; exact Box.made hg9.symm)
        have hc_12 : Below w_8.heap.size w_8 w_12 := by rw [hw_12]; exact (Below.refl _ _).alloc (Nat.le_refl _) _
        clear hw_12
        replace HP := hide (HP.out.below hc_12)
        replace HB := hide (HB.out.trans (hc_12.mono HB.out.size))
        clear hc_12
        try simp only [hg9]
        clear hg9
        refine hK.out _ _ (HXP.out _ HB.out) (fun hHeld => ?_)
        clear hK K'
        try simp only [Act.put, List.setIfInBounds_toArray, List.set_cons_zero, List.set_cons_succ]
        refine wpAnyH_ready (rs := [9]) (by kernel_rfl) (by simp) ?_
        refine AllReadyH.cons (o := ⟨some 56, _, _, _, _, _⟩) rfl (fun K' hK => ?_) AllReadyH.nil
        have y0 := HP.out.at_ rfl hid
        rw [HVI.out] at y0
        have hgb := (HP.out.lt (k := gl) rfl).2
        go_simp
        clear y0 hgb
        refine hK.out _ _ (HXP.out _ HB.out) (fun hHeld => ?_)
        clear hK K'
        try simp only [Act.put, List.setIfInBounds_toArray, List.set_cons_zero, List.set_cons_succ]
        refine wpAnyH_ready (rs := [15]) (by kernel_rfl) (by simp) ?_
        refine AllReadyH.cons (o := ⟨some 62, _, _, _, _, _⟩) rfl (fun K' hK => ?_) AllReadyH.nil
        refine step_append_oneB _ rfl (.tmp 56) (.tmp 61) rfl gl (.slice Ai (cntL d j i) ci) (cntL d j i) _ rfl (HVI.out ▸ (HP.out.2.1 i hid).1) g9 1 x rfl HP9.out (by rw [HCA.out]; have : j / d ≤ j := Nat.div_le_self _ _; omega) (by have h9 := (HP.out.lt (k := gl) rfl).2; omega) ?_
        intro v9 w_13 ho9 hb9 hgr9 hbk9
        rw [← HVI.out] at hgr9 hbk9
        have HO9 := hide (ho9.congr (G := fun t => F (t * d + i)) (fun t ht => by
          by_cases e : t < cntL d j i
          · rw [if_pos e]
          · rw [if_neg e, show t = j / d by rw [← HCA.out]; omega]; exact HFJ.out.symm))
        have HGR := hide hgr9
        have HBK := hide hbk9
        obtain ⟨A9, c9, rfl, -, -⟩ := ownGaus_form HO9.out
        replace HB := hide (HB.out.trans (hb9.mono hwg))
        clear ho9 hb9 hgr9 hbk9 HP9
        refine hK.out _ _ (HXP.out _ HB.out) (fun hHeld => ?_)
        clear hK K'
        try simp only [Act.put, List.setIfInBounds_toArray, List.set_cons_zero, List.set_cons_succ]
        refine wpAnyH_take (i := 16) (oi := ⟨some 63, _, _, _, _, _⟩) (v := ?_) rfl (by kernel_rfl) (by kernel_rfl) (by kernel_rfl) (fun _ _ _ h => h) (Or.inl ⟨by rfl, ?_⟩) (by assumption) ?_
        rotate_left
        · (intro w' hSw; (try dsimp only at hSw); go_simp <;> (with_reducible rfl))
        try simp only [Act.put, List.setIfInBounds_toArray, List.set_cons_zero, List.set_cons_succ]
        refine wpAnyH_ready (rs := [17]) (by kernel_rfl) (by simp) ?_
        refine AllReadyH.cons (o := ⟨none, _, _, _, _, _⟩) rfl (fun K' hK => ?_) AllReadyH.nil
        obtain ⟨y0, f0, hgb⟩ := HP.out.midcell hid HGR.out
        go_simp
        clear y0 f0 hgb
        have HP2 := hide ((HP.out.appended hid HO9.out HGR.out HBK.out).congr (V' := fun r => if r = i then (.slice A9 (cntL d j i + 1) c9) else V r) (L' := fun r => cntL d (j + 1) r) (F' := fun r t => F (t * d + r)) (fun r hr => ⟨rfl, cnt_row (HCN.out r hr), fun t _ => row_F r i t⟩))
        replace HB := hide (HB.out.setCell (p := ⟨gl, i, none⟩) hwg (.slice A9 (cntL d j i + 1) c9))
        obtain ⟨w_14, hw_14⟩ : ∃ z : World, w_13.setCell ⟨gl, i, none⟩ (.slice A9 (cntL d j i + 1) c9) = z := ⟨_, rfl⟩
        rw [hw_14] at HP2 HB ⊢
        clear hw_14 HP
        refine hK.out _ _ (HXP.out _ HB.out) (fun hHeld => ?_)
        clear hK K'
        try simp only [Act.put, List.setIfInBounds_toArray, List.set_cons_zero, List.set_cons_succ]
        refine wpAnyH_done (by kernel_rfl) ?_ _
        clear hHeld
        go_wp2_with fail
        go_roundw
        case rel => exact ⟨j + 1, _, by omega, by go_num, HP2, HB⟩
        case measure => simp [Go.RowKit.intOf]; omega
end Go.Proofs.Ytceohaeebdhmjaa
/- Unlayered of the code and of the reference. -/
namespace Go.Proofs.Ytceohaeebdhmjaa
open Go Go.RowKit Go.Lib
/-- The symbols of n layers in their order. -/
def unlF (n : Nat) (F : Nat → Nat → Gau) (i : Nat) : Gau := F (i % n) (i / n)
theorem MatsAt.lenL {w : World} {lo n m : Nat} {A : Option Addr} {L : Nat → Nat} {F : Nat → Nat → Gau} (h : MatsAt w lo A n L F) (e : ∀ i, i < n → L i = m) : MatsAt w lo A n (fun _ => m) F := fun i hi => by
  obtain ⟨b, o, Ai, ci, e1, h1, h2, h3, h4, h5, h6⟩ := h i hi
  rw [e i hi] at h3 h4 h6
  exact ⟨b, o, Ai, ci, e1, h1, h2, h3, h4, h5, h6⟩
theorem unlF_at {n : Nat} (F : Nat → Nat → Gau) (i k : Nat) (hk : k < n) (h4 : n ≤ 4) : unlF n F (i * n + k) = F k i := by
  unfold unlF
  have h1 : (i * n + k) % n = k ∧ (i * n + k) / n = i := by
    obtain rfl | rfl | rfl | rfl : n = 1 ∨ n = 2 ∨ n = 3 ∨ n = 4 := by omega
    all_goals omega
  rw [h1.1, h1.2]
def fillU (U : Nat → Gau) (j i : Nat) : Gau := if i < j then U i else Gau.zero
theorem fillU_put (U : Nat → Gau) (j : Nat) : setGau (fillU U j) j (U j) = fillU U (j + 1) := by
  funext i
  unfold setGau fillU
  by_cases e : i = j
  · subst e; rw [if_pos rfl, if_pos (by omega)]
  · rw [if_neg e]
    by_cases h : i < j
    · rw [if_pos h, if_pos (by omega)]
    · rw [if_neg h, if_neg (by omega)]
set_option maxHeartbeats 16000000 in
set_option maxRecDepth 100000 in
theorem Unlayered_any (A : Option Addr) (n c : Nat) (L : Nat → Nat) (F : Nat → Nat → Gau) (w : World) (hn : n ≤ 100000) (hL : ∀ i, i < n → L i ≤ 100000) (hI : MatsAt w 0 A n L F) :
    Calls Try.prog 12 #[.slice A n c] w fun e w' => ∃ v, e = .returned (.tuple #[v, .int .i64 (laysE n L F)]) ∧ ((laysE n L F = 0 → OwnGaus w' w.heap.size v (n * L 0) (unlF n F)) ∧ (laysE n L F ≠ 0 → v = .slice none 0 0)) ∧ Below w.heap.size w w' := by
  have HLE := hide (fun W h => layersError_any A n c L F W hn hL h)
  have HLZ := hide (fun h : laysE n L F = 0 => laysE_zero h)
  have HI := hide hI
  obtain ⟨E, hE⟩ : ∃ z, laysE n L F = z := ⟨_, rfl⟩
  simp only [hE] at HLE HLZ ⊢
  clear hE hI hL
  by_cases hz : E = 0
  case neg =>
    have HNE := hide hz
    have ts : (E != 0) = true := by simpa using hz
    clear HLZ hz
    go_enter Try.func12, Try.ntmps12
    go_wp2_with fail
    refine (HLE.out _ HI.out).mono ?_
    rintro e_ w1 ⟨rfl, hb1⟩
    go_wp2_with fail
    go_ret2
    exact ⟨_, rfl, ⟨fun h => absurd h HNE.out, fun _ => rfl⟩, hb1⟩
  subst hz
  have hok := HLZ.out rfl
  have hn1 := hok.n1
  have hn4 := hok.n4
  have hq1 := hok.q1
  have hq9 := hok.q9
  have HLN := hide hok.len
  obtain ⟨b, bo, A0, c0, rfl, -, hbl, y0, -, -, -⟩ := HI.out 0 (by omega)
  simp only [Nat.add_zero] at y0
  obtain ⟨q, hq⟩ : ∃ z, L 0 = z := ⟨_, rfl⟩
  rw [hq] at y0 hq1 hq9 HLN ⊢
  skip
  have hN9 : n * q ≤ 800 := Nat.mul_le_mul hn4 hq9
  have HNQ := hide (show ∀ j, j < n * q → j / n < q from fun j hj => Nat.div_lt_of_lt_mul hj)
  have hnz : (n : Int) * (q : Int) = ((n * q : Nat) : Int) := by push_cast; rfl
  obtain ⟨N, hN⟩ : ∃ z, n * q = z := ⟨_, rfl⟩
  simp only [hN] at hnz hN9 HNQ ⊢
  have qn : IntKind.i64.wrap ((n : Int) * (q : Int)) = (N : Int) := by rw [hnz]; exact IntWalk.i64_in _ (by omega)
  have hmk := make_gaus N (by omega)
  have HY0 := hide (fun W (h : Below w.heap.size w W) => bcellW h y0)
  clear HLZ hok hq hN y0 hnz
  have HMR := hide (show ∀ W, Below w.heap.size w W → MatsAt W 0 (some ⟨b, bo, none⟩) n (fun _ => q) F from fun W h => fun i hi => by
    obtain ⟨b2, o2, Ai, ci, e1, h1, h2, h3, h4, h5, h6⟩ := (HI.out.below h) i hi
    rw [HLN.out i hi] at h3 h4 h6
    exact ⟨b2, o2, Ai, ci, e1, h1, h2, h3, h4, h5, h6⟩)
  obtain ⟨U, hU⟩ : ∃ z, unlF n F = z := ⟨_, rfl⟩
  have HUD := hide (fun j => (show U j = F (j % n) (j / n) by rw [← hU]; rfl))
  rw [hU]
  clear hU
  go_enter Try.func12, Try.ntmps12
  go_wp2_with fail
  refine (HLE.out _ HI.out).mono ?_
  rintro e_ w1 ⟨rfl, hb1⟩
  have HB := hide hb1
  clear hb1 HLE
  have y0 := HY0.out _ HB.out
  go_upto_region 5 with fail
  obtain ⟨gs, hgs⟩ : ∃ z, w1.heap.size = z := ⟨_, rfl⟩
  have hwg : w.heap.size ≤ gs := by rw [← hgs]; exact HB.out.size
  obtain ⟨w2, hw2⟩ : ∃ z : World, z = w1.alloc (.cells (madeCells #[.int .i64 0, .int .i64 0] (N * 2)) 43) := ⟨_, rfl⟩
  simp only [hgs]
  try rw [← hw2]
  have HO := hide (show OwnGaus w2 w.heap.size (.slice (some ⟨gs, 0, none⟩) N N) N (fillU U 0) from by
    have h9 := OwnGaus.made w1 w.heap.size gs N (by rw [hgs]; exact hwg) hgs.symm (by unfold maxLen; omega)
    rw [← hw2] at h9
    exact h9.congr fun j _ => rfl)
  replace HB := hide (show Below w.heap.size w w2 by rw [hw2]; exact HB.out.alloc HB.out.size _)
  clear hw2 hmk y0 qn hgs
  go_wp2_with fail
  go_loopw [6, 22] (fun _ z wr => ∃ j : Nat, j ≤ N ∧ z = .int .i64 (j : Int) ∧ Hid (OwnGaus wr w.heap.size (.slice (some ⟨gs, 0, none⟩) N N) N (fillU U j)) ∧ Hid (Below w.heap.size w wr)) (fun _ z _ => N - (Go.RowKit.intOf z).toNat)
  case atStart => exact ⟨0, Nat.zero_le _, rfl, HO, HB⟩
  case round =>
    clear HO HB
    obtain ⟨j, hj, rfl, HO, HB⟩ := hrel
    obtain ⟨wA, rfl⟩ : ∃ x : World, x = wr := ⟨_, rfl⟩
    by_cases hlt : j < N
    case neg =>
      obtain rfl : N = j := by omega
      have hltz : ¬ (N : Int) < (N : Int) := by omega
      have HO2 := hide (HO.out.congr (G := U) fun i hi => if_pos hi)
      clear HO HMR HUD HNQ HI HY0
      go_wp2_with fail
      go_ret2
      first | exact ⟨_, rfl, HO2.out, HB.out⟩ | exact ⟨_, rfl, ⟨fun _ => HO2.out, fun h => absurd rfl h⟩, HB.out⟩
    have hltz : (j : Int) < (N : Int) := by omega
    have htq := HNQ.out j hlt
    obtain ⟨r, hr⟩ : ∃ z, j % n = z := ⟨_, rfl⟩
    obtain ⟨t, ht⟩ : ∃ z, j / n = z := ⟨_, rfl⟩
    rw [ht] at htq
    have hrn : r < n := by rw [← hr]; exact Nat.mod_lt _ (by omega)
    have hrz : (r : Int) < (n : Int) := by omega
    have htz : (t : Int) < (q : Int) := by omega
    have hjr : (j : Int).tmod (n : Int) = (r : Int) := by rw [Int.tmod_eq_emod_of_nonneg (by omega), ← hr]; push_cast; rfl
    have hjt : (j : Int).tdiv (n : Int) = (t : Int) := by rw [Int.tdiv_eq_ediv_of_nonneg (by omega), ← ht]; push_cast; rfl
    have hn0 : ¬ (n : Int) = 0 := by omega
    have hn0n : ¬ n = 0 := by omega
    have hwt : IntKind.i64.wrap (t : Int) = (t : Int) := IntWalk.i64_in _ (by omega)
    have hud := HUD.out j
    rw [hr, ht] at hud
    obtain ⟨Ar, cr, y1, hc1, hc2, hRow, -, -⟩ := mat_row (HMR.out w (Below.refl _ _)) hrn
    obtain ⟨br, or_, rfl, -, -⟩ := gaus_some hRow (by omega)
    obtain ⟨z1, z2⟩ := gaus_at hRow htq
    obtain ⟨x, hx⟩ : ∃ z, F r t = z := ⟨_, rfl⟩
    rw [hx] at z1 z2 hud
    have HPU := hide (fun W (h : OwnGaus W w.heap.size (.slice (some ⟨gs, 0, none⟩) N N) N (fillU U j)) => h.put j x)
    rw [← hud, fillU_put, hud] at HPU
    obtain ⟨xr, hxr⟩ : ∃ z, x.re = z := ⟨_, rfl⟩
    obtain ⟨xi, hxi⟩ : ∃ z, x.im = z := ⟨_, rfl⟩
    simp only [hxr, hxi] at HPU
    rw [hxr] at z1
    rw [hxi] at z2
    clear hxr hxi hx hud hRow hr ht
    have HYC := hide (fun W (h : Below w.heap.size w W) => (⟨bcellW h y1, bcellW h z1, bcellW h z2⟩ : W.cell? ⟨b, bo + r, none⟩ = some (.slice (some ⟨br, or_, none⟩) q cr) ∧ W.cell? ⟨br, or_ + t * 2, none⟩ = some (.int .i64 xr) ∧ W.cell? ⟨br, or_ + t * 2 + 1, none⟩ = some (.int .i64 xi)))
    clear y1 z1 z2
    go_upto_region 8 with fail
    refine wp_region_held_drew (S := fun w' => w'.cell? ⟨b, bo + r, none⟩ = some (.slice (some ⟨br, or_, none⟩) q cr) ∧ w'.cell? ⟨br, or_ + t * 2, none⟩ = some (.int .i64 xr) ∧ w'.cell? ⟨br, or_ + t * 2 + 1, none⟩ = some (.int .i64 xi)) (by kernel_rfl) (HYC.out _ HB.out.drew) (fun hHeld => ?_)
    obtain ⟨w_1, hw_1⟩ : ∃ q : World, q = wA.drew := ⟨_, rfl⟩
    rw [← hw_1] at hHeld ⊢
    have hc_1 : Below wA.heap.size wA w_1 := by rw [hw_1]; exact (Below.refl _ _).drew
    clear hw_1
    replace HO := hide (HO.out.below hc_1)
    replace HB := hide (HB.out.trans (hc_1.mono HB.out.size))
    clear hc_1
    refine wpAnyH_take (i := 0) (oi := ⟨some 25, _, _, _, _, _⟩) (v := ?_) rfl (by kernel_rfl) (by kernel_rfl) (by kernel_rfl) (fun _ _ _ h => h) (Or.inl ⟨by rfl, ?_⟩) (by assumption) ?_
    rotate_left
    · (intro w' hSw; (try dsimp only at hSw); go_simp <;> (with_reducible rfl))
    try simp only [Act.put, List.setIfInBounds_toArray, List.set_cons_zero, List.set_cons_succ]
    refine wpAnyH_take (i := 1) (oi := ⟨some 26, _, _, _, _, _⟩) (v := ?_) rfl (by kernel_rfl) (by kernel_rfl) (by kernel_rfl) (fun _ _ _ h => h) (Or.inl ⟨by rfl, ?_⟩) (by assumption) ?_
    rotate_left
    · (intro w' hSw; (try dsimp only at hSw); go_simp <;> (with_reducible rfl))
    try simp only [Act.put, List.setIfInBounds_toArray, List.set_cons_zero, List.set_cons_succ]
    refine wpAnyH_take (i := 2) (oi := ⟨some 27, _, _, _, _, _⟩) (v := ?_) rfl (by kernel_rfl) (by kernel_rfl) (by kernel_rfl) (fun _ _ _ h => h) (Or.inl ⟨by rfl, ?_⟩) (by assumption) ?_
    rotate_left
    · (intro w' hSw; (try dsimp only at hSw); go_simp <;> (with_reducible rfl))
    try simp only [Act.put, List.setIfInBounds_toArray, List.set_cons_zero, List.set_cons_succ]
    refine wpAnyH_take (i := 3) (oi := ⟨some 28, _, _, _, _, _⟩) (v := ?_) rfl (by kernel_rfl) (by kernel_rfl) (by kernel_rfl) (fun _ _ _ h => h) (Or.inl ⟨by rfl, ?_⟩) (by assumption) ?_
    rotate_left
    · (intro w' hSw; (try dsimp only at hSw); go_simp <;> (with_reducible rfl))
    try simp only [Act.put, List.setIfInBounds_toArray, List.set_cons_zero, List.set_cons_succ]
    refine wpAnyH_take (i := 4) (oi := ⟨some 29, _, _, _, _, _⟩) (v := ?_) rfl (by kernel_rfl) (by kernel_rfl) (by kernel_rfl) (fun _ _ _ h => h) (Or.inl ⟨by rfl, ?_⟩) (by assumption) ?_
    rotate_left
    · (intro w' hSw; (try dsimp only at hSw); go_simp <;> (with_reducible rfl))
    try simp only [Act.put, List.setIfInBounds_toArray, List.set_cons_zero, List.set_cons_succ]
    refine wpAnyH_take (i := 5) (oi := ⟨some 30, _, _, _, _, _⟩) (v := ?_) rfl (by kernel_rfl) (by kernel_rfl) (by kernel_rfl) (fun _ _ _ h => h) (Or.inl ⟨by rfl, ?_⟩) (by assumption) ?_
    rotate_left
    · (intro w' hSw; (try dsimp only at hSw); go_simp <;> (with_reducible rfl))
    try simp only [Act.put, List.setIfInBounds_toArray, List.set_cons_zero, List.set_cons_succ]
    refine wpAnyH_take (i := 6) (oi := ⟨some 31, _, _, _, _, _⟩) (v := ?_) rfl (by kernel_rfl) (by kernel_rfl) (by kernel_rfl) (fun _ _ _ h => h) (Or.inl ⟨by rfl, ?_⟩) (by assumption) ?_
    rotate_left
    · (intro w' hSw; (try dsimp only at hSw); go_simp <;> (with_reducible rfl))
    try simp only [Act.put, List.setIfInBounds_toArray, List.set_cons_zero, List.set_cons_succ]
    refine wpAnyH_take (i := 7) (oi := ⟨some 32, _, _, _, _, _⟩) (v := ?_) rfl (by kernel_rfl) (by kernel_rfl) (by kernel_rfl) (fun _ _ _ h => h) (Or.inl ⟨by rfl, ?_⟩) (by assumption) ?_
    rotate_left
    · (intro w' hSw; (try dsimp only at hSw); go_simp <;> (with_reducible rfl))
    try simp only [Act.put, List.setIfInBounds_toArray, List.set_cons_zero, List.set_cons_succ]
    refine wpAnyH_take (i := 8) (oi := ⟨some 33, _, _, _, _, _⟩) (v := ?_) rfl (by kernel_rfl) (by kernel_rfl) (by kernel_rfl) (fun _ _ _ h => h) (Or.inl ⟨by rfl, ?_⟩) (by assumption) ?_
    rotate_left
    · (intro w' hSw; (try dsimp only at hSw); go_simp <;> (with_reducible rfl))
    try simp only [Act.put, List.setIfInBounds_toArray, List.set_cons_zero, List.set_cons_succ]
    refine wpAnyH_take (i := 9) (oi := ⟨some 34, _, _, _, _, _⟩) (v := ?_) rfl (by kernel_rfl) (by kernel_rfl) (by kernel_rfl) (fun _ _ _ h => h) (Or.inl ⟨by rfl, ?_⟩) (by assumption) ?_
    rotate_left
    · (intro w' hSw; (try dsimp only at hSw); go_simp <;> (with_reducible rfl))
    try simp only [Act.put, List.setIfInBounds_toArray, List.set_cons_zero, List.set_cons_succ]
    refine wpAnyH_take (i := 10) (oi := ⟨some 35, _, _, _, _, _⟩) (v := ?_) rfl (by kernel_rfl) (by kernel_rfl) (by kernel_rfl) (fun _ _ _ h => h) (Or.inl ⟨by rfl, ?_⟩) (by assumption) ?_
    rotate_left
    · (intro w' hSw; (try dsimp only at hSw); go_simp <;> (with_reducible rfl))
    try simp only [Act.put, List.setIfInBounds_toArray, List.set_cons_zero, List.set_cons_succ]
    refine wpAnyH_take (i := 11) (oi := ⟨some 36, _, _, _, _, _⟩) (v := ?_) rfl (by kernel_rfl) (by kernel_rfl) (by kernel_rfl) (fun _ _ _ h => h) (Or.inl ⟨by rfl, ?_⟩) (by assumption) ?_
    rotate_left
    · (intro w' hSw; (try dsimp only at hSw); go_simp <;> (with_reducible rfl))
    try simp only [Act.put, List.setIfInBounds_toArray, List.set_cons_zero, List.set_cons_succ]
    refine wpAnyH_take (i := 12) (oi := ⟨some 37, _, _, _, _, _⟩) (v := ?_) rfl (by kernel_rfl) (by kernel_rfl) (by kernel_rfl) (fun _ _ _ h => h) (Or.inl ⟨by rfl, ?_⟩) (by assumption) ?_
    rotate_left
    · (intro w' hSw; (try dsimp only at hSw); go_simp <;> (with_reducible rfl))
    try simp only [Act.put, List.setIfInBounds_toArray, List.set_cons_zero, List.set_cons_succ]
    refine wpAnyH_take (i := 13) (oi := ⟨some 38, _, _, _, _, _⟩) (v := ?_) rfl (by kernel_rfl) (by kernel_rfl) (by kernel_rfl) (fun _ _ _ h => h) (Or.inl ⟨by rfl, ?_⟩) (by assumption) ?_
    rotate_left
    · (intro w' hSw; (try dsimp only at hSw); go_simp <;> (with_reducible rfl))
    try simp only [Act.put, List.setIfInBounds_toArray, List.set_cons_zero, List.set_cons_succ]
    refine wpAnyH_take (i := 14) (oi := ⟨some 39, _, _, _, _, _⟩) (v := ?_) rfl (by kernel_rfl) (by kernel_rfl) (by kernel_rfl) (fun _ _ _ h => h) (Or.inl ⟨by rfl, ?_⟩) (by assumption) ?_
    rotate_left
    · (intro w' hSw; (try dsimp only at hSw); go_simp <;> (with_reducible rfl))
    try simp only [Act.put, List.setIfInBounds_toArray, List.set_cons_zero, List.set_cons_succ]
    refine wpAnyH_take (i := 15) (oi := ⟨some 40, _, _, _, _, _⟩) (v := ?_) rfl (by kernel_rfl) (by kernel_rfl) (by kernel_rfl) (fun _ _ _ h => h) (Or.inl ⟨by rfl, ?_⟩) (by assumption) ?_
    rotate_left
    · (intro w' hSw; (try dsimp only at hSw); go_simp <;> (with_reducible rfl))
    try simp only [Act.put, List.setIfInBounds_toArray, List.set_cons_zero, List.set_cons_succ]
    refine wpAnyH_ready (rs := [16]) (by kernel_rfl) (by simp) ?_
    refine AllReadyH.cons (o := ⟨none, _, _, _, _, _⟩) rfl (fun K' hK => ?_) AllReadyH.nil
    obtain ⟨f1, f2⟩ := HO.out.frozen2 j
    have hgb := (HO.out.lt).2
    obtain ⟨u1, u2⟩ := HO.out.cells hlt
    go_simp
    clear f1 f2 hgb u1 u2
    have HO2 := hide (HPU.out _ HO.out)
    replace HB := hide ((HB.out.setCell (p := ⟨gs, j * 2, none⟩) hwg (.int .i64 xr)).setCell (p := ⟨gs, j * 2 + 1, none⟩) hwg (.int .i64 xi))
    obtain ⟨w_2, hw_2⟩ : ∃ z : World, (w_1.setCell ⟨gs, j * 2, none⟩ (.int .i64 xr)).setCell ⟨gs, j * 2 + 1, none⟩ (.int .i64 xi) = z := ⟨_, rfl⟩
    rw [hw_2] at HO2 HB ⊢
    clear hw_2 HO
    refine hK.out _ _ (HYC.out _ HB.out) (fun hHeld => ?_)
    clear hK K'
    try simp only [Act.put, List.setIfInBounds_toArray, List.set_cons_zero, List.set_cons_succ]
    refine wpAnyH_done (by kernel_rfl) ?_ _
    clear hHeld HYC
    go_wp2_with fail
    go_roundw
    case rel => exact ⟨j + 1, by omega, by go_num, HO2, HB⟩
    case measure => simp [Go.RowKit.intOf]; omega
set_option maxHeartbeats 16000000 in
set_option maxRecDepth 100000 in
theorem UnlayeredR_any (A : Option Addr) (n c : Nat) (L : Nat → Nat) (F : Nat → Nat → Gau) (w : World) (hz : laysE n L F = 0) (hI : MatsAt w 0 A n L F) :
    Calls Try.prog 16 #[.slice A n c] w fun e w' => ∃ v, e = .returned v ∧ OwnGaus w' w.heap.size v (n * L 0) (unlF n F) ∧ Below w.heap.size w w' := by
  have hok := laysE_zero hz
  have hn1 := hok.n1
  have hn4 := hok.n4
  have hq1 := hok.q1
  have hq9 := hok.q9
  obtain ⟨b, bo, A0, c0, rfl, -, hbl, y0, -, -, -⟩ := hI 0 (by omega)
  simp only [Nat.add_zero] at y0
  obtain ⟨q, hq⟩ : ∃ z, L 0 = z := ⟨_, rfl⟩
  have hlen := hok.len
  rw [hq] at y0 hq1 hq9 hlen ⊢
  have HY0 := hide (fun W (h : Below w.heap.size w W) => bcellW h y0)
  have HMR := hide (hI.lenL hlen)
  have HUD := hide (fun i k (hk : k < n) => unlF_at F i k hk hn4)
  obtain ⟨U, hU⟩ : ∃ z, unlF n F = z := ⟨_, rfl⟩
  rw [hU]
  simp only [hU] at HUD
  clear hU hok hz hI hlen hq y0
  go_enter Try.func16, Try.ntmps16
  go_wp2_with fail
  go_loopw [3, 4, 5] (fun v z _ wr => ∃ i m : Nat, i ≤ q ∧ z = .int .i64 (i : Int) ∧ Hid (m = i * n) ∧ Hid (OwnGaus wr w.heap.size v m U) ∧ Hid (Below w.heap.size w wr)) (fun _ z _ _ => q - (Go.RowKit.intOf z).toNat)
  case atStart => exact ⟨0, 0, Nat.zero_le _, rfl, hide (Nat.zero_mul n).symm, hide (OwnGaus.nil_ _ _ _), hide (Below.refl _ _)⟩
  case round =>
    obtain ⟨i, m, hi, rfl, HM, HO, HB⟩ := hrel
    obtain ⟨wA, rfl⟩ : ∃ x : World, x = wr := ⟨_, rfl⟩
    have y0 := HY0.out _ HB.out
    obtain ⟨As, cs, rfl, -, -⟩ := ownGaus_form HO.out
    by_cases hlt : i < q
    case neg =>
      obtain rfl : q = i := by omega
      have hltz : ¬ (q : Int) < (q : Int) := by omega
      have HO2 := hide (show OwnGaus wA w.heap.size (.slice As m cs) (n * q) U from by have h9 := HO.out; rw [HM.out, Nat.mul_comm] at h9; rw [HM.out, Nat.mul_comm]; exact h9)
      clear HO HMR HUD
      go_wp2_with fail
      go_ret
      first | exact ⟨_, rfl, HO2.out, HB.out⟩ | exact ⟨HO2.out, HB.out⟩
    have hltz : (i : Int) < (q : Int) := by omega
    have hm9 : m ≤ 800 := by have h9 := HM.out; have h8 : i * n ≤ 200 * 4 := Nat.mul_le_mul (by omega) hn4; omega
    go_wp2_with fail
    clear y0
    go_loopw [3, 5] (fun v z wr => ∃ k : Nat, k ≤ n ∧ z = .int .i64 (k : Int) ∧ Hid (OwnGaus wr w.heap.size v (m + k) U) ∧ Hid (Below w.heap.size w wr)) (fun _ z _ => n - (Go.RowKit.intOf z).toNat)
    case atStart => exact ⟨0, Nat.zero_le _, rfl, HO, HB⟩
    case round =>
      clear HO HB
      obtain ⟨k, hk, rfl, HO, HB⟩ := hrel
      obtain ⟨wB, rfl⟩ : ∃ x : World, x = wr := ⟨_, rfl⟩
      obtain ⟨As, cs, rfl, -, -⟩ := ownGaus_form HO.out
      by_cases hltk : k < n
      case neg =>
        obtain rfl : n = k := by omega
        have hltkz : ¬ (n : Int) < (n : Int) := by omega
        have HM2 := hide (show m + n = (i + 1) * n by rw [HM.out, Nat.add_mul, Nat.one_mul])
        clear HMR HUD
        go_wp2_with fail
        go_roundw
        case rel => exact ⟨i + 1, m + n, by omega, by go_num, HM2, HO, HB⟩
        case measure => simp [Go.RowKit.intOf]; omega
      have hltkz : (k : Int) < (n : Int) := by omega
      obtain ⟨Ar, cr, y1, hc1, hc2, hRow, -, -⟩ := mat_row (HMR.out.below HB.out) hltk
      obtain ⟨br, or_, rfl, -, -⟩ := gaus_some hRow (by omega)
      obtain ⟨z1, z2⟩ := gaus_at hRow hlt
      have hud := HUD.out i k hltk
      rw [← HM.out] at hud
      obtain ⟨x, hx⟩ : ∃ z, F k i = z := ⟨_, rfl⟩
      rw [hx] at z1 z2 hud
      have HX := hide hud
      clear hud hx hRow
      go_wp2_with (at_builtin; refine wpList_append_gaus _ rfl (.tmp 20) (.tmp 28) rfl w.heap.size 0 (.slice As (m + k) cs) (m + k) _ rfl (HO.out.alloc _) (some ⟨wB.heap.size, 0, none⟩) 1 1 (fun _ => x) rfl (GausAt.one (Box.made rfl)) (by omega) (by have := HB.out.size; simp; omega) ?_; intro v' w' g1 g2; obtain ⟨D, d, rfl, -, -⟩ := ownGaus_form g1)
      have HO2 := hide (g1.congr (G := U) (fun r hr => by
        unfold catG
        by_cases e : r < m + k
        · rw [if_pos e]
        · rw [if_neg e, show r = m + k by omega]; exact HX.out.symm))
      have HB2 := hide ((HB.out.alloc HB.out.size (.cells #[.int .i64 x.re, .int .i64 x.im] 43)).trans g2)
      clear g1 g2 HO HB
      go_roundw
      case rel => exact ⟨k + 1, by omega, by go_num, HO2, HB2⟩
      case measure => simp [Go.RowKit.intOf]; omega
end Go.Proofs.Ytceohaeebdhmjaa
/- The walk of SymbolLayers. -/
namespace Go.Proofs.Ytceohaeebdhmjaa
open Go Go.RowKit Go.Lib Ieee
theorem laysE_okL {n q : Nat} {F : Nat → Nat → Gau} (h1 : 1 ≤ n) (h4 : n ≤ 4) (q1 : 1 ≤ q) (q9 : q ≤ 200) (h : ∀ r c, r < n → c < q → (F r c).Within 100000000) : laysE n (fun _ => q) F = 0 := by
  unfold laysE
  rw [if_neg (by omega), if_neg (by omega)]
  have hz : ∀ i, i < n → layE q q (F i) = 0 := fun i hi => by
    unfold layE
    rw [if_pos (symsE_ok (by omega) q9 (fun c hc => h i c hi hc)), if_pos rfl]
  have : ∀ m, m ≤ n → badE (fun i => layE q q (F i)) m = 0 := fun m => by
    induction m with
    | zero => exact fun _ => rfl
    | succ m ih => exact fun hm => (badE_succ (ih (by omega))).trans (hz m (by omega))
  exact this n (Nat.le_refl n)
theorem lay_lt {r t d q : Nat} (hr : r < d) (ht : t < q) : t * d + r < d * q := by
  have h1 : (t + 1) * d ≤ q * d := Nat.mul_le_mul_right d ht
  rw [Nat.add_mul, Nat.one_mul] at h1
  rw [Nat.mul_comm d q]
  omega
theorem same_gaus {w : World} {A C : Option Addr} {n c d : Nat} {F G : Nat → Gau} (hn : n ≤ 100000) (h1 : GausAt w 0 A n F) (h2 : GausAt w 0 C n G) (he : ∀ j, j < n → F j = G j) :
    Calls Try.prog 15 #[.slice A n c, .slice C n d] w fun e w' => e = .returned (.bool true) ∧ Below w.heap.size w w' := by
  have h := gausses_any A C n n c d F G w hn hn h1 h2
  rw [gausB_iff.2 ⟨rfl, he⟩] at h
  exact h.mono fun e w' ⟨h1, q, h2⟩ => ⟨h1, by rw [h2]; exact Go.below_drewN (Below.refl _ _) _⟩
set_option maxHeartbeats 32000000 in
set_option maxRecDepth 100000 in
theorem symbolLayers_walk (k : Int) (A C : Option Addr) (n m c cc : Nat) (F : Nat → Gau) (M : Nat → Nat) (Z : Nat → Nat → Gau) (w : World) (hI : GausAt w 0 A n F) (hC : MatsAt w 0 C m M Z) :
    Calls Try.prog 3 #[.int .i64 k, .slice A n c, .slice C m cc] w fun e w' => e = .returned (.bool true) ∧ Below w.heap.size w w' := by
  have HFF := hide hI
  have HCC := hide hC
  have HSC := hide (fun W h => smallS_any C m cc M Z W h)
  have HB := hide (Below.refl w.heap.size w)
  clear hI hC
  go_enter Try.func3, Try.ntmps3
  go_wp2_with fail
  refine (awakeS_any _).mono ?_
  rintro e_ v1 ⟨rfl, hb1⟩
  replace HFF := hide (HFF.out.below hb1)
  replace HCC := hide (HCC.out.below hb1)
  replace HB := hide (HB.out.trans (hb1.mono HB.out.size))
  clear hb1
  by_cases hn : n ≤ 24
  case neg =>
    have tn : (24 : Int) < (n : Int) := by omega
    clear hn
    go_wp2_with fail
    go_ret
    exact ⟨rfl, HB.out⟩
  have tn : ¬ (24 : Int) < (n : Int) := by omega
  go_wp2_with fail
  by_cases sc : smallB m M = true
  case neg =>
    rw [Bool.not_eq_true] at sc
    simp only [sc] at HSC
    refine (HSC.out _ HCC.out).mono ?_
    rintro e_ v_ ⟨rfl, rfl⟩
    go_wp2_with fail
    go_ret
    exact ⟨rfl, HB.out⟩
  simp only [sc] at HSC
  refine (HSC.out _ HCC.out).mono ?_
  rintro e_ v_ ⟨rfl, rfl⟩
  go_wp2_with fail
  clear HSC
  obtain ⟨sc1, sc2⟩ := smallB_iff.1 sc
  have hM : ∀ i, i < m → M i ≤ 100000 := fun i hi => by have := sc2 i hi; omega
  have HCA := hide (fun W h => copyAll_any C m cc M Z W (by omega) hM h)
  have HUN := hide (fun A c W h => Unlayered_any A m c M Z W (by omega) hM h)
  have HRL := hide (fun W h => LayersErrR_any C m cc M Z W (by omega) hM h)
  have HUR := hide (fun W h0 h => UnlayeredR_any C m cc M Z W h0 h)
  have HLZ := hide (fun h : laysE m M Z = 0 => (⟨(laysE_zero h).n4, (laysE_zero h).q9⟩ : m ≤ 4 ∧ M 0 ≤ 200))
  obtain ⟨E, hE⟩ : ∃ z, laysE m M Z = z := ⟨_, rfl⟩
  simp only [hE] at HUN HRL HUR HLZ
  obtain ⟨q0, hq0⟩ : ∃ z, M 0 = z := ⟨_, rfl⟩
  simp only [hq0] at HUN HUR HLZ
  obtain ⟨U, hU⟩ : ∃ z, unlF m Z = z := ⟨_, rfl⟩
  simp only [hU] at HUN HUR
  clear hE hq0 hU sc sc2 hM
  refine (HCA.out _ HCC.out).mono ?_
  rintro e_ v2 ⟨y1, rfl, ho1, hb2⟩
  obtain ⟨A1, c1, rfl, -, -, hm1⟩ := ho1.form
  replace HFF := hide (HFF.out.below hb2)
  replace HCC := hide (HCC.out.below hb2)
  replace HB := hide (HB.out.trans (hb2.mono HB.out.size))
  clear hb2
  have HM1 := hide (hm1.weak (Nat.zero_le _))
  clear hm1 ho1 HCA
  go_wp2_with fail
  refine (HUN.out A1 c1 _ HM1.out).mono ?_
  rintro e_ v3 ⟨vu, rfl, hu, hb3⟩
  replace HFF := hide (HFF.out.below hb3)
  replace HCC := hide (HCC.out.below hb3)
  replace HM1 := hide (HM1.out.below hb3)
  replace HB := hide (HB.out.trans (hb3.mono HB.out.size))
  clear hb3
  have HU1 := hide hu.1
  have HU2 := hide hu.2
  clear HUN hu
  clear HM1
  by_cases hz : E = 0
  case neg =>
    obtain rfl := HU2.out hz
    have tz : (E != 0) = true := by simpa using hz
    have tz2 : (E != E) = false := by simp
    have tz3 : (E == 0) = false := by simpa using hz
    clear HU1 HU2 HUR HLZ hz
    go_wp2_with fail
    refine (HRL.out _ HCC.out).mono ?_
    rintro e_ v4 ⟨rfl, hb4⟩
    replace HFF := hide (HFF.out.below hb4)
    replace HCC := hide (HCC.out.below hb4)
    replace HB := hide (HB.out.trans (hb4.mono HB.out.size))
    clear hb4
    go_wp2_with fail
    clear HRL tz tz2 tz3
    by_cases hl : lyrE k n F = 0
    case neg =>
      have HLW := hide (fun A c W h => Layered_wrong k A n c F W (by omega) h hl)
      have HLV := hide (fun W h => LayeredR_wrong k A n c F W (by omega) h hl)
      obtain ⟨E2, hE2⟩ : ∃ z, lyrE k n F = z := ⟨_, rfl⟩
      simp only [hE2] at HLW HLV hl
      have te : (E2 != E2) = false := by simp
      have te2 : (E2 != 0) = true := by simpa using hl
      clear hE2 hl
      refine (copyGaus_own A n c F _ (by omega) HFF.out).mono ?_
      rintro e_ v5 ⟨yg, rfl, hog, hb5⟩
      obtain ⟨Ag, cg, rfl, -, hgg⟩ := ownGaus_form hog
      replace HFF := hide (HFF.out.below hb5)
      replace HCC := hide (HCC.out.below hb5)
      replace HB := hide (HB.out.trans (hb5.mono HB.out.size))
      clear hb5
      have HGG := hide (hgg.weak (Nat.zero_le _))
      clear hgg hog
      go_wp2_with fail
      refine (HLW.out Ag cg _ HGG.out).mono ?_
      rintro e_ v6 ⟨rfl, hb6⟩
      replace HFF := hide (HFF.out.below hb6)
      replace HCC := hide (HCC.out.below hb6)
      replace HGG := hide (HGG.out.below hb6)
      replace HB := hide (HB.out.trans (hb6.mono HB.out.size))
      clear hb6
      go_wp2_with fail
      clear HLW
      clear HGG
      refine (HLV.out _ HFF.out).mono ?_
      rintro e_ v7 ⟨rfl, hb7⟩
      replace HFF := hide (HFF.out.below hb7)
      replace HCC := hide (HCC.out.below hb7)
      replace HB := hide (HB.out.trans (hb7.mono HB.out.size))
      clear hb7
      go_wp2_with fail
      clear HLV
      refine (same_nil none none 0 0 _).mono ?_
      rintro e_ v8 ⟨rfl, hb8⟩
      replace HFF := hide (HFF.out.below hb8)
      replace HCC := hide (HCC.out.below hb8)
      replace HB := hide (HB.out.trans (hb8.mono HB.out.size))
      clear hb8
      go_wp2_with fail
      go_ret
      exact ⟨rfl, HB.out⟩
    obtain ⟨d, q, rfl, h1, h4, q1, q9, hnq, hin⟩ := lyrE_zero hl
    have HLW := hide (fun A c W h => Layered_right d q A n c F W h1 h4 q1 q9 hnq hin h)
    have HLV := hide (fun W h => LayeredR_right d q A n c F W h1 h4 q1 q9 hnq hin h)
    have HNQ := hide hnq
    have HLO := hide (laysE_okL (F := fun i t => F (t * d + i)) h1 h4 q1 q9 (fun r t hr ht => insideB_iff.1 hin _ (by rw [hnq]; exact lay_lt hr ht)))
    have HUA := hide (fun (W : World) (A : Option Addr) (c : Nat) h => Unlayered_any A d c (fun _ => q) (fun i t => F (t * d + i)) W (by omega) (fun _ _ => by omega) h)
    simp only [HLO.out] at HUA
    have HCX := hide (fun W A c h => copyAll_any A d c (fun _ => q) (fun i t => F (t * d + i)) W (by omega) (fun _ _ => by omega) h)
    have HUF := hide (fun j => (show unlF d (fun i t => F (t * d + i)) j = F j by show F (j / d * d + j % d) = F j; rw [at_row]))
    obtain ⟨G, hG⟩ : ∃ z, (fun i t => F (t * d + i)) = z := ⟨_, rfl⟩
    simp only [hG] at HLW HLV HUA HCX HUF
    have te : ((0 : Int) != 0) = false := by decide
    clear hl hin hG hnq HLO
    refine (copyGaus_own A n c F _ (by omega) HFF.out).mono ?_
    rintro e_ v9 ⟨yg, rfl, hog, hb9⟩
    obtain ⟨Ag, cg, rfl, -, hgg⟩ := ownGaus_form hog
    replace HFF := hide (HFF.out.below hb9)
    replace HCC := hide (HCC.out.below hb9)
    replace HB := hide (HB.out.trans (hb9.mono HB.out.size))
    clear hb9
    have HGG := hide (hgg.weak (Nat.zero_le _))
    clear hgg hog
    go_wp2_with fail
    refine (HLW.out Ag cg _ HGG.out).mono ?_
    rintro e_ v10 ⟨vx, Vx, rfl, hox, hb10⟩
    obtain ⟨Ax, cx, rfl, -, -, hmx⟩ := hox.form
    replace HFF := hide (HFF.out.below hb10)
    replace HCC := hide (HCC.out.below hb10)
    replace HGG := hide (HGG.out.below hb10)
    replace HB := hide (HB.out.trans (hb10.mono HB.out.size))
    clear hb10
    have HMx := hide (hmx.weak (Nat.zero_le _))
    clear hmx hox
    clear HLW
    clear HGG
    go_wp2_with fail
    refine (HLV.out _ HFF.out).mono ?_
    rintro e_ v11 ⟨vy, Vy, rfl, hoy, hb11⟩
    obtain ⟨Ay, cy, rfl, -, -, hmy⟩ := hoy.form
    replace HFF := hide (HFF.out.below hb11)
    replace HCC := hide (HCC.out.below hb11)
    replace HMx := hide (HMx.out.below hb11)
    replace HB := hide (HB.out.trans (hb11.mono HB.out.size))
    clear hb11
    have HMy := hide (hmy.weak (Nat.zero_le _))
    clear hmy hoy
    clear HLV
    go_wp2_with fail
    refine (same_got (by omega) (by omega) HMx.out HMy.out).mono ?_
    rintro e_ v12 ⟨rfl, hb12⟩
    replace HFF := hide (HFF.out.below hb12)
    replace HCC := hide (HCC.out.below hb12)
    replace HMx := hide (HMx.out.below hb12)
    replace HMy := hide (HMy.out.below hb12)
    replace HB := hide (HB.out.trans (hb12.mono HB.out.size))
    clear hb12
    go_wp2_with fail
    clear HMy
    refine (HCX.out _ Ax cx HMx.out).mono ?_
    rintro e_ v13 ⟨y2, rfl, ho2, hb13⟩
    obtain ⟨A2, c2, rfl, -, -, hm2⟩ := ho2.form
    replace HFF := hide (HFF.out.below hb13)
    replace HCC := hide (HCC.out.below hb13)
    replace HMx := hide (HMx.out.below hb13)
    replace HB := hide (HB.out.trans (hb13.mono HB.out.size))
    clear hb13
    have HM2 := hide (hm2.weak (Nat.zero_le _))
    clear hm2 ho2 HCX
    clear HMx
    go_wp2_with fail
    refine (HUA.out _ A2 c2 HM2.out).mono ?_
    rintro e_ v14 ⟨vb, rfl, hub, hb14⟩
    obtain ⟨Ab, cb, rfl, -, hgb⟩ := ownGaus_form (hub.1 (by trivial))
    replace HFF := hide (HFF.out.below hb14)
    replace HCC := hide (HCC.out.below hb14)
    replace HM2 := hide (HM2.out.below hb14)
    replace HB := hide (HB.out.trans (hb14.mono HB.out.size))
    clear hb14
    have HGB := hide (hgb.weak (lo' := 0) (Nat.zero_le _))
    clear hgb hub HUA
    clear HM2
    have hnq := HNQ.out
    rw [← hnq] at HGB
    try simp only [← hnq]
    clear hnq
    go_wp2_with fail
    refine (same_gaus (by omega) HGB.out HFF.out (fun j _ => HUF.out j)).mono ?_
    rintro e_ v15 ⟨rfl, hb15⟩
    replace HFF := hide (HFF.out.below hb15)
    replace HCC := hide (HCC.out.below hb15)
    replace HGB := hide (HGB.out.below hb15)
    replace HB := hide (HB.out.trans (hb15.mono HB.out.size))
    clear hb15
    go_wp2_with fail
    go_ret
    exact ⟨rfl, HB.out⟩
  obtain ⟨hm4, hq9⟩ := HLZ.out hz
  obtain ⟨Au, cu, rfl, -, hgu⟩ := ownGaus_form (HU1.out hz)
  have HGU := hide (hgu.weak (lo' := 0) (Nat.zero_le _))
  have hmq : m * q0 ≤ 800 := Nat.mul_le_mul hm4 hq9
  obtain ⟨N, hN⟩ : ∃ z, m * q0 = z := ⟨_, rfl⟩
  simp only [hN] at HGU hmq HUR
  try simp only [hN]
  subst hz
  have tz : ((0 : Int) != 0) = false := by decide
  have tz3 : ((0 : Int) == 0) = true := by decide
  clear HU1 HU2 HLZ hgu hN
  go_wp2_with fail
  refine (HRL.out _ HCC.out).mono ?_
  rintro e_ v16 ⟨rfl, hb16⟩
  replace HFF := hide (HFF.out.below hb16)
  replace HCC := hide (HCC.out.below hb16)
  replace HGU := hide (HGU.out.below hb16)
  replace HB := hide (HB.out.trans (hb16.mono HB.out.size))
  clear hb16
  go_wp2_with fail
  clear HRL
  refine (HUR.out _ (by trivial) HCC.out).mono ?_
  rintro e_ v17 ⟨vr, rfl, hur, hb17⟩
  obtain ⟨Ar, cr, rfl, -, hgr⟩ := ownGaus_form hur
  replace HFF := hide (HFF.out.below hb17)
  replace HCC := hide (HCC.out.below hb17)
  replace HGU := hide (HGU.out.below hb17)
  replace HB := hide (HB.out.trans (hb17.mono HB.out.size))
  clear hb17
  have HGR := hide (hgr.weak (lo' := 0) (Nat.zero_le _))
  clear hgr hur HUR
  go_wp2_with fail
  refine (same_gaus (by omega) HGU.out HGR.out (fun j _ => rfl)).mono ?_
  rintro e_ v18 ⟨rfl, hb18⟩
  replace HFF := hide (HFF.out.below hb18)
  replace HCC := hide (HCC.out.below hb18)
  replace HGU := hide (HGU.out.below hb18)
  replace HGR := hide (HGR.out.below hb18)
  replace HB := hide (HB.out.trans (hb18.mono HB.out.size))
  clear hb18
  go_wp2_with fail
  clear HGU HGR
  clear tz3
  by_cases hl : lyrE k n F = 0
  case neg =>
    have HLW := hide (fun A c W h => Layered_wrong k A n c F W (by omega) h hl)
    have HLV := hide (fun W h => LayeredR_wrong k A n c F W (by omega) h hl)
    obtain ⟨E2, hE2⟩ : ∃ z, lyrE k n F = z := ⟨_, rfl⟩
    simp only [hE2] at HLW HLV hl
    have te : (E2 != E2) = false := by simp
    have te2 : (E2 != 0) = true := by simpa using hl
    clear hE2 hl
    refine (copyGaus_own A n c F _ (by omega) HFF.out).mono ?_
    rintro e_ v19 ⟨yg, rfl, hog, hb19⟩
    obtain ⟨Ag, cg, rfl, -, hgg⟩ := ownGaus_form hog
    replace HFF := hide (HFF.out.below hb19)
    replace HCC := hide (HCC.out.below hb19)
    replace HB := hide (HB.out.trans (hb19.mono HB.out.size))
    clear hb19
    have HGG := hide (hgg.weak (Nat.zero_le _))
    clear hgg hog
    go_wp2_with fail
    refine (HLW.out Ag cg _ HGG.out).mono ?_
    rintro e_ v20 ⟨rfl, hb20⟩
    replace HFF := hide (HFF.out.below hb20)
    replace HCC := hide (HCC.out.below hb20)
    replace HGG := hide (HGG.out.below hb20)
    replace HB := hide (HB.out.trans (hb20.mono HB.out.size))
    clear hb20
    go_wp2_with fail
    clear HLW
    clear HGG
    refine (HLV.out _ HFF.out).mono ?_
    rintro e_ v21 ⟨rfl, hb21⟩
    replace HFF := hide (HFF.out.below hb21)
    replace HCC := hide (HCC.out.below hb21)
    replace HB := hide (HB.out.trans (hb21.mono HB.out.size))
    clear hb21
    go_wp2_with fail
    clear HLV
    refine (same_nil none none 0 0 _).mono ?_
    rintro e_ v22 ⟨rfl, hb22⟩
    replace HFF := hide (HFF.out.below hb22)
    replace HCC := hide (HCC.out.below hb22)
    replace HB := hide (HB.out.trans (hb22.mono HB.out.size))
    clear hb22
    go_wp2_with fail
    go_ret
    exact ⟨rfl, HB.out⟩
  obtain ⟨d, q, rfl, h1, h4, q1, q9, hnq, hin⟩ := lyrE_zero hl
  have HLW := hide (fun A c W h => Layered_right d q A n c F W h1 h4 q1 q9 hnq hin h)
  have HLV := hide (fun W h => LayeredR_right d q A n c F W h1 h4 q1 q9 hnq hin h)
  have HNQ := hide hnq
  have HLO := hide (laysE_okL (F := fun i t => F (t * d + i)) h1 h4 q1 q9 (fun r t hr ht => insideB_iff.1 hin _ (by rw [hnq]; exact lay_lt hr ht)))
  have HUA := hide (fun (W : World) (A : Option Addr) (c : Nat) h => Unlayered_any A d c (fun _ => q) (fun i t => F (t * d + i)) W (by omega) (fun _ _ => by omega) h)
  simp only [HLO.out] at HUA
  have HCX := hide (fun W A c h => copyAll_any A d c (fun _ => q) (fun i t => F (t * d + i)) W (by omega) (fun _ _ => by omega) h)
  have HUF := hide (fun j => (show unlF d (fun i t => F (t * d + i)) j = F j by show F (j / d * d + j % d) = F j; rw [at_row]))
  obtain ⟨G, hG⟩ : ∃ z, (fun i t => F (t * d + i)) = z := ⟨_, rfl⟩
  simp only [hG] at HLW HLV HUA HCX HUF
  have te : ((0 : Int) != 0) = false := by decide
  clear hl hin hG hnq HLO
  refine (copyGaus_own A n c F _ (by omega) HFF.out).mono ?_
  rintro e_ v23 ⟨yg, rfl, hog, hb23⟩
  obtain ⟨Ag, cg, rfl, -, hgg⟩ := ownGaus_form hog
  replace HFF := hide (HFF.out.below hb23)
  replace HCC := hide (HCC.out.below hb23)
  replace HB := hide (HB.out.trans (hb23.mono HB.out.size))
  clear hb23
  have HGG := hide (hgg.weak (Nat.zero_le _))
  clear hgg hog
  go_wp2_with fail
  refine (HLW.out Ag cg _ HGG.out).mono ?_
  rintro e_ v24 ⟨vx, Vx, rfl, hox, hb24⟩
  obtain ⟨Ax, cx, rfl, -, -, hmx⟩ := hox.form
  replace HFF := hide (HFF.out.below hb24)
  replace HCC := hide (HCC.out.below hb24)
  replace HGG := hide (HGG.out.below hb24)
  replace HB := hide (HB.out.trans (hb24.mono HB.out.size))
  clear hb24
  have HMx := hide (hmx.weak (Nat.zero_le _))
  clear hmx hox
  clear HLW
  clear HGG
  go_wp2_with fail
  refine (HLV.out _ HFF.out).mono ?_
  rintro e_ v25 ⟨vy, Vy, rfl, hoy, hb25⟩
  obtain ⟨Ay, cy, rfl, -, -, hmy⟩ := hoy.form
  replace HFF := hide (HFF.out.below hb25)
  replace HCC := hide (HCC.out.below hb25)
  replace HMx := hide (HMx.out.below hb25)
  replace HB := hide (HB.out.trans (hb25.mono HB.out.size))
  clear hb25
  have HMy := hide (hmy.weak (Nat.zero_le _))
  clear hmy hoy
  clear HLV
  go_wp2_with fail
  refine (same_got (by omega) (by omega) HMx.out HMy.out).mono ?_
  rintro e_ v26 ⟨rfl, hb26⟩
  replace HFF := hide (HFF.out.below hb26)
  replace HCC := hide (HCC.out.below hb26)
  replace HMx := hide (HMx.out.below hb26)
  replace HMy := hide (HMy.out.below hb26)
  replace HB := hide (HB.out.trans (hb26.mono HB.out.size))
  clear hb26
  go_wp2_with fail
  clear HMy
  refine (HCX.out _ Ax cx HMx.out).mono ?_
  rintro e_ v27 ⟨y2, rfl, ho2, hb27⟩
  obtain ⟨A2, c2, rfl, -, -, hm2⟩ := ho2.form
  replace HFF := hide (HFF.out.below hb27)
  replace HCC := hide (HCC.out.below hb27)
  replace HMx := hide (HMx.out.below hb27)
  replace HB := hide (HB.out.trans (hb27.mono HB.out.size))
  clear hb27
  have HM2 := hide (hm2.weak (Nat.zero_le _))
  clear hm2 ho2 HCX
  clear HMx
  go_wp2_with fail
  refine (HUA.out _ A2 c2 HM2.out).mono ?_
  rintro e_ v28 ⟨vb, rfl, hub, hb28⟩
  obtain ⟨Ab, cb, rfl, -, hgb⟩ := ownGaus_form (hub.1 (by trivial))
  replace HFF := hide (HFF.out.below hb28)
  replace HCC := hide (HCC.out.below hb28)
  replace HM2 := hide (HM2.out.below hb28)
  replace HB := hide (HB.out.trans (hb28.mono HB.out.size))
  clear hb28
  have HGB := hide (hgb.weak (lo' := 0) (Nat.zero_le _))
  clear hgb hub HUA
  clear HM2
  have hnq := HNQ.out
  rw [← hnq] at HGB
  try simp only [← hnq]
  clear hnq
  go_wp2_with fail
  refine (same_gaus (by omega) HGB.out HFF.out (fun j _ => HUF.out j)).mono ?_
  rintro e_ v29 ⟨rfl, hb29⟩
  replace HFF := hide (HFF.out.below hb29)
  replace HCC := hide (HCC.out.below hb29)
  replace HGB := hide (HGB.out.below hb29)
  replace HB := hide (HB.out.trans (hb29.mono HB.out.size))
  clear hb29
  go_wp2_with fail
  go_ret
  exact ⟨rfl, HB.out⟩
end Go.Proofs.Ytceohaeebdhmjaa
