/- Lemmas: MS77, S83, S85, Sb0, KNb. -/
import Derived.Laws.MakeOwn
import Derived.Test.YtcdplfjegopmdaaGreatBk01
import Derived.Test.YtcdplfjegopmdaaGreatBk02
import Derived.Test.YtcdplfjegopmdaaGreatBk03
import Derived.Test.YtcdplfjegopmdaaGreatBk04
import Derived.Test.YtcdplfjegopmdaaGreatBk06
import Derived.Test.YtcdplfjegopmdaaGreatBk07
import Derived.Test.YtcdplfjegopmdaaGreatBk08
import Derived.Test.YtcdplfjegopmdaaGreatBk09
import Derived.Test.YtcdplfjegopmdaaGreatBk10
import Derived.Test.YtcdplfjegopmdaaGreatBk11
import Derived.Test.YtcdplfjegopmdaaGreatBk12
import Derived.Test.YtcdplfjegopmdaaGreatBk13
import Derived.Test.YtcdplfjegopmdaaGreatBk14
import Derived.Test.YtcdplfjegopmdaaGreatBk15
import Derived.Test.YtcdplfjegopmdaaGreatBk16
import Derived.Test.YtcdplfjegopmdaaGreatBk17
import Derived.Test.YtcdplfjegopmdaaGreatBk18
import Derived.Test.YtcdplfjegopmdaaGreatBk19
import Derived.Test.YtcdplfjegopmdaaGreatBk20
import Derived.Test.YtcdplfjegopmdaaGreatBk21
import Derived.Test.YtcdplfjegopmdaaGreatBk22
import Derived.Test.YtcdplfjegopmdaaGreatBk23
import Derived.Test.YtcdplfjegopmdaaGreatBk24
import Derived.Test.YtcdplfjegopmdaaGreatBk25
import Derived.Test.YtcdplfjegopmdaaGreatBk26
import Derived.Test.YtcdplfjegopmdaaGreatBk27
set_option linter.unusedVariables false
set_option linter.unusedSimpArgs false
/- S77 of chapter 03, in a namespace of its own. -/
namespace Go.Proofs.YtcdplfjegopmdaaGreat
open Go Go.RowKit Go.Lib Ieee
theorem bitE_some {n : Nat} {F : Nat → Int} {k : Int} (h : bitE n F k = 0) : 0 < n ∧ ∀ j, j < n → IsBit (F j) := by
  unfold bitE at h
  by_cases h0 : n = 0
  · rw [if_pos h0] at h; exact absurd h (by decide)
  rw [if_neg h0] at h
  by_cases h1 : k < (n : Int)
  · rw [if_pos h1] at h; exact absurd h (by decide)
  rw [if_neg h1] at h
  unfold unI at h
  by_cases hb : bitsB n F = true
  · exact ⟨by omega, bitsB_iff.1 hb⟩
  · rw [if_neg hb] at h; exact absurd h (by decide)
theorem scrOk (A B C : Option Addr) (n c m d q r : Nat) (T S X : Nat → Int) (w : World) (hn : n ≤ 100000) (hm : m ≤ 10000) (hq : q ≤ 400) (hz : regE ((m : Int) + 1) n T (m + 1) S = 0) (hb : bitE q X 400 = 0) (hT : IntsAt w 0 A n T) (hS : IntsAt w 0 B (m + 1) S) (hX : IntsAt w 0 C q X) :
    Calls Tryz.prog 16 #[.agg #[.int .i64 ((m : Int) + 1), .slice A n c, .slice B (m + 1) d], .slice C q r] w fun e w' => ∃ g, e = .returned (.tuple #[.slice (some ⟨g, 0, none⟩) q q, .int .i64 0]) ∧ IntsAt w' 0 (some ⟨g, 0, none⟩) q (fun j => xor1 (itS (m + 1) n T S j 0) (X j)) ∧ Below w.heap.size w w' := by
  have h := Scrambled_any ((m : Int) + 1) A B C n c (m + 1) d q r T S X w hn (by omega) (by omega) hT hS hX
  have e0 : scrE ((m : Int) + 1) n T (m + 1) S q X = 0 := by unfold scrE; rw [hz, hb]; rfl
  rw [e0] at h
  refine h.mono ?_
  rintro e w' ⟨v, rfl, h1, -, h3⟩
  obtain ⟨⟨g, rfl⟩, hv⟩ := h1 rfl
  exact ⟨g, rfl, hv.atG (Nat.zero_le _), h3⟩
theorem seqOk (A B : Option Addr) (n c m d q : Nat) (T S : Nat → Int) (w : World) (hn : n ≤ 100000) (hm : m ≤ 10000) (hq0 : 0 < q) (hq : q ≤ 400) (hz : regE ((m : Int) + 1) n T (m + 1) S = 0) (hT : IntsAt w 0 A n T) (hS : IntsAt w 0 B (m + 1) S) :
    Calls Tryz.prog 34 #[.agg #[.int .i64 ((m : Int) + 1), .slice A n c, .slice B (m + 1) d], .int .i64 (q : Int)] w fun e w' => ∃ g, e = .returned (.tuple #[.slice (some ⟨g, 0, none⟩) q q, .int .i64 0]) ∧ IntsAt w' 0 (some ⟨g, 0, none⟩) q (fun j => itS (m + 1) n T S j 0) ∧ Below w.heap.size w w' := by
  have h := Sequence_any ((m : Int) + 1) (q : Int) A B n c (m + 1) d T S w hn (by omega) hT hS
  have e0 : seqE ((m : Int) + 1) n T (m + 1) S (q : Int) = 0 := by unfold seqE; rw [if_pos hz, if_pos (withinB_yes (by omega))]
  rw [e0] at h
  refine h.mono ?_
  rintro e w' ⟨v, rfl, h1, -, h3⟩
  obtain ⟨g, hv, ho⟩ := h1 rfl
  rw [Int.toNat_natCast] at hv ho
  subst hv
  exact ⟨g, rfl, ho.atG (Nat.zero_le _), h3⟩
end Go.Proofs.YtcdplfjegopmdaaGreat
/- Layers: rows that grow in turn, and their numbers. -/
namespace Go.Proofs.YtcdplfjegopmdaaGreat
open Go Go.RowKit Go.Lib
set_option maxRecDepth 100000 in
theorem step_append_oneB {ops : Array Oper} {o : Oper} {a : Act} {K : Act → World → Prop} {Q : Exit → Act → World → Prop} {E : Prop} (w : World) (hgd : o.guard = none) (s x : Operand)
    (ho : o.op = .call { callee := .builtin .append, args := #[s, x], argTypes := #[32, 32] })
    (base : Nat) (v : Value) (n : Nat) (F : Nat → Gau) (hs : a.eval s = v) (hown : OwnGaus w base v n F)
    (g c : Nat) (y : Gau) (hx : a.eval x = .slice (some ⟨g, 0, none⟩) 1 c) (hr : Box w g 62 #[.int .i64 y.re, .int .i64 y.im]) (hn : n ≤ 1000000) (hbase : base ≤ w.heap.size)
    (h : ∀ v' w', OwnGaus w' base v' (n + 1) (fun j => if j < n then F j else y) → Below base w w' → w.grownBy w' v.ownBlock → (v'.ownBlock = v.ownBlock ∨ v'.ownBlock = some w.heap.size) → K (a.put o.dst v') w') :
    if Region.wanted o (yielded ops a.tmps) = true then Oper.wp Tryz.prog o a w K Q else E := by
  have hw : Region.wanted o (yielded ops a.tmps) = true := by simp [Region.wanted, hgd]
  rw [if_pos hw]
  obtain ⟨i0, hi, hz0, hz1, hz2⟩ := info_parts gauInfo
  obtain ⟨v', w', hrun, hown', hg, -, hblk⟩ := run_append_own_at (P := Tryz.prog) w base 32 o.type 62 i0 (.agg #[.int .i64 0, .int .i64 0]) 2 16 Tryz.underlying32 hi hz0 hz1 hz2 rfl (by decide) v n _ hown ⟨g, 0, none⟩ 1 c (gauVals 1 fun _ => y) (by rw [gauVals_len])
      (fun j u hu => by
        rw [gauVals_get] at hu
        split at hu
        · rename_i hj
          injection hu with hu
          subst hu
          rw [Addr.add_lit, Nat.zero_add]
          obtain rfl | rfl : j = 0 ∨ j = 1 := by omega
          · exact hr.at_ 0
          · exact hr.at_ 1
        · cases hu)
      (fun u hu => by
        obtain ⟨j, -, rfl⟩ := List.mem_map.1 hu
        rfl) (by unfold maxLen; omega) (by omega) hbase
  rw [gauVals_cat] at hown'
  unfold Oper.wp execOp
  simp only [ho, resolve, invoke, builtin, Sem.run_bind, Sem.run_pure, Result.andThen_ok, List.map_toArray, List.map_cons, List.map_nil, hs, hx, hrun]
  exact h v' w' hown' ((Below.refl _ _).grown hg hbase (fun k hk => (World.ownsRow.lt hown k hk).1)) hg hblk
section
variable {w w1 : World} {base g n c i m : Nat} {V : Nat → Value} {L : Nat → Nat} {F : Nat → Nat → Gau} {r : Value} {G : Nat → Gau}
theorem OwnPlane.midway (h : OwnPlane w base (.slice (some ⟨g, 0, none⟩) n c) n V L F) (hi : i < n) (hg : w.grownBy w1 (V i).ownBlock) : w1.ownsRow base 32 1 (.slice (some ⟨g, 0, none⟩) n c) n ((List.range n).map V) := by
  refine World.ownsRow.kept h.1 hg (.inr ?_)
  rcases (h.2.1 i hi).2 with z | z
  · rw [z]; simp [Value.ownBlock]
  · exact fun y => z y.symm
theorem OwnPlane.midcell (h : OwnPlane w base (.slice (some ⟨g, 0, none⟩) n c) n V L F) (hi : i < n) (hg : w.grownBy w1 (V i).ownBlock) : w1.cell? ⟨g, i, none⟩ = some (V i) ∧ w1.frozen? ⟨g, i, none⟩ = false ∧ g < w1.heap.size := by
  have h1 := h.midway hi hg
  refine ⟨?_, World.ownsRow.frozenAt h1 i, (World.ownsRow.lt h1 g rfl).2⟩
  rw [World.ownsRow.cellAt h1 i (by omega)]
  simp [hi]
theorem OwnPlane.appended (h : OwnPlane w base (.slice (some ⟨g, 0, none⟩) n c) n V L F) (hi : i < n) (ho : OwnGaus w1 base r m G) (hg : w.grownBy w1 (V i).ownBlock) (hblk : r.ownBlock = (V i).ownBlock ∨ r.ownBlock = some w.heap.size) :
    OwnPlane (w1.setCell ⟨g, i, none⟩ r) base (.slice (some ⟨g, 0, none⟩) n c) n (fun j => if j = i then r else V j) (fun j => if j = i then m else L j) (fun j => if j = i then G else F j) := by
  have hgl := (h.lt (k := g) rfl).2
  have hgb : w1.grownBy (w1.setCell ⟨g, i, none⟩ r) (some g) := ⟨rfl, rfl, rfl, by simp, fun j _ hj => heap_setCell_other w1 ⟨g, i, none⟩ j r (fun e => hj (by simp [e]))⟩
  have hl : ((List.range n).map V).set i r = (List.range n).map (fun j => if j = i then r else V j) := by
    apply List.ext_getElem?
    intro j
    rw [List.getElem?_set]
    by_cases e : i = j
    · subst e; simp [hi]
    · rw [if_neg e]
      by_cases hj : j < n
      · simp [hj, show ¬ j = i from fun z => e z.symm]
      · simp [hj]
  have hrb : r.ownBlock = none ∨ r.ownBlock ≠ some g := by
    rcases hblk with y | y
    · rw [y]; exact (h.2.1 i hi).2
    · rw [y]; exact .inr (by intro z; injection z with z; omega)
  refine ⟨?_, fun j hj => ?_, fun j k hj hk hne => ?_⟩
  · have h1 := (World.ownsRow.stored (h.midway hi hg) i r).1
    rwa [hl] at h1
  · by_cases e : j = i
    · simp only [if_pos e]
      exact ⟨ho.kept_ hgb hrb, hrb⟩
    · simp only [if_neg e]
      exact ⟨((h.2.1 j hj).1.kept_ hg (h.2.2 j i hj hi e)).kept_ hgb (h.2.1 j hj).2, (h.2.1 j hj).2⟩
  · by_cases e : j = i
    · subst e
      have e2 : ¬ k = j := fun z => hne z.symm
      simp only [if_true, if_neg e2]
      rcases hblk with y | y
      · rw [y]; exact h.2.2 j k hj hk hne
      · rw [y]
        refine .inr fun z => ?_
        have := ((h.2.1 k hk).1.blockLt z.symm).2
        omega
    · simp only [if_neg e]
      by_cases e2 : k = i
      · simp only [if_pos e2]
        rcases hblk with y | y
        · rw [y]; exact h.2.2 j i hj hi e
        · rw [y]
          rcases hz : (V j).ownBlock with _ | b
          · exact .inl rfl
          · refine .inr fun z => ?_
            injection z with z
            have := ((h.2.1 j hj).1.blockLt hz).2
            omega
      · simp only [if_neg e2]
        exact h.2.2 j k hj hk hne
end
theorem OwnPlane.made (w : World) (base c : Nat) (F : Nat → Nat → Gau) (hb : base ≤ w.heap.size) (hc : c ≤ 1000) : OwnPlane (w.alloc (.cells (madeCells #[.slice none 0 0] c) 32)) base (.slice (some ⟨w.heap.size, 0, none⟩) c c) c (fun _ => .slice none 0 0) (fun _ => 0) F := by
  refine ⟨⟨by simp, .inr ⟨w.heap.size, c, _, rfl, hb, heap_alloc_new w _, Nat.le_refl _, by unfold maxLen; omega, by simp [madeCells], ?_⟩⟩, fun i _ => ⟨OwnGaus.nil_ _ _ _, .inl rfl⟩, fun i j _ _ _ => .inl rfl⟩
  apply List.ext_getElem?
  intro j
  have hm := madeMat_get c j
  by_cases hj : j < c
  · rw [if_pos hj] at hm
    simp [hj, hm]
  · simp [hj, madeCells]
/-- How many of the first j numbers lie in row i of c. -/
def cntL (c j i : Nat) : Nat := (j + (c - 1 - i)) / c
theorem cntL_zero {c i : Nat} (hi : i < c) : cntL c 0 i = 0 := by
  unfold cntL
  exact Nat.div_eq_of_lt (by omega)
theorem cntL_at {c j : Nat} (hc : 1 ≤ c) (h4 : c ≤ 4) : cntL c j (j % c) = j / c := by
  unfold cntL
  obtain rfl | rfl | rfl | rfl : c = 1 ∨ c = 2 ∨ c = 3 ∨ c = 4 := by omega
  all_goals omega
theorem cntL_next {c j i : Nat} (hc : 1 ≤ c) (h4 : c ≤ 4) (hi : i < c) : cntL c (j + 1) i = if i = j % c then cntL c j i + 1 else cntL c j i := by
  unfold cntL
  obtain rfl | rfl | rfl | rfl : c = 1 ∨ c = 2 ∨ c = 3 ∨ c = 4 := by omega
  all_goals (split <;> omega)
theorem cntL_end {c q i : Nat} (hc : 1 ≤ c) (h4 : c ≤ 4) (hi : i < c) : cntL c (c * q) i = q := by
  unfold cntL
  obtain rfl | rfl | rfl | rfl : c = 1 ∨ c = 2 ∨ c = 3 ∨ c = 4 := by omega
  all_goals omega
theorem at_row (j c : Nat) : j / c * c + j % c = j := by rw [Nat.mul_comm]; exact Nat.div_add_mod j c
/-- The error of symbols that are to be layered. -/
def lyrE (c : Int) (n : Nat) (F : Nat → Gau) : Int := if withinB c 1 4 = true then if n = 0 ∨ ¬ (n : Int) % c = 0 then 10 else if 200 < (n : Int) / c then 8 else unI (insideB 100000000 n F) 2 else 2
end Go.Proofs.YtcdplfjegopmdaaGreat
/- Unlayered of the code and of the reference. -/
namespace Go.Proofs.YtcdplfjegopmdaaGreat
open Go Go.RowKit Go.Lib
/-- The symbols of n layers in their order. -/
def unlF (n : Nat) (F : Nat → Nat → Gau) (i : Nat) : Gau := F (i % n) (i / n)
theorem MatsAt.lenL {w : World} {lo n m : Nat} {A : Option Addr} {L : Nat → Nat} {F : Nat → Nat → Gau} (h : MatsAt w lo A n L F) (e : ∀ i, i < n → L i = m) : MatsAt w lo A n (fun _ => m) F := fun i hi => by
  obtain ⟨b, o, Ai, ci, e1, h1, h2, h3, h4, h5, h6⟩ := h i hi
  rw [e i hi] at h3 h4 h6
  exact ⟨b, o, Ai, ci, e1, h1, h2, h3, h4, h5, h6⟩
theorem unlF_at {n : Nat} (F : Nat → Nat → Gau) (i k : Nat) (hk : k < n) (h4 : n ≤ 4) : unlF n F (i * n + k) = F k i := by
  unfold unlF
  have h1 : (i * n + k) % n = k ∧ (i * n + k) / n = i := by
    obtain rfl | rfl | rfl | rfl : n = 1 ∨ n = 2 ∨ n = 3 ∨ n = 4 := by omega
    all_goals omega
  rw [h1.1, h1.2]
def fillU (U : Nat → Gau) (j i : Nat) : Gau := if i < j then U i else Gau.zero
theorem fillU_put (U : Nat → Gau) (j : Nat) : setGau (fillU U j) j (U j) = fillU U (j + 1) := by
  funext i
  unfold setGau fillU
  by_cases e : i = j
  · subst e; rw [if_pos rfl, if_pos (by omega)]
  · rw [if_neg e]
    by_cases h : i < j
    · rw [if_pos h, if_pos (by omega)]
    · rw [if_neg h, if_neg (by omega)]
set_option maxHeartbeats 16000000 in
set_option maxRecDepth 100000 in
theorem Unlayered_any (A : Option Addr) (n c : Nat) (L : Nat → Nat) (F : Nat → Nat → Gau) (w : World) (hn : n ≤ 100000) (hL : ∀ i, i < n → L i ≤ 100000) (hI : MatsAt w 0 A n L F) :
    Calls Tryz.prog 28 #[.slice A n c] w fun e w' => ∃ v, e = .returned (.tuple #[v, .int .i64 (laysE n L F)]) ∧ ((laysE n L F = 0 → OwnGaus w' w.heap.size v (n * L 0) (unlF n F)) ∧ (laysE n L F ≠ 0 → v = .slice none 0 0)) ∧ Below w.heap.size w w' := by
  have HLE := hide (fun W h => layersError_any A n c L F W hn hL h)
  have HLZ := hide (fun h : laysE n L F = 0 => laysE_zero h)
  have HI := hide hI
  obtain ⟨E, hE⟩ : ∃ z, laysE n L F = z := ⟨_, rfl⟩
  simp only [hE] at HLE HLZ ⊢
  clear hE hI hL
  by_cases hz : E = 0
  case neg =>
    have HNE := hide hz
    have ts : (E != 0) = true := by simpa using hz
    clear HLZ hz
    go_enter Tryz.func28, Tryz.ntmps28
    go_wp2_with fail
    refine (HLE.out _ HI.out).mono ?_
    rintro e_ w1 ⟨rfl, hb1⟩
    go_wp2_with fail
    go_ret2
    exact ⟨_, rfl, ⟨fun h => absurd h HNE.out, fun _ => rfl⟩, hb1⟩
  subst hz
  have hok := HLZ.out rfl
  have hn1 := hok.n1
  have hn4 := hok.n4
  have hq1 := hok.q1
  have hq9 := hok.q9
  have HLN := hide hok.len
  obtain ⟨b, bo, A0, c0, rfl, -, hbl, y0, -, -, -⟩ := HI.out 0 (by omega)
  simp only [Nat.add_zero] at y0
  obtain ⟨q, hq⟩ : ∃ z, L 0 = z := ⟨_, rfl⟩
  rw [hq] at y0 hq1 hq9 HLN ⊢
  skip
  have hN9 : n * q ≤ 800 := Nat.mul_le_mul hn4 hq9
  have HNQ := hide (show ∀ j, j < n * q → j / n < q from fun j hj => Nat.div_lt_of_lt_mul hj)
  have hnz : (n : Int) * (q : Int) = ((n * q : Nat) : Int) := by push_cast; rfl
  obtain ⟨N, hN⟩ : ∃ z, n * q = z := ⟨_, rfl⟩
  simp only [hN] at hnz hN9 HNQ ⊢
  have qn : IntKind.i64.wrap ((n : Int) * (q : Int)) = (N : Int) := by rw [hnz]; exact IntWalk.i64_in _ (by omega)
  have hmk := make_gaus N (by omega)
  have HY0 := hide (fun W (h : Below w.heap.size w W) => bcellW h y0)
  clear HLZ hok hq hN y0 hnz
  have HMR := hide (show ∀ W, Below w.heap.size w W → MatsAt W 0 (some ⟨b, bo, none⟩) n (fun _ => q) F from fun W h => fun i hi => by
    obtain ⟨b2, o2, Ai, ci, e1, h1, h2, h3, h4, h5, h6⟩ := (HI.out.below h) i hi
    rw [HLN.out i hi] at h3 h4 h6
    exact ⟨b2, o2, Ai, ci, e1, h1, h2, h3, h4, h5, h6⟩)
  obtain ⟨U, hU⟩ : ∃ z, unlF n F = z := ⟨_, rfl⟩
  have HUD := hide (fun j => (show U j = F (j % n) (j / n) by rw [← hU]; rfl))
  rw [hU]
  clear hU
  go_enter Tryz.func28, Tryz.ntmps28
  go_wp2_with fail
  refine (HLE.out _ HI.out).mono ?_
  rintro e_ w1 ⟨rfl, hb1⟩
  have HB := hide hb1
  clear hb1 HLE
  have y0 := HY0.out _ HB.out
  go_upto_region 5 with fail
  obtain ⟨gs, hgs⟩ : ∃ z, w1.heap.size = z := ⟨_, rfl⟩
  have hwg : w.heap.size ≤ gs := by rw [← hgs]; exact HB.out.size
  obtain ⟨w2, hw2⟩ : ∃ z : World, z = w1.alloc (.cells (madeCells #[.int .i64 0, .int .i64 0] (N * 2)) 62) := ⟨_, rfl⟩
  simp only [hgs]
  try rw [← hw2]
  have HO := hide (show OwnGaus w2 w.heap.size (.slice (some ⟨gs, 0, none⟩) N N) N (fillU U 0) from by
    have h9 := OwnGaus.made w1 w.heap.size gs N (by rw [hgs]; exact hwg) hgs.symm (by unfold maxLen; omega)
    rw [← hw2] at h9
    exact h9.congr fun j _ => rfl)
  replace HB := hide (show Below w.heap.size w w2 by rw [hw2]; exact HB.out.alloc HB.out.size _)
  clear hw2 hmk y0 qn hgs
  go_wp2_with fail
  go_loopw [6, 22] (fun _ z wr => ∃ j : Nat, j ≤ N ∧ z = .int .i64 (j : Int) ∧ Hid (OwnGaus wr w.heap.size (.slice (some ⟨gs, 0, none⟩) N N) N (fillU U j)) ∧ Hid (Below w.heap.size w wr)) (fun _ z _ => N - (Go.RowKit.intOf z).toNat)
  case atStart => exact ⟨0, Nat.zero_le _, rfl, HO, HB⟩
  case round =>
    clear HO HB
    obtain ⟨j, hj, rfl, HO, HB⟩ := hrel
    obtain ⟨wA, rfl⟩ : ∃ x : World, x = wr := ⟨_, rfl⟩
    by_cases hlt : j < N
    case neg =>
      obtain rfl : N = j := by omega
      have hltz : ¬ (N : Int) < (N : Int) := by omega
      have HO2 := hide (HO.out.congr (G := U) fun i hi => if_pos hi)
      clear HO HMR HUD HNQ HI HY0
      go_wp2_with fail
      go_ret2
      first | exact ⟨_, rfl, HO2.out, HB.out⟩ | exact ⟨_, rfl, ⟨fun _ => HO2.out, fun h => absurd rfl h⟩, HB.out⟩
    have hltz : (j : Int) < (N : Int) := by omega
    have htq := HNQ.out j hlt
    obtain ⟨r, hr⟩ : ∃ z, j % n = z := ⟨_, rfl⟩
    obtain ⟨t, ht⟩ : ∃ z, j / n = z := ⟨_, rfl⟩
    rw [ht] at htq
    have hrn : r < n := by rw [← hr]; exact Nat.mod_lt _ (by omega)
    have hrz : (r : Int) < (n : Int) := by omega
    have htz : (t : Int) < (q : Int) := by omega
    have hjr : (j : Int).tmod (n : Int) = (r : Int) := by rw [Int.tmod_eq_emod_of_nonneg (by omega), ← hr]; push_cast; rfl
    have hjt : (j : Int).tdiv (n : Int) = (t : Int) := by rw [Int.tdiv_eq_ediv_of_nonneg (by omega), ← ht]; push_cast; rfl
    have hn0 : ¬ (n : Int) = 0 := by omega
    have hn0n : ¬ n = 0 := by omega
    have hwt : IntKind.i64.wrap (t : Int) = (t : Int) := IntWalk.i64_in _ (by omega)
    have hud := HUD.out j
    rw [hr, ht] at hud
    obtain ⟨Ar, cr, y1, hc1, hc2, hRow, -, -⟩ := mat_row (HMR.out w (Below.refl _ _)) hrn
    obtain ⟨br, or_, rfl, -, -⟩ := gaus_some hRow (by omega)
    obtain ⟨z1, z2⟩ := gaus_at hRow htq
    obtain ⟨x, hx⟩ : ∃ z, F r t = z := ⟨_, rfl⟩
    rw [hx] at z1 z2 hud
    have HPU := hide (fun W (h : OwnGaus W w.heap.size (.slice (some ⟨gs, 0, none⟩) N N) N (fillU U j)) => h.put j x)
    rw [← hud, fillU_put, hud] at HPU
    obtain ⟨xr, hxr⟩ : ∃ z, x.re = z := ⟨_, rfl⟩
    obtain ⟨xi, hxi⟩ : ∃ z, x.im = z := ⟨_, rfl⟩
    simp only [hxr, hxi] at HPU
    rw [hxr] at z1
    rw [hxi] at z2
    clear hxr hxi hx hud hRow hr ht
    have HYC := hide (fun W (h : Below w.heap.size w W) => (⟨bcellW h y1, bcellW h z1, bcellW h z2⟩ : W.cell? ⟨b, bo + r, none⟩ = some (.slice (some ⟨br, or_, none⟩) q cr) ∧ W.cell? ⟨br, or_ + t * 2, none⟩ = some (.int .i64 xr) ∧ W.cell? ⟨br, or_ + t * 2 + 1, none⟩ = some (.int .i64 xi)))
    clear y1 z1 z2
    go_upto_region 8 with fail
    refine wp_region_held_drew (S := fun w' => w'.cell? ⟨b, bo + r, none⟩ = some (.slice (some ⟨br, or_, none⟩) q cr) ∧ w'.cell? ⟨br, or_ + t * 2, none⟩ = some (.int .i64 xr) ∧ w'.cell? ⟨br, or_ + t * 2 + 1, none⟩ = some (.int .i64 xi)) (by kernel_rfl) (HYC.out _ HB.out.drew) (fun hHeld => ?_)
    obtain ⟨w_1, hw_1⟩ : ∃ q : World, q = wA.drew := ⟨_, rfl⟩
    rw [← hw_1] at hHeld ⊢
    have hc_1 : Below wA.heap.size wA w_1 := by rw [hw_1]; exact (Below.refl _ _).drew
    clear hw_1
    replace HO := hide (HO.out.below hc_1)
    replace HB := hide (HB.out.trans (hc_1.mono HB.out.size))
    clear hc_1
    refine wpAnyH_take (i := 0) (oi := ⟨some 25, _, _, _, _, _⟩) (v := ?_) rfl (by kernel_rfl) (by kernel_rfl) (by kernel_rfl) (fun _ _ _ h => h) (Or.inl ⟨by rfl, ?_⟩) (by assumption) ?_
    rotate_left
    · (intro w' hSw; (try dsimp only at hSw); go_simp <;> (with_reducible rfl))
    try simp only [Act.put, List.setIfInBounds_toArray, List.set_cons_zero, List.set_cons_succ]
    refine wpAnyH_take (i := 1) (oi := ⟨some 26, _, _, _, _, _⟩) (v := ?_) rfl (by kernel_rfl) (by kernel_rfl) (by kernel_rfl) (fun _ _ _ h => h) (Or.inl ⟨by rfl, ?_⟩) (by assumption) ?_
    rotate_left
    · (intro w' hSw; (try dsimp only at hSw); go_simp <;> (with_reducible rfl))
    try simp only [Act.put, List.setIfInBounds_toArray, List.set_cons_zero, List.set_cons_succ]
    refine wpAnyH_take (i := 2) (oi := ⟨some 27, _, _, _, _, _⟩) (v := ?_) rfl (by kernel_rfl) (by kernel_rfl) (by kernel_rfl) (fun _ _ _ h => h) (Or.inl ⟨by rfl, ?_⟩) (by assumption) ?_
    rotate_left
    · (intro w' hSw; (try dsimp only at hSw); go_simp <;> (with_reducible rfl))
    try simp only [Act.put, List.setIfInBounds_toArray, List.set_cons_zero, List.set_cons_succ]
    refine wpAnyH_take (i := 3) (oi := ⟨some 28, _, _, _, _, _⟩) (v := ?_) rfl (by kernel_rfl) (by kernel_rfl) (by kernel_rfl) (fun _ _ _ h => h) (Or.inl ⟨by rfl, ?_⟩) (by assumption) ?_
    rotate_left
    · (intro w' hSw; (try dsimp only at hSw); go_simp <;> (with_reducible rfl))
    try simp only [Act.put, List.setIfInBounds_toArray, List.set_cons_zero, List.set_cons_succ]
    refine wpAnyH_take (i := 4) (oi := ⟨some 29, _, _, _, _, _⟩) (v := ?_) rfl (by kernel_rfl) (by kernel_rfl) (by kernel_rfl) (fun _ _ _ h => h) (Or.inl ⟨by rfl, ?_⟩) (by assumption) ?_
    rotate_left
    · (intro w' hSw; (try dsimp only at hSw); go_simp <;> (with_reducible rfl))
    try simp only [Act.put, List.setIfInBounds_toArray, List.set_cons_zero, List.set_cons_succ]
    refine wpAnyH_take (i := 5) (oi := ⟨some 30, _, _, _, _, _⟩) (v := ?_) rfl (by kernel_rfl) (by kernel_rfl) (by kernel_rfl) (fun _ _ _ h => h) (Or.inl ⟨by rfl, ?_⟩) (by assumption) ?_
    rotate_left
    · (intro w' hSw; (try dsimp only at hSw); go_simp <;> (with_reducible rfl))
    try simp only [Act.put, List.setIfInBounds_toArray, List.set_cons_zero, List.set_cons_succ]
    refine wpAnyH_take (i := 6) (oi := ⟨some 31, _, _, _, _, _⟩) (v := ?_) rfl (by kernel_rfl) (by kernel_rfl) (by kernel_rfl) (fun _ _ _ h => h) (Or.inl ⟨by rfl, ?_⟩) (by assumption) ?_
    rotate_left
    · (intro w' hSw; (try dsimp only at hSw); go_simp <;> (with_reducible rfl))
    try simp only [Act.put, List.setIfInBounds_toArray, List.set_cons_zero, List.set_cons_succ]
    refine wpAnyH_take (i := 7) (oi := ⟨some 32, _, _, _, _, _⟩) (v := ?_) rfl (by kernel_rfl) (by kernel_rfl) (by kernel_rfl) (fun _ _ _ h => h) (Or.inl ⟨by rfl, ?_⟩) (by assumption) ?_
    rotate_left
    · (intro w' hSw; (try dsimp only at hSw); go_simp <;> (with_reducible rfl))
    try simp only [Act.put, List.setIfInBounds_toArray, List.set_cons_zero, List.set_cons_succ]
    refine wpAnyH_take (i := 8) (oi := ⟨some 33, _, _, _, _, _⟩) (v := ?_) rfl (by kernel_rfl) (by kernel_rfl) (by kernel_rfl) (fun _ _ _ h => h) (Or.inl ⟨by rfl, ?_⟩) (by assumption) ?_
    rotate_left
    · (intro w' hSw; (try dsimp only at hSw); go_simp <;> (with_reducible rfl))
    try simp only [Act.put, List.setIfInBounds_toArray, List.set_cons_zero, List.set_cons_succ]
    refine wpAnyH_take (i := 9) (oi := ⟨some 34, _, _, _, _, _⟩) (v := ?_) rfl (by kernel_rfl) (by kernel_rfl) (by kernel_rfl) (fun _ _ _ h => h) (Or.inl ⟨by rfl, ?_⟩) (by assumption) ?_
    rotate_left
    · (intro w' hSw; (try dsimp only at hSw); go_simp <;> (with_reducible rfl))
    try simp only [Act.put, List.setIfInBounds_toArray, List.set_cons_zero, List.set_cons_succ]
    refine wpAnyH_take (i := 10) (oi := ⟨some 35, _, _, _, _, _⟩) (v := ?_) rfl (by kernel_rfl) (by kernel_rfl) (by kernel_rfl) (fun _ _ _ h => h) (Or.inl ⟨by rfl, ?_⟩) (by assumption) ?_
    rotate_left
    · (intro w' hSw; (try dsimp only at hSw); go_simp <;> (with_reducible rfl))
    try simp only [Act.put, List.setIfInBounds_toArray, List.set_cons_zero, List.set_cons_succ]
    refine wpAnyH_take (i := 11) (oi := ⟨some 36, _, _, _, _, _⟩) (v := ?_) rfl (by kernel_rfl) (by kernel_rfl) (by kernel_rfl) (fun _ _ _ h => h) (Or.inl ⟨by rfl, ?_⟩) (by assumption) ?_
    rotate_left
    · (intro w' hSw; (try dsimp only at hSw); go_simp <;> (with_reducible rfl))
    try simp only [Act.put, List.setIfInBounds_toArray, List.set_cons_zero, List.set_cons_succ]
    refine wpAnyH_take (i := 12) (oi := ⟨some 37, _, _, _, _, _⟩) (v := ?_) rfl (by kernel_rfl) (by kernel_rfl) (by kernel_rfl) (fun _ _ _ h => h) (Or.inl ⟨by rfl, ?_⟩) (by assumption) ?_
    rotate_left
    · (intro w' hSw; (try dsimp only at hSw); go_simp <;> (with_reducible rfl))
    try simp only [Act.put, List.setIfInBounds_toArray, List.set_cons_zero, List.set_cons_succ]
    refine wpAnyH_take (i := 13) (oi := ⟨some 38, _, _, _, _, _⟩) (v := ?_) rfl (by kernel_rfl) (by kernel_rfl) (by kernel_rfl) (fun _ _ _ h => h) (Or.inl ⟨by rfl, ?_⟩) (by assumption) ?_
    rotate_left
    · (intro w' hSw; (try dsimp only at hSw); go_simp <;> (with_reducible rfl))
    try simp only [Act.put, List.setIfInBounds_toArray, List.set_cons_zero, List.set_cons_succ]
    refine wpAnyH_take (i := 14) (oi := ⟨some 39, _, _, _, _, _⟩) (v := ?_) rfl (by kernel_rfl) (by kernel_rfl) (by kernel_rfl) (fun _ _ _ h => h) (Or.inl ⟨by rfl, ?_⟩) (by assumption) ?_
    rotate_left
    · (intro w' hSw; (try dsimp only at hSw); go_simp <;> (with_reducible rfl))
    try simp only [Act.put, List.setIfInBounds_toArray, List.set_cons_zero, List.set_cons_succ]
    refine wpAnyH_take (i := 15) (oi := ⟨some 40, _, _, _, _, _⟩) (v := ?_) rfl (by kernel_rfl) (by kernel_rfl) (by kernel_rfl) (fun _ _ _ h => h) (Or.inl ⟨by rfl, ?_⟩) (by assumption) ?_
    rotate_left
    · (intro w' hSw; (try dsimp only at hSw); go_simp <;> (with_reducible rfl))
    try simp only [Act.put, List.setIfInBounds_toArray, List.set_cons_zero, List.set_cons_succ]
    refine wpAnyH_ready (rs := [16]) (by kernel_rfl) (by simp) ?_
    refine AllReadyH.cons (o := ⟨none, _, _, _, _, _⟩) rfl (fun K' hK => ?_) AllReadyH.nil
    obtain ⟨f1, f2⟩ := HO.out.frozen2 j
    have hgb := (HO.out.lt).2
    obtain ⟨u1, u2⟩ := HO.out.cells hlt
    go_simp
    clear f1 f2 hgb u1 u2
    have HO2 := hide (HPU.out _ HO.out)
    replace HB := hide ((HB.out.setCell (p := ⟨gs, j * 2, none⟩) hwg (.int .i64 xr)).setCell (p := ⟨gs, j * 2 + 1, none⟩) hwg (.int .i64 xi))
    obtain ⟨w_2, hw_2⟩ : ∃ z : World, (w_1.setCell ⟨gs, j * 2, none⟩ (.int .i64 xr)).setCell ⟨gs, j * 2 + 1, none⟩ (.int .i64 xi) = z := ⟨_, rfl⟩
    rw [hw_2] at HO2 HB ⊢
    clear hw_2 HO
    refine hK.out _ _ (HYC.out _ HB.out) (fun hHeld => ?_)
    clear hK K'
    try simp only [Act.put, List.setIfInBounds_toArray, List.set_cons_zero, List.set_cons_succ]
    refine wpAnyH_done (by kernel_rfl) ?_ _
    clear hHeld HYC
    go_wp2_with fail
    go_roundw
    case rel => exact ⟨j + 1, by omega, by go_num, HO2, HB⟩
    case measure => simp [Go.RowKit.intOf]; omega
end Go.Proofs.YtcdplfjegopmdaaGreat
/- What TopSymbolLink's walk needs besides: received symbols keep the signs of what was sent, and turned back by the register they tell of it. -/
namespace Go.Proofs.YtcdplfjegopmdaaGreat
open Go Go.RowKit Go.Lib
theorem gatherF_leK {v n : Nat} {S : Nat → Int} {C : Nat} (hS : ∀ k, k < C → -1000000 ≤ S k ∧ S k ≤ 1000000) : ∀ {k}, k ≤ C → ∀ p, -((k : Int) * 1000000) ≤ K.gatherF v n S k p ∧ K.gatherF v n S k p ≤ (k : Int) * 1000000
  | 0, _, p => by simp [K.gatherF]
  | k + 1, hk, p => by
    have h := gatherF_leK (v := v) (n := n) hS (show k ≤ C by omega) p
    have h2 := hS k (by omega)
    unfold K.gatherF
    split
    · omega
    · omega
/-- Received symbols: with an error of the list added, or as they are. -/
def lnkR (g : Int) (P : Nat → Gau) (ne : Nat) (E : Nat → Gau) (j : Nat) : Gau := if ne = 0 then ⟨g * (P j).re, g * (P j).im⟩ else rcvF g P (fun j => E (j % ne)) j
theorem lnk_near {g : Int} {c C ne : Nat} {F : Nat → Int} {E : Nat → Gau} (hg : 1 ≤ g) : NearTo g c C F (lnkR g (ptF c F) ne E) := fun j hj => by
  unfold lnkR
  by_cases e : ne = 0
  · rw [if_pos e]
    exact ⟨0, 0, ⟨by omega, by omega⟩, ⟨by omega, by omega⟩, by rw [Int.add_zero, Int.add_zero]; rfl⟩
  · rw [if_neg e]
    exact rcv_near (E := fun j => E (j % ne)) hg j hj
theorem lnk_in {g : Int} {c C ne : Nat} {F : Nat → Int} {E : Nat → Gau} (hg : 1 ≤ g ∧ g ≤ 10000000) (h1 : 1 ≤ c) (h3 : c ≤ 3) (hF : ∀ q, q < C * (2 * c) → IsBit (F q)) {j : Nat} (hj : j < C) : (lnkR g (ptF c F) ne E j).Within 100000000 := by
  obtain ⟨a, b, ha, hb, e⟩ := lnk_near (c := c) (C := C) (ne := ne) (F := F) (E := E) hg.1 j hj
  obtain ⟨pa, pb⟩ := ptF_le h1 h3 hF hj
  have a2 := gl_le (g := g) hg pa
  have b2 := gl_le (g := g) hg pb
  unfold ptF at a2 b2
  rw [e]
  exact ⟨by simp only; omega, by simp only; omega⟩
theorem lnk_right {k g : Int} {c C ne : Nat} {F : Nat → Int} {E : Nat → Gau} (hk : ordE k = 0) (hg : 1 ≤ g ∧ g ≤ 10000000) (h1 : 1 ≤ c) (h3 : c ≤ 3) (hC : 0 < C ∧ C ≤ 200) (hF : ∀ q, q < C * (2 * c) → IsBit (F q)) : recvE k g C (lnkR g (ptF c F) ne E) = 0 := by
  unfold recvE
  rw [if_pos hk, if_pos (withinB_yes (by omega))]
  exact symsE_ok hC.1 hC.2 fun j hj => lnk_in hg h1 h3 hF hj
/-- A soft bit of at most 1000 in size, turned back. -/
def ownL (k Z : Nat → Int) (j : Nat) : Int := (1 - 2 * k j) * min 1000 (max (-1000) (Z j))
theorem own_tells {k Z : Nat → Int} {j : Nat} {s : Int} (hk : IsBit (k j)) (hs : IsBit s) (h0 : xor1 (k j) s = 0 → 0 < Z j) (h1 : xor1 (k j) s = 1 → Z j < 0) : K.Tells (ownL k Z j) s ∧ -1000 ≤ ownL k Z j ∧ ownL k Z j ≤ 1000 := by
  unfold ownL K.Tells
  obtain ⟨z, hz⟩ : ∃ z, Z j = z := ⟨_, rfl⟩
  rw [hz] at h0 h1 ⊢
  rcases hk with e | e <;> rcases hs with rfl | rfl <;> rw [e] at h0 h1 ⊢
  · have := h0 (by decide); omega
  · have := h1 (by decide); omega
  · have := h1 (by decide); omega
  · have := h0 (by decide); omega
theorem lnk_tells {x y q k n m v N : Nat} {F B S : Nat → Int} (hN : N = 2 ^ q) (hk : N ≤ k) (hk9 : k ≤ 400) (hS : ∀ j, j < k → K.Tells (S j) (K.sentF x y q n F m B v j) ∧ -1000 ≤ S j ∧ S j ≤ 1000) :
    (∀ i, i < N → K.Tells (K.gatherF v N S k i) (K.codeF x y q n m F B i)) ∧ (∀ i, i < N → -1000000000 ≤ K.gatherF v N S k i ∧ K.gatherF v N S k i ≤ 1000000000) := by
  refine ⟨fun i hi => K.gather_tells hk (fun j hj => ?_) hi, fun i hi => ?_⟩
  · have h2 := (hS j hj).1
    rw [K.sentF_code, ← hN] at h2
    exact h2
  · have h3 := gatherF_leK (v := v) (n := N) (S := S) (C := k) (fun j hj => by have := (hS j hj).2; omega) (Nat.le_refl k) i
    omega
/-- The error of equalizing by a right square matrix what is right: none, singular, or too large. -/
theorem eqE_cases {n q : Nat} {L : Nat → Nat} {X Y : Nat → Nat → Gau} (hm : matE n L X = 0) (hl : laysE n (fun _ => q) Y = 0) (hs : n = L 0) (h2 : n ≤ 2) : eqE n L X n (fun _ => q) Y = 0 ∨ eqE n L X n (fun _ => q) Y = 27 ∨ eqE n L X n (fun _ => q) Y = 8 := by
  have hd : detE n L X = 0 := by unfold detE; rw [if_pos hm, if_pos hs, if_neg (by omega)]
  unfold eqE
  rw [hd, hl, if_pos (show orS 0 0 = 0 from rfl), if_pos rfl]
  split
  · exact .inr (.inl rfl)
  · split
    · exact .inr (.inr rfl)
    · cases rowsB 100000000 n q fun r c => gsum (eqF n X (detV n L X)) Y r c n
      · exact .inr (.inr rfl)
      · exact .inl rfl
theorem appE_cases {n q : Nat} {L : Nat → Nat} {X Y : Nat → Nat → Gau} (hm : matE n L X = 0) (hl : laysE n (fun _ => q) Y = 0) (hs : n = L 0) :
    appE n L X n (fun _ => q) Y = 8 ∨ (appE n L X n (fun _ => q) Y = 0 ∧ laysE n (fun _ => q) (fun r c => gsum X Y r c n) = 0) := by
  have ok := laysE_zero hl
  have e : appE n L X n (fun _ => q) Y = lpE 100000000 n n n q X Y := by unfold appE; rw [hm, hl, if_pos (show orS 0 0 = 0 from rfl), ← hs]
  rw [e]
  unfold lpE
  rw [if_pos rfl]
  cases hb : rowsB 100000000 n q fun r c => gsum X Y r c n
  · exact .inl rfl
  · exact .inr ⟨rfl, laysE_ok ok.n1 ok.n4 ok.q1 ok.q9 hb⟩
/-- What was put on layers, applied, equalized and taken from the layers is as much larger as the gain. -/
theorem lnk_back {d q : Nat} {L : Nat → Nat} {X : Nat → Nat → Gau} {P : Nat → Gau} (hd : d = 1 ∨ d = 2) (hs : d = L 0) (he : eqE d L X d (fun _ => q) (fun r c => gsum X (fun i t => P (t * d + i)) r c d) = 0) :
    (1 ≤ eqG d L X d (fun _ => q) (fun r c => gsum X (fun i t => P (t * d + i)) r c d) ∧ eqG d L X d (fun _ => q) (fun r c => gsum X (fun i t => P (t * d + i)) r c d) ≤ 10000000) ∧
    (∀ r c, r < d → gsum (eqF d X (detV d L X)) (fun r c => gsum X (fun i t => P (t * d + i)) r c d) r c d = ⟨eqG d L X d (fun _ => q) (fun r c => gsum X (fun i t => P (t * d + i)) r c d) * (P (c * d + r)).re, eqG d L X d (fun _ => q) (fun r c => gsum X (fun i t => P (t * d + i)) r c d) * (P (c * d + r)).im⟩) := by
  obtain ⟨hdz, hg1, hg7⟩ := eqE_parts he
  have hgg : eqG d L X d (fun _ => q) (fun r c => gsum X (fun i t => P (t * d + i)) r c d) = gainG (detV d L X) := if_pos he
  have hdv : detV d L X = detG d X := if_pos hdz
  rw [hdv] at hg1 hg7 hgg
  rw [hgg, hdv]
  exact ⟨⟨hg1, hg7⟩, fun r c hr => taken_off X (fun i t => P (t * d + i)) hd r c hr⟩
theorem lnk_lays {d q : Nat} {L : Nat → Nat} {X Y : Nat → Nat → Gau} (hl : laysE d (fun _ => q) Y = 0) (he : eqE d L X d (fun _ => q) Y = 0) : laysE d (fun _ => q) (fun r c => gsum (eqF d X (detV d L X)) Y r c d) = 0 := by
  have ok := laysE_zero hl
  have hp := eqE_parts he
  unfold eqE at he
  rw [hp.1, hl, if_pos (show orS 0 0 = 0 from rfl), if_pos rfl, if_neg (by omega), if_neg (by omega)] at he
  cases hb : rowsB 100000000 d q fun r c => gsum (eqF d X (detV d L X)) Y r c d
  · rw [hb] at he; exact absurd he (by decide)
  · exact laysE_ok ok.n1 ok.n4 ok.q1 ok.q9 hb
theorem unl_at {d q : Nat} {G : Int} {P : Nat → Gau} {Y : Nat → Nat → Gau} (hd : 1 ≤ d) (hY : ∀ r c, r < d → Y r c = ⟨G * (P (c * d + r)).re, G * (P (c * d + r)).im⟩) (i : Nat) : unlF d Y i = ⟨G * (P i).re, G * (P i).im⟩ := by
  unfold unlF
  rw [hY _ _ (Nat.mod_lt i hd), show i / d * d + i % d = i by rw [Nat.mul_comm]; exact Nat.div_add_mod i d]
end Go.Proofs.YtcdplfjegopmdaaGreat
/- Nb of chapter 02, in a namespace of its own. -/
namespace Go.Proofs.YtcdplfjegopmdaaGreat.K
open Go.RowKit Go.Shelf
set_option maxHeartbeats 4000000 in
set_option maxRecDepth 100000 in
theorem coded_any (w : World) : Calls Tryz.prog 4 #[] w fun e w' => e = .returned (.bool true) ∧ Below w.heap.size w w' := by
  go_enter Tryz.func4, Tryz.ntmps4
  go_wp2_with fail
  refine (Remainder_ok 3 3 (some ⟨w.heap.size, 0, none⟩) 1 1 (getL [1]) _ (by decide) (by decide) (by decide) (by decide) (by decide) (by decide) (IntsAt.of_box [1] 1 rfl (Box.made rfl) (Nat.zero_le _)) (isBits_doc _ _ (by decide))).mono ?_
  rintro e w2 ⟨v2, rfl, A2, c2, rfl, hc2, hI2, hb2⟩
  have hB2 : Below w.heap.size w w2 := below_of_alloc hb2
  clear hb2
  go_wp2_with fail
  refine (Decode_ok 2 4 (some ⟨w2.heap.size, 0, none⟩) (some ⟨w2.heap.size + 1, 0, none⟩) 3 3 4 (getL [1, 2, 3]) (getL [4, 3, -2, -5]) _ polarOk_doc (by decide) (by decide) (IntsAt.of_box [1, 2, 3] 3 rfl ((Box.made rfl).alloc _) (Nat.zero_le _)) (IntsAt.of_box [4, 3, -2, -5] 4 rfl (Box.made (by simp)) (Nat.zero_le _)) (by decide) (by decide) (fun k hk => by match k, hk with | 0, _ => decide | 1, _ => decide | 2, _ => decide | 3, _ => decide)).mono ?_
  rintro e w6 ⟨v6, rfl, A6, c6, rfl, hc6, hI6, hb6⟩
  have hb6' : Below w2.heap.size w2 w6 := below_of_alloc (below_of_alloc hb6)
  have hB6 : Below w.heap.size w w6 := hB2.trans (hb6'.mono hB2.size)
  have hJ6 := hI2.below hb6'
  clear hb6 hb6' hB2 hI2
  go_wp2_with fail
  refine (ints_b A2 (some ⟨w6.heap.size, 0, none⟩) 3 3 c2 3 _ (getL [0, 1, 1]) _ (by decide) (by decide) ((hJ6.weak (Nat.zero_le _)).alloc _) (IntsAt.of_box [0, 1, 1] 3 rfl (Box.made rfl) (Nat.zero_le _))).mono ?_
  rintro e x1 ⟨rfl, hc1'⟩
  rw [show intsB 3 (remB 3 3 1 (getL [1])) 3 (getL [0, 1, 1]) = true from by decide]
  have hC1 : Below w.heap.size w x1 := hB6.trans ((below_of_alloc hc1').mono hB6.size)
  have hJ7 := hI6.below (below_of_alloc hc1')
  go_wp2_with fail
  refine (ints_b A6 (some ⟨x1.heap.size, 0, none⟩) 3 3 c6 3 _ (getL [1, 0, 1]) _ (by decide) (by decide) ((hJ7.weak (Nat.zero_le _)).alloc _) (IntsAt.of_box [1, 0, 1] 3 rfl (Box.made rfl) (Nat.zero_le _))).mono ?_
  rintro e x3 ⟨rfl, hc3'⟩
  rw [show intsB 3 (fun k => cancelF 2 (fun x => isPos (getL [1, 2, 3]) x 3) (getL [4, 3, -2, -5]) (getL [1, 2, 3] k).toNat) 3 (getL [1, 0, 1]) = true from by decide]
  have hC3 : Below w.heap.size w x3 := hC1.trans ((below_of_alloc hc3').mono hC1.size)
  go_wp2_with fail
  go_ret
  exact ⟨rfl, hC3⟩
end Go.Proofs.YtcdplfjegopmdaaGreat.K
