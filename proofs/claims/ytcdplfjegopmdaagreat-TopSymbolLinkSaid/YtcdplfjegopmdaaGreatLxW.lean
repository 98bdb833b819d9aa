/- Lemmas: Sb1. -/
import Derived.Deep.DeepCutAuto
import Derived.Deep.CutBlock
import Derived.Lib.MinMax
import Derived.Test.YtcdplfjegopmdaaGreatBk07
import Derived.Test.YtcdplfjegopmdaaGreatBk13
import Derived.Test.YtcdplfjegopmdaaGreatBk18
import Derived.Test.YtcdplfjegopmdaaGreatBk26
import Derived.Test.YtcdplfjegopmdaaGreatBk27
import Derived.Test.YtcdplfjegopmdaaGreatBk28
import Derived.Test.YtcdplfjegopmdaaGreatBk29
set_option linter.unusedVariables false
set_option linter.unusedSimpArgs false
/- The walk of TopSymbolLink. -/
namespace Go.Proofs.YtcdplfjegopmdaaGreat
open Go Go.RowKit Go.Lib
theorem tkA {P : Program} {ops : Array Oper} {Q : Exit → Act → World → Prop} {md : Region.Mode} {S : World → Prop} {i : Nat} {oi : Oper} {v : Value} {fuel : Nat} {listed : Array Bool} {a : Act} {w : World} (hi : ops[i]? = some oi)
    (hy : YieldsIf P ops S oi v a) (h : wpAnyH P md ops Q S fuel (listed.setIfInBounds i true) (a.put oi.dst v) w) (hs : Region.noSelect ops = true := by kernel_rfl) (hf : Region.free md ops listed i = true := by kernel_rfl) (hr : (Region.ready md ops listed).contains i = true := by kernel_rfl)
    (hQ : ∀ c a w, Q (.panic c) (a.put oi.dst v) w → Q (.panic c) a w := by exact fun _ _ _ h => h) (hS : S w := by assumption) : wpAnyH P md ops Q S (fuel + 1) listed a w := wpAnyH_take hi hs hf hr hQ hy hS h
theorem pA {α : Type} (l : List α) (i : Nat) (a : α) : l.toArray.setIfInBounds i a = (l.set i a).toArray := List.setIfInBounds_toArray ..
theorem pB {α : Type} (x : α) (l : List α) (a : α) : (x :: l).set 0 a = a :: l := rfl
theorem pC {α : Type} (x : α) (l : List α) (i : Nat) (a : α) : (x :: l).set (i + 1) a = x :: l.set i a := rfl
/-- A cell of memory. -/
structure Cel (W : World) (b o : Nat) (v : Value) : Prop where
  at_ : W.cell? ⟨b, o, none⟩ = some v
  lt : b < W.heap.size
theorem Cel.below {W W' : World} {b o : Nat} {v : Value} (h : Cel W b o v) (hb : Below W.heap.size W W') : Cel W' b o v := ⟨(hb.cell (p := ⟨b, o, none⟩) h.lt).trans h.at_, Nat.lt_of_lt_of_le h.lt hb.size⟩
theorem bitE_ok {n : Nat} {F : Nat → Int} (h0 : 0 < n) (h4 : n ≤ 400) (hb : ∀ j, j < n → IsBit (F j)) : bitE n F 400 = 0 := by
  unfold bitE
  rw [if_neg (by omega), if_neg (by omega), bitsB_iff.2 hb]
  rfl
theorem ord_ok {h : Nat} (h1 : 1 ≤ h) (h3 : h ≤ 3) : ordE (2 * (h : Int)) = 0 := by
  obtain rfl | rfl | rfl : h = 1 ∨ h = 2 ∨ h = 3 := by omega
  all_goals rfl
theorem modE_ok {h C k : Nat} {F : Nat → Int} (h1 : 1 ≤ h) (h3 : h ≤ 3) (hk : k = C * (2 * h)) (k0 : 0 < k) (k4 : k ≤ 400) (hb : ∀ j, j < k → IsBit (F j)) : modE (2 * (h : Int)) k F = 0 := by
  subst hk
  exact modE_right (ord_ok h1 h3) rfl (bitE_ok k0 k4 hb)
theorem link_nums {h mn kk : Nat} (h1 : 1 ≤ h) (h3 : h ≤ 3) (m1 : 1 ≤ mn) (m2 : mn ≤ 2) (k1 : 1 ≤ kk) (k8 : kk ≤ 80) (hr : kk % (2 * h * mn) = 0) : ∃ qq C : Nat, C = mn * qq ∧ kk = C * (2 * h) ∧ 1 ≤ qq ∧ qq ≤ 40 ∧ 1 ≤ C ∧ C ≤ 40 ∧ (kk : Int).tdiv (2 * (h : Int)) = (C : Int) := by
  obtain ⟨qq, hq⟩ := Nat.dvd_of_mod_eq_zero hr
  refine ⟨qq, mn * qq, rfl, by rw [hq]; simp [Nat.mul_comm, Nat.mul_left_comm, Nat.mul_assoc], ?_⟩
  rw [Int.tdiv_eq_ediv_of_nonneg (by omega)]
  obtain rfl | rfl | rfl : h = 1 ∨ h = 2 ∨ h = 3 := by omega
  all_goals
    obtain rfl | rfl : mn = 1 ∨ mn = 2 := by omega
    all_goals omega
theorem plane_in {P : Nat → Gau} {C mn qq : Nat} (hC : C = mn * qq) (hP : ∀ j, j < C → (P j).Within 100000000) (m1 : 1 ≤ mn) (m4 : mn ≤ 4) (q1 : 1 ≤ qq) (q9 : qq ≤ 200) : laysE mn (fun _ => qq) (fun i t => P (t * mn + i)) = 0 :=
  laysE_ok m1 m4 q1 q9 (rowsB_iff.2 fun i hi => insideB_iff.2 fun t ht => hP _ (by
    subst hC
    have : (t + 1) * mn ≤ qq * mn := Nat.mul_le_mul_right _ ht
    rw [Nat.add_mul, Nat.one_mul] at this
    rw [Nat.mul_comm mn qq]
    omega))
theorem step_append_oneI {ops : Array Oper} {o : Oper} {a : Act} {K : Act → World → Prop} {Q : Exit → Act → World → Prop} {E : Prop} (w : World) (hgd : o.guard = none) (s x : Operand)
    (ho : o.op = .call { callee := .builtin .append, args := #[s, x], argTypes := #[24, 24] })
    (base : Nat) (v : Value) (n : Nat) (F : Nat → Int) (hs : a.eval s = v) (hown : OwnInts w base v n F)
    (g c : Nat) (y : Int) (hx : a.eval x = .slice (some ⟨g, 0, none⟩) 1 c) (hr : Box w g 3 #[.int .i64 y]) (hn : n ≤ 1000000) (hbase : base ≤ w.heap.size)
    (h : ∀ v' w', OwnInts w' base v' (n + 1) (fun j => if j < n then F j else y) → Below base w w' → K (a.put o.dst v') w') :
    if Region.wanted o (yielded ops a.tmps) = true then Oper.wp Tryz.prog o a w K Q else E :=
  step_append_twoI w hgd s x ho base 0 v n F hs hown g 1 c (fun _ => y) hx (fun i hi => ⟨g, 0, rfl, Nat.zero_le _, hr.lt, by obtain rfl : i = 0 := (by omega); exact hr.at_ 0⟩) (by omega) hbase
    fun v' w' h1 h2 _ => h v' w' h1 ((Below.refl _ _).grown h2 hbase (fun k hk => (World.ownsRow.lt hown k hk).1))
theorem ownP_form {w : World} {base n : Nat} {v : Value} {V : Nat → Value} {L : Nat → Nat} {F : Nat → Nat → Gau} (h : OwnPlane w base v n V L F) : ∃ A c, v = .slice A n c ∧ MatsAt w 0 A n L F := by
  obtain ⟨A, c, h1, -, -, h2⟩ := h.form
  exact ⟨A, c, h1, h2.weak (Nat.zero_le _)⟩
/-- The received symbols, the first j of them with their errors. -/
def fillL (G : Int) (P : Nat → Gau) (en : Nat) (E : Nat → Gau) (j q : Nat) : Gau := if q < j then lnkR G P en E q else ⟨G * (P q).re, G * (P q).im⟩
theorem fillL_put {G : Int} {P : Nat → Gau} {en : Nat} {E : Nat → Gau} {j : Nat} {z : Gau} (h : lnkR G P en E j = z) : setGau (fillL G P en E j) j z = fillL G P en E (j + 1) := by
  funext q
  unfold setGau fillL
  by_cases e : q = j
  · subst e; rw [if_pos rfl, if_pos (by omega), h]
  · rw [if_neg e]
    by_cases hq : q < j
    · rw [if_pos hq, if_pos (by omega)]
    · rw [if_neg hq, if_neg (by omega)]
theorem fillL_cells {W : World} {base g c C j : Nat} {G : Int} {P : Nat → Gau} {en : Nat} {E : Nat → Gau} (h : OwnGaus W base (.slice (some ⟨g, 0, none⟩) C c) C (fillL G P en E j)) (hj : j < C) : W.cell? ⟨g, j * 2, none⟩ = some (.int .i64 (G * (P j).re)) ∧ W.cell? ⟨g, j * 2 + 1, none⟩ = some (.int .i64 (G * (P j).im)) := by
  have e : fillL G P en E j j = ⟨G * (P j).re, G * (P j).im⟩ := if_neg (Nat.lt_irrefl j)
  have h1 := h.cells hj
  rw [e] at h1
  exact h1
theorem lnkR_at {G : Int} {P : Nat → Gau} {en : Nat} {E : Nat → Gau} {j : Nat} (h : ¬ en = 0) : lnkR G P en E j = ⟨G * (P j).re + ((E (j % en)).re % (2 * G - 1) - G + 1), G * (P j).im + ((E (j % en)).im % (2 * G - 1) - G + 1)⟩ := if_neg h
theorem fill_last {C en : Nat} {G : Int} {P : Nat → Gau} {E : Nat → Gau} {i : Nat} (h : i = C ∨ en = 0) (j : Nat) (hj : j < C) : fillL G P en E i j = lnkR G P en E j := by
  unfold fillL
  rcases h with rfl | h
  · exact if_pos hj
  · split
    · rfl
    · unfold lnkR; rw [if_pos h]
theorem unl_ok (A : Option Addr) (n c q : Nat) (F : Nat → Nat → Gau) (w : World) (hn : n ≤ 100000) (hq : q ≤ 100000) (hz : laysE n (fun _ => q) F = 0) (hI : MatsAt w 0 A n (fun _ => q) F) :
    Calls Tryz.prog 28 #[.slice A n c] w fun e w' => ∃ v, e = .returned (.tuple #[v, .int .i64 0]) ∧ OwnGaus w' w.heap.size v (n * q) (unlF n F) ∧ Below w.heap.size w w' := by
  have h := Unlayered_any A n c (fun _ => q) F w hn (fun _ _ => hq) hI
  refine h.mono ?_
  rintro e w' ⟨v, he, ⟨h1, -⟩, h2⟩
  rw [hz] at he
  exact ⟨v, he, h1 hz, h2⟩
theorem unl_own {W : World} {base C mn qq : Nat} {v : Value} {G : Int} {P : Nat → Gau} {Y : Nat → Nat → Gau} (hC : C = mn * qq) (hm : 1 ≤ mn) (hY : ∀ r c, r < mn → Y r c = ⟨G * (P (c * mn + r)).re, G * (P (c * mn + r)).im⟩) (h : OwnGaus W base v (mn * qq) (unlF mn Y)) :
    ∃ A c, v = .slice A C c ∧ GausAt W 0 A C (fun j => ⟨G * (P j).re, G * (P j).im⟩) := by
  rw [← hC] at h
  obtain ⟨A, c, h1, -, h2⟩ := ownGaus_form h
  exact ⟨A, c, h1, (h2.weak (lo' := 0) (Nat.zero_le _)).congr fun j _ => unl_at (q := 0) hm hY j⟩
theorem mats_len {w : World} {lo n : Nat} {A : Option Addr} {L : Nat → Nat} {F : Nat → Nat → Gau} (h : MatsAt w lo A n L F) (i : Nat) (hi : i < n) : L i ≤ 9223372036854775807 := by
  obtain ⟨b, o, Ai, ci, -, -, -, -, h4, h5, -⟩ := h i hi
  exact Nat.le_trans h4 h5
set_option maxHeartbeats 64000000 in
set_option maxRecDepth 100000 in
theorem topSymbolLink_walk (d t p k v L o : Int) (A TA SA MA EA Q : Option Addr) (n c tn tc sm sd mn mc en ec m e : Nat) (F T S B : Nat → Int) (ML : Nat → Nat) (X : Nat → Nat → Gau) (E : Nat → Gau) (w : World) (hn : n ≤ 9223372036854775807) (hm : m ≤ 9223372036854775807) (hen : en ≤ 9223372036854775807)
 (hI : IntsAt w 0 A n F) (hT : IntsAt w 0 TA tn T) (hS : IntsAt w 0 SA sm S) (hM : MatsAt w 0 MA mn ML X) (hE : GausAt w 0 EA en E) (hB : IntsAt w 0 Q m B) :
 Calls Tryz.prog 3 #[.agg #[.int .i64 d, .int .i64 t, .int .i64 p, .slice A n c, .int .i64 k, .int .i64 v, .int .i64 L, .slice TA tn tc, .slice SA sm sd, .int .i64 o, .slice MA mn mc, .slice EA en ec], .slice Q m e] w fun r w' => r = .returned (.bool true) ∧ Below w.heap.size w w' := by
 have HFF := hide hI
 have HTT := hide hT
 have HSS := hide hS
 have HMM := hide hM
 have HEE := hide hE
 have HQB := hide hB
 have HB := hide (Below.refl w.heap.size w)
 have HCR := hide (fun W h1 h2 => K.codeRight_any d t p k A Q n c m e F B W hn hm h1 h2)
 have HRO := hide (fun h => K.sendOk_of (d := d) (t := t) (p := p) (k := k) (n := n) (m := m) (F := F) (B := B) h)
 obtain ⟨r0, hr0⟩ : ∃ z, K.codeRightB d t p n F k m B = z := ⟨_, rfl⟩
 simp only [hr0] at HCR HRO
 clear hI hT hS hM hE hB hr0
 go_enter Tryz.func3, Tryz.ntmps3
 go_upto_region 1 with fail
 obtain ⟨v1, hv1⟩ : ∃ z : World, z = (w.alloc (.cells #[.int .i64 d, .int .i64 t, .int .i64 p, .slice A n c, .int .i64 k, .int .i64 v, .int .i64 L, .slice TA tn tc, .slice SA sm sd, .int .i64 o, .slice MA mn mc, .slice EA en ec] 34)) := ⟨_, rfl⟩
 try rw [← hv1]
 have HX := hide (show Box v1 (w.heap.size) 34 #[.int .i64 d, .int .i64 t, .int .i64 p, .slice A n c, .int .i64 k, .int .i64 v, .int .i64 L, .slice TA tn tc, .slice SA sm sd, .int .i64 o, .slice MA mn mc, .slice EA en ec] by rw [hv1]; exact Box.made rfl)
 have hb1 : Below w.heap.size w v1 := by rw [hv1]; (repeat (first | (with_reducible exact Below.refl _ _) | (with_reducible refine Go.below_drewN ?_ _) | (with_reducible refine Below.drew ?_) | (with_reducible refine Below.alloc ?_ (by first | exact Nat.le_refl _ | (simp; done) | (simp; omega) | omega) _) | (with_reducible refine Below.setCell ?_ (by first | exact Nat.le_refl _ | (simp; done) | (simp; omega) | omega) _)))
 clear hv1
 replace HFF := hide (HFF.out.below hb1)
 replace HTT := hide (HTT.out.below hb1)
 replace HSS := hide (HSS.out.below hb1)
 replace HMM := hide (HMM.out.below hb1)
 replace HEE := hide (HEE.out.below hb1)
 replace HQB := hide (HQB.out.below hb1)
 replace HB := hide (HB.out.trans (hb1.mono HB.out.size))
 clear hb1
 obtain ⟨b1, eb1⟩ : ∃ z, w.heap.size = z := ⟨_, rfl⟩
 simp only [eb1] at HX
 try simp only [eb1]
 clear eb1
 go_wp2_with fail
 refine (K.coded_any _).mono ?_
 rintro e_ v2 ⟨rfl, hb2⟩
 replace HFF := hide (HFF.out.below hb2)
 replace HTT := hide (HTT.out.below hb2)
 replace HSS := hide (HSS.out.below hb2)
 replace HMM := hide (HMM.out.below hb2)
 replace HEE := hide (HEE.out.below hb2)
 replace HQB := hide (HQB.out.below hb2)
 replace HX := hide (HX.out.below hb2)
 replace HB := hide (HB.out.trans (hb2.mono HB.out.size))
 clear hb2
 go_wp2_with fail
 refine (symbolAwake_any _).mono ?_
 rintro e_ v3 ⟨rfl, hb3⟩
 replace HFF := hide (HFF.out.below hb3)
 replace HTT := hide (HTT.out.below hb3)
 replace HSS := hide (HSS.out.below hb3)
 replace HMM := hide (HMM.out.below hb3)
 replace HEE := hide (HEE.out.below hb3)
 replace HQB := hide (HQB.out.below hb3)
 replace HX := hide (HX.out.below hb3)
 replace HB := hide (HB.out.trans (hb3.mono HB.out.size))
 clear hb3
 obtain ⟨y1, y2, y3, y4, y5, y6⟩ := (⟨HX.out.at_ 0, HX.out.at_ 1, HX.out.at_ 2, HX.out.at_ 3, HX.out.at_ 4, HX.out.lt⟩ : _ ∧ _ ∧ _ ∧ _ ∧ _ ∧ _)
 go_upto_region 4 with fail
 clear y1 y2 y3 y4 y5 y6
 obtain ⟨v4, hv4⟩ : ∃ z : World, z = (v3.alloc (.cells #[.int .i64 d, .int .i64 t, .int .i64 p, .slice A n c, .int .i64 k] 28)) := ⟨_, rfl⟩
 try rw [← hv4]
 have HC := hide (show Box v4 (v3.heap.size) 28 #[.int .i64 d, .int .i64 t, .int .i64 p, .slice A n c, .int .i64 k] by rw [hv4]; exact Box.made rfl)
 have hb4 : Below v3.heap.size v3 v4 := by rw [hv4]; (repeat (first | (with_reducible exact Below.refl _ _) | (with_reducible refine Go.below_drewN ?_ _) | (with_reducible refine Below.drew ?_) | (with_reducible refine Below.alloc ?_ (by first | exact Nat.le_refl _ | (simp; done) | (simp; omega) | omega) _) | (with_reducible refine Below.setCell ?_ (by first | exact Nat.le_refl _ | (simp; done) | (simp; omega) | omega) _)))
 clear hv4
 replace HFF := hide (HFF.out.below hb4)
 replace HTT := hide (HTT.out.below hb4)
 replace HSS := hide (HSS.out.below hb4)
 replace HMM := hide (HMM.out.below hb4)
 replace HEE := hide (HEE.out.below hb4)
 replace HQB := hide (HQB.out.below hb4)
 replace HX := hide (HX.out.below hb4)
 replace HB := hide (HB.out.trans (hb4.mono HB.out.size))
 clear hb4
 obtain ⟨b4, eb4⟩ : ∃ z, v3.heap.size = z := ⟨_, rfl⟩
 simp only [eb4] at HC
 try simp only [eb4]
 clear eb4
 cases r0
 case false =>
  as_aux_lemma =>
   have HNUM := hide (⟨hn, hm, hen⟩ : _ ∧ _ ∧ _)
   clear hn hm hen
   refine wp_region_held_drew (S := fun w' => w'.cell? ⟨b4, 0, none⟩ = some (.int .i64 (d : Int)) ∧ w'.cell? ⟨b4, 1, none⟩ = some (.int .i64 (t : Int)) ∧ w'.cell? ⟨b4, 2, none⟩ = some (.int .i64 (p : Int)) ∧ w'.cell? ⟨b4, 3, none⟩ = some (.slice A n c) ∧ w'.cell? ⟨b4, 4, none⟩ = some (.int .i64 (k : Int)) ∧ w'.cell? ⟨b1, 5, none⟩ = some (.int .i64 v) ∧ w'.cell? ⟨b1, 6, none⟩ = some (.int .i64 L) ∧ w'.cell? ⟨b1, 7, none⟩ = some (.slice TA tn tc) ∧ w'.cell? ⟨b1, 8, none⟩ = some (.slice SA sm sd) ∧ w'.cell? ⟨b1, 9, none⟩ = some (.int .i64 o)) (by kernel_rfl) ⟨HC.out.at_ 0, HC.out.at_ 1, HC.out.at_ 2, HC.out.at_ 3, HC.out.at_ 4, HX.out.at_ 5, HX.out.at_ 6, HX.out.at_ 7, HX.out.at_ 8, HX.out.at_ 9⟩ (fun hHeld => ?_)
   obtain ⟨w_951, hw_951⟩ : ∃ q : World, q = v4.drew := ⟨_, rfl⟩
   rw [← hw_951] at hHeld ⊢
   have hc_951 : Below v4.heap.size v4 w_951 := by rw [hw_951]; exact (Below.refl _ _).drew
   clear hw_951
   replace HFF := hide (HFF.out.below hc_951)
   replace HTT := hide (HTT.out.below hc_951)
   replace HSS := hide (HSS.out.below hc_951)
   replace HMM := hide (HMM.out.below hc_951)
   replace HEE := hide (HEE.out.below hc_951)
   replace HQB := hide (HQB.out.below hc_951)
   replace HX := hide (HX.out.below hc_951)
   replace HC := hide (HC.out.below hc_951)
   replace HB := hide (HB.out.trans (hc_951.mono HB.out.size))
   clear hc_951
   refine tkA (i := 0) (oi := ⟨some 43, _, _, _, _, _⟩) (v := ?_) rfl (Or.inl ⟨by rfl, ?_⟩) ?_
   rotate_left
   · (intro w' hSw; (try dsimp only at hSw); go_simp <;> (with_reducible rfl))
   try simp only [Act.put, pA, pB, pC]
   refine tkA (i := 1) (oi := ⟨some 44, _, _, _, _, _⟩) (v := ?_) rfl (Or.inl ⟨by rfl, ?_⟩) ?_
   rotate_left
   · (intro w' hSw; (try dsimp only at hSw); go_simp <;> (with_reducible rfl))
   try simp only [Act.put, pA, pB, pC]
   refine wpAnyH_ready (rs := [2]) (by kernel_rfl) (by simp) ?_
   refine AllReadyH.cons (o := ⟨some 45, _, _, _, _, _⟩) rfl (fun K' hK => ?_) AllReadyH.nil
   go_simp
   go_at_call 6
   refine (HCR.out _ HFF.out HQB.out).mono ?_
   rintro e_ w_952 ⟨rfl, hb_952⟩
   replace HFF := hide (HFF.out.below hb_952)
   replace HTT := hide (HTT.out.below hb_952)
   replace HSS := hide (HSS.out.below hb_952)
   replace HMM := hide (HMM.out.below hb_952)
   replace HEE := hide (HEE.out.below hb_952)
   replace HQB := hide (HQB.out.below hb_952)
   replace HX := hide (HX.out.below hb_952)
   replace HC := hide (HC.out.below hb_952)
   replace HB := hide (HB.out.trans (hb_952.mono HB.out.size))
   clear hb_952
   go_wp2_with fail
   refine hK.out _ _ ⟨HC.out.at_ 0, HC.out.at_ 1, HC.out.at_ 2, HC.out.at_ 3, HC.out.at_ 4, HX.out.at_ 5, HX.out.at_ 6, HX.out.at_ 7, HX.out.at_ 8, HX.out.at_ 9⟩ (fun hHeld => ?_)
   clear hK K'
   try simp only [Act.put, pA, pB, pC]
   refine tkA (i := 3) (oi := ⟨some 46, _, _, _, _, _⟩) (v := (.bool true)) rfl (Or.inl ⟨by rfl, fun w' hSw => by go_simp⟩) ?_
   try simp only [Act.put, pA, pB, pC]
   refine tkA (i := 4) (oi := ⟨some 47, _, _, _, _, _⟩) (v := ?_) rfl (Or.inl ⟨by rfl, ?_⟩) ?_
   rotate_left
   · (intro w' hSw; (try dsimp only at hSw); go_simp <;> (with_reducible rfl))
   try simp only [Act.put, pA, pB, pC]
   refine tkA (i := 5) (oi := ⟨some 48, _, _, _, _, _⟩) (v := undef) rfl (Or.inr ⟨by rfl, by rfl⟩) ?_
   try simp only [Act.put, pA, pB, pC]
   refine tkA (i := 6) (oi := ⟨some 49, _, _, _, _, _⟩) (v := undef) rfl (Or.inr ⟨by rfl, by rfl⟩) ?_
   try simp only [Act.put, pA, pB, pC]
   refine tkA (i := 7) (oi := ⟨some 50, _, _, _, _, _⟩) (v := undef) rfl (Or.inr ⟨by rfl, by rfl⟩) ?_
   try simp only [Act.put, pA, pB, pC]
   refine tkA (i := 8) (oi := ⟨some 51, _, _, _, _, _⟩) (v := undef) rfl (Or.inr ⟨by rfl, by rfl⟩) ?_
   try simp only [Act.put, pA, pB, pC]
   refine tkA (i := 9) (oi := ⟨some 52, _, _, _, _, _⟩) (v := undef) rfl (Or.inr ⟨by rfl, by rfl⟩) ?_
   try simp only [Act.put, pA, pB, pC]
   refine tkA (i := 10) (oi := ⟨some 53, _, _, _, _, _⟩) (v := undef) rfl (Or.inr ⟨by rfl, by rfl⟩) ?_
   try simp only [Act.put, pA, pB, pC]
   refine tkA (i := 11) (oi := ⟨some 54, _, _, _, _, _⟩) (v := (.bool true)) rfl (Or.inl ⟨by rfl, fun w' hSw => by go_simp⟩) ?_
   try simp only [Act.put, pA, pB, pC]
   refine tkA (i := 12) (oi := ⟨some 55, _, _, _, _, _⟩) (v := ?_) rfl (Or.inl ⟨by rfl, ?_⟩) ?_
   rotate_left
   · (intro w' hSw; (try dsimp only at hSw); go_simp <;> (with_reducible rfl))
   try simp only [Act.put, pA, pB, pC]
   refine tkA (i := 13) (oi := ⟨some 56, _, _, _, _, _⟩) (v := undef) rfl (Or.inr ⟨by rfl, by rfl⟩) ?_
   try simp only [Act.put, pA, pB, pC]
   refine tkA (i := 14) (oi := ⟨some 57, _, _, _, _, _⟩) (v := undef) rfl (Or.inr ⟨by rfl, by rfl⟩) ?_
   try simp only [Act.put, pA, pB, pC]
   refine tkA (i := 15) (oi := ⟨some 58, _, _, _, _, _⟩) (v := undef) rfl (Or.inr ⟨by rfl, by rfl⟩) ?_
   try simp only [Act.put, pA, pB, pC]
   refine tkA (i := 16) (oi := ⟨some 59, _, _, _, _, _⟩) (v := undef) rfl (Or.inr ⟨by rfl, by rfl⟩) ?_
   try simp only [Act.put, pA, pB, pC]
   refine tkA (i := 17) (oi := ⟨some 60, _, _, _, _, _⟩) (v := (.bool true)) rfl (Or.inl ⟨by rfl, fun w' hSw => by go_simp⟩) ?_
   try simp only [Act.put, pA, pB, pC]
   refine tkA (i := 18) (oi := ⟨some 61, _, _, _, _, _⟩) (v := ?_) rfl (Or.inl ⟨by rfl, ?_⟩) ?_
   rotate_left
   · (intro w' hSw; (try dsimp only at hSw); go_simp <;> (with_reducible rfl))
   try simp only [Act.put, pA, pB, pC]
   refine tkA (i := 19) (oi := ⟨some 62, _, _, _, _, _⟩) (v := undef) rfl (Or.inr ⟨by rfl, by rfl⟩) ?_
   try simp only [Act.put, pA, pB, pC]
   refine tkA (i := 20) (oi := ⟨some 63, _, _, _, _, _⟩) (v := undef) rfl (Or.inr ⟨by rfl, by rfl⟩) ?_
   try simp only [Act.put, pA, pB, pC]
   refine tkA (i := 21) (oi := ⟨some 64, _, _, _, _, _⟩) (v := undef) rfl (Or.inr ⟨by rfl, by rfl⟩) ?_
   try simp only [Act.put, pA, pB, pC]
   refine tkA (i := 22) (oi := ⟨some 65, _, _, _, _, _⟩) (v := undef) rfl (Or.inr ⟨by rfl, by rfl⟩) ?_
   try simp only [Act.put, pA, pB, pC]
   refine tkA (i := 23) (oi := ⟨some 66, _, _, _, _, _⟩) (v := undef) rfl (Or.inr ⟨by rfl, by rfl⟩) ?_
   try simp only [Act.put, pA, pB, pC]
   refine tkA (i := 24) (oi := ⟨some 67, _, _, _, _, _⟩) (v := (.bool true)) rfl (Or.inl ⟨by rfl, fun w' hSw => by go_simp⟩) ?_
   try simp only [Act.put, pA, pB, pC]
   refine tkA (i := 25) (oi := ⟨some 68, _, _, _, _, _⟩) (v := ?_) rfl (Or.inl ⟨by rfl, ?_⟩) ?_
   rotate_left
   · (intro w' hSw; (try dsimp only at hSw); go_simp <;> (with_reducible rfl))
   try simp only [Act.put, pA, pB, pC]
   refine tkA (i := 26) (oi := ⟨some 69, _, _, _, _, _⟩) (v := undef) rfl (Or.inr ⟨by rfl, by rfl⟩) ?_
   try simp only [Act.put, pA, pB, pC]
   refine tkA (i := 27) (oi := ⟨some 70, _, _, _, _, _⟩) (v := undef) rfl (Or.inr ⟨by rfl, by rfl⟩) ?_
   try simp only [Act.put, pA, pB, pC]
   refine tkA (i := 28) (oi := ⟨some 71, _, _, _, _, _⟩) (v := undef) rfl (Or.inr ⟨by rfl, by rfl⟩) ?_
   try simp only [Act.put, pA, pB, pC]
   refine tkA (i := 29) (oi := ⟨some 72, _, _, _, _, _⟩) (v := undef) rfl (Or.inr ⟨by rfl, by rfl⟩) ?_
   try simp only [Act.put, pA, pB, pC]
   refine tkA (i := 30) (oi := ⟨some 73, _, _, _, _, _⟩) (v := undef) rfl (Or.inr ⟨by rfl, by rfl⟩) ?_
   try simp only [Act.put, pA, pB, pC]
   refine tkA (i := 31) (oi := ⟨some 74, _, _, _, _, _⟩) (v := (.bool true)) rfl (Or.inl ⟨by rfl, fun w' hSw => by go_simp⟩) ?_
   try simp only [Act.put, pA, pB, pC]
   refine tkA (i := 32) (oi := ⟨some 75, _, _, _, _, _⟩) (v := ?_) rfl (Or.inl ⟨by rfl, ?_⟩) ?_
   rotate_left
   · (intro w' hSw; (try dsimp only at hSw); go_simp <;> (with_reducible rfl))
   try simp only [Act.put, pA, pB, pC]
   refine tkA (i := 33) (oi := ⟨some 76, _, _, _, _, _⟩) (v := undef) rfl (Or.inr ⟨by rfl, by rfl⟩) ?_
   try simp only [Act.put, pA, pB, pC]
   refine tkA (i := 34) (oi := ⟨some 77, _, _, _, _, _⟩) (v := undef) rfl (Or.inr ⟨by rfl, by rfl⟩) ?_
   try simp only [Act.put, pA, pB, pC]
   refine tkA (i := 35) (oi := ⟨some 78, _, _, _, _, _⟩) (v := undef) rfl (Or.inr ⟨by rfl, by rfl⟩) ?_
   try simp only [Act.put, pA, pB, pC]
   refine tkA (i := 36) (oi := ⟨some 79, _, _, _, _, _⟩) (v := undef) rfl (Or.inr ⟨by rfl, by rfl⟩) ?_
   try simp only [Act.put, pA, pB, pC]
   refine tkA (i := 37) (oi := ⟨some 80, _, _, _, _, _⟩) (v := (.bool true)) rfl (Or.inl ⟨by rfl, fun w' hSw => by go_simp⟩) ?_
   try simp only [Act.put, pA, pB, pC]
   refine tkA (i := 38) (oi := ⟨some 81, _, _, _, _, _⟩) (v := ?_) rfl (Or.inl ⟨by rfl, ?_⟩) ?_
   rotate_left
   · (intro w' hSw; (try dsimp only at hSw); go_simp <;> (with_reducible rfl))
   try simp only [Act.put, pA, pB, pC]
   refine tkA (i := 39) (oi := ⟨some 82, _, _, _, _, _⟩) (v := undef) rfl (Or.inr ⟨by rfl, by rfl⟩) ?_
   try simp only [Act.put, pA, pB, pC]
   refine tkA (i := 40) (oi := ⟨some 83, _, _, _, _, _⟩) (v := undef) rfl (Or.inr ⟨by rfl, by rfl⟩) ?_
   try simp only [Act.put, pA, pB, pC]
   refine tkA (i := 41) (oi := ⟨some 84, _, _, _, _, _⟩) (v := undef) rfl (Or.inr ⟨by rfl, by rfl⟩) ?_
   try simp only [Act.put, pA, pB, pC]
   refine tkA (i := 42) (oi := ⟨some 85, _, _, _, _, _⟩) (v := undef) rfl (Or.inr ⟨by rfl, by rfl⟩) ?_
   try simp only [Act.put, pA, pB, pC]
   refine tkA (i := 43) (oi := ⟨some 86, _, _, _, _, _⟩) (v := (.bool true)) rfl (Or.inl ⟨by rfl, fun w' hSw => by go_simp⟩) ?_
   try simp only [Act.put, pA, pB, pC]
   refine wpAnyH_done (by kernel_rfl) ?_ _
   obtain ⟨hn, hm, hen⟩ := HNUM.out
   clear HNUM
   clear hHeld
   go_wp2_with fail
   go_ret
   exact ⟨rfl, HB.out⟩
 obtain ⟨x, y, q, kk, rfl, rfl, rfl, rfl, hok⟩ := HRO.out rfl
 have HOK := hide hok
 have hk1 := hok.k1
 have hk8 := hok.k80
 have hn66 := hok.n9
 have hsum := hok.sum
 have hq6 := hok.q6
 obtain ⟨N, hN⟩ : ∃ z : Nat, 2 ^ q = z := ⟨_, rfl⟩
 have hN2 : (2 : Int) ^ q = (N : Int) := by rw [← hN]; simp
 have HLN := hide (fun W => K.length_any q A n c W (by omega))
 simp only [hN2] at HLN
 have hN1 : 1 ≤ N ∧ N ≤ 64 := by rw [← hN]; exact hok.len
 have HNQ := hide hN
 clear hok hN hN2 HRO
 by_cases hkN : N ≤ kk
 case neg =>
  have tk : (kk : Int) < (N : Int) := by omega
  as_aux_lemma =>
   have HNUM := hide (⟨hn, hm, hen, hk1, hk8, hn66, hsum, hq6, hN1⟩ : _ ∧ _ ∧ _ ∧ _ ∧ _ ∧ _ ∧ _ ∧ _ ∧ _)
   clear hn hm hen hk1 hk8 hn66 hsum hq6 hN1
   refine wp_region_held_drew (S := fun w' => w'.cell? ⟨b4, 0, none⟩ = some (.int .i64 (x : Int)) ∧ w'.cell? ⟨b4, 1, none⟩ = some (.int .i64 (y : Int)) ∧ w'.cell? ⟨b4, 2, none⟩ = some (.int .i64 (q : Int)) ∧ w'.cell? ⟨b4, 3, none⟩ = some (.slice A n c) ∧ w'.cell? ⟨b4, 4, none⟩ = some (.int .i64 (kk : Int)) ∧ w'.cell? ⟨b1, 5, none⟩ = some (.int .i64 v) ∧ w'.cell? ⟨b1, 6, none⟩ = some (.int .i64 L) ∧ w'.cell? ⟨b1, 7, none⟩ = some (.slice TA tn tc) ∧ w'.cell? ⟨b1, 8, none⟩ = some (.slice SA sm sd) ∧ w'.cell? ⟨b1, 9, none⟩ = some (.int .i64 o)) (by kernel_rfl) ⟨HC.out.at_ 0, HC.out.at_ 1, HC.out.at_ 2, HC.out.at_ 3, HC.out.at_ 4, HX.out.at_ 5, HX.out.at_ 6, HX.out.at_ 7, HX.out.at_ 8, HX.out.at_ 9⟩ (fun hHeld => ?_)
   obtain ⟨w_961, hw_961⟩ : ∃ q : World, q = v4.drew := ⟨_, rfl⟩
   rw [← hw_961] at hHeld ⊢
   have hc_961 : Below v4.heap.size v4 w_961 := by rw [hw_961]; exact (Below.refl _ _).drew
   clear hw_961
   replace HFF := hide (HFF.out.below hc_961)
   replace HTT := hide (HTT.out.below hc_961)
   replace HSS := hide (HSS.out.below hc_961)
   replace HMM := hide (HMM.out.below hc_961)
   replace HEE := hide (HEE.out.below hc_961)
   replace HQB := hide (HQB.out.below hc_961)
   replace HX := hide (HX.out.below hc_961)
   replace HC := hide (HC.out.below hc_961)
   replace HB := hide (HB.out.trans (hc_961.mono HB.out.size))
   clear hc_961
   refine tkA (i := 0) (oi := ⟨some 43, _, _, _, _, _⟩) (v := ?_) rfl (Or.inl ⟨by rfl, ?_⟩) ?_
   rotate_left
   · (intro w' hSw; (try dsimp only at hSw); go_simp <;> (with_reducible rfl))
   try simp only [Act.put, pA, pB, pC]
   refine tkA (i := 1) (oi := ⟨some 44, _, _, _, _, _⟩) (v := ?_) rfl (Or.inl ⟨by rfl, ?_⟩) ?_
   rotate_left
   · (intro w' hSw; (try dsimp only at hSw); go_simp <;> (with_reducible rfl))
   try simp only [Act.put, pA, pB, pC]
   refine wpAnyH_ready (rs := [2]) (by kernel_rfl) (by simp) ?_
   refine AllReadyH.cons (o := ⟨some 45, _, _, _, _, _⟩) rfl (fun K' hK => ?_) AllReadyH.nil
   go_simp
   go_at_call 6
   refine (HCR.out _ HFF.out HQB.out).mono ?_
   rintro e_ w_962 ⟨rfl, hb_962⟩
   replace HFF := hide (HFF.out.below hb_962)
   replace HTT := hide (HTT.out.below hb_962)
   replace HSS := hide (HSS.out.below hb_962)
   replace HMM := hide (HMM.out.below hb_962)
   replace HEE := hide (HEE.out.below hb_962)
   replace HQB := hide (HQB.out.below hb_962)
   replace HX := hide (HX.out.below hb_962)
   replace HC := hide (HC.out.below hb_962)
   replace HB := hide (HB.out.trans (hb_962.mono HB.out.size))
   clear hb_962
   go_wp2_with fail
   refine hK.out _ _ ⟨HC.out.at_ 0, HC.out.at_ 1, HC.out.at_ 2, HC.out.at_ 3, HC.out.at_ 4, HX.out.at_ 5, HX.out.at_ 6, HX.out.at_ 7, HX.out.at_ 8, HX.out.at_ 9⟩ (fun hHeld => ?_)
   clear hK K'
   try simp only [Act.put, pA, pB, pC]
   refine tkA (i := 3) (oi := ⟨some 46, _, _, _, _, _⟩) (v := (.bool false)) rfl (Or.inl ⟨by rfl, fun w' hSw => by go_simp⟩) ?_
   try simp only [Act.put, pA, pB, pC]
   refine tkA (i := 4) (oi := ⟨some 47, _, _, _, _, _⟩) (v := ?_) rfl (Or.inl ⟨by rfl, ?_⟩) ?_
   rotate_left
   · (intro w' hSw; (try dsimp only at hSw); go_simp <;> (with_reducible rfl))
   try simp only [Act.put, pA, pB, pC]
   refine tkA (i := 5) (oi := ⟨some 48, _, _, _, _, _⟩) (v := ?_) rfl (Or.inl ⟨by rfl, ?_⟩) ?_
   rotate_left
   · (intro w' hSw; (try dsimp only at hSw); go_simp <;> (with_reducible rfl))
   try simp only [Act.put, pA, pB, pC]
   refine tkA (i := 6) (oi := ⟨some 49, _, _, _, _, _⟩) (v := ?_) rfl (Or.inl ⟨by rfl, ?_⟩) ?_
   rotate_left
   · (intro w' hSw; (try dsimp only at hSw); go_simp <;> (with_reducible rfl))
   try simp only [Act.put, pA, pB, pC]
   refine tkA (i := 7) (oi := ⟨some 50, _, _, _, _, _⟩) (v := ?_) rfl (Or.inl ⟨by rfl, ?_⟩) ?_
   rotate_left
   · (intro w' hSw; (try dsimp only at hSw); go_simp <;> (with_reducible rfl))
   try simp only [Act.put, pA, pB, pC]
   refine tkA (i := 8) (oi := ⟨some 51, _, _, _, _, _⟩) (v := ?_) rfl (Or.inl ⟨by rfl, ?_⟩) ?_
   rotate_left
   · (intro w' hSw; (try dsimp only at hSw); go_simp <;> (with_reducible rfl))
   try simp only [Act.put, pA, pB, pC]
   refine wpAnyH_ready (rs := [9]) (by kernel_rfl) (by simp) ?_
   refine AllReadyH.cons (o := ⟨some 52, _, _, _, _, _⟩) rfl (fun K' hK => ?_) AllReadyH.nil
   go_simp
   go_at_call 7
   refine (HLN.out _).mono ?_
   rintro e_ w_963 ⟨rfl, hb_963⟩
   replace HFF := hide (HFF.out.below hb_963)
   replace HTT := hide (HTT.out.below hb_963)
   replace HSS := hide (HSS.out.below hb_963)
   replace HMM := hide (HMM.out.below hb_963)
   replace HEE := hide (HEE.out.below hb_963)
   replace HQB := hide (HQB.out.below hb_963)
   replace HX := hide (HX.out.below hb_963)
   replace HC := hide (HC.out.below hb_963)
   replace HB := hide (HB.out.trans (hb_963.mono HB.out.size))
   clear hb_963
   go_wp2_with fail
   refine hK.out _ _ ⟨HC.out.at_ 0, HC.out.at_ 1, HC.out.at_ 2, HC.out.at_ 3, HC.out.at_ 4, HX.out.at_ 5, HX.out.at_ 6, HX.out.at_ 7, HX.out.at_ 8, HX.out.at_ 9⟩ (fun hHeld => ?_)
   clear hK K'
   try simp only [Act.put, pA, pB, pC]
   refine tkA (i := 10) (oi := ⟨some 53, _, _, _, _, _⟩) (v := (.bool true)) rfl (Or.inl ⟨by rfl, fun w' hSw => by go_simp⟩) ?_
   try simp only [Act.put, pA, pB, pC]
   refine tkA (i := 11) (oi := ⟨some 54, _, _, _, _, _⟩) (v := (.bool true)) rfl (Or.inl ⟨by rfl, fun w' hSw => by go_simp⟩) ?_
   try simp only [Act.put, pA, pB, pC]
   refine tkA (i := 12) (oi := ⟨some 55, _, _, _, _, _⟩) (v := ?_) rfl (Or.inl ⟨by rfl, ?_⟩) ?_
   rotate_left
   · (intro w' hSw; (try dsimp only at hSw); go_simp <;> (with_reducible rfl))
   try simp only [Act.put, pA, pB, pC]
   refine tkA (i := 13) (oi := ⟨some 56, _, _, _, _, _⟩) (v := undef) rfl (Or.inr ⟨by rfl, by rfl⟩) ?_
   try simp only [Act.put, pA, pB, pC]
   refine tkA (i := 14) (oi := ⟨some 57, _, _, _, _, _⟩) (v := undef) rfl (Or.inr ⟨by rfl, by rfl⟩) ?_
   try simp only [Act.put, pA, pB, pC]
   refine tkA (i := 15) (oi := ⟨some 58, _, _, _, _, _⟩) (v := undef) rfl (Or.inr ⟨by rfl, by rfl⟩) ?_
   try simp only [Act.put, pA, pB, pC]
   refine tkA (i := 16) (oi := ⟨some 59, _, _, _, _, _⟩) (v := undef) rfl (Or.inr ⟨by rfl, by rfl⟩) ?_
   try simp only [Act.put, pA, pB, pC]
   refine tkA (i := 17) (oi := ⟨some 60, _, _, _, _, _⟩) (v := (.bool true)) rfl (Or.inl ⟨by rfl, fun w' hSw => by go_simp⟩) ?_
   try simp only [Act.put, pA, pB, pC]
   refine tkA (i := 18) (oi := ⟨some 61, _, _, _, _, _⟩) (v := ?_) rfl (Or.inl ⟨by rfl, ?_⟩) ?_
   rotate_left
   · (intro w' hSw; (try dsimp only at hSw); go_simp <;> (with_reducible rfl))
   try simp only [Act.put, pA, pB, pC]
   refine tkA (i := 19) (oi := ⟨some 62, _, _, _, _, _⟩) (v := undef) rfl (Or.inr ⟨by rfl, by rfl⟩) ?_
   try simp only [Act.put, pA, pB, pC]
   refine tkA (i := 20) (oi := ⟨some 63, _, _, _, _, _⟩) (v := undef) rfl (Or.inr ⟨by rfl, by rfl⟩) ?_
   try simp only [Act.put, pA, pB, pC]
   refine tkA (i := 21) (oi := ⟨some 64, _, _, _, _, _⟩) (v := undef) rfl (Or.inr ⟨by rfl, by rfl⟩) ?_
   try simp only [Act.put, pA, pB, pC]
   refine tkA (i := 22) (oi := ⟨some 65, _, _, _, _, _⟩) (v := undef) rfl (Or.inr ⟨by rfl, by rfl⟩) ?_
   try simp only [Act.put, pA, pB, pC]
   refine tkA (i := 23) (oi := ⟨some 66, _, _, _, _, _⟩) (v := undef) rfl (Or.inr ⟨by rfl, by rfl⟩) ?_
   try simp only [Act.put, pA, pB, pC]
   refine tkA (i := 24) (oi := ⟨some 67, _, _, _, _, _⟩) (v := (.bool true)) rfl (Or.inl ⟨by rfl, fun w' hSw => by go_simp⟩) ?_
   try simp only [Act.put, pA, pB, pC]
   refine tkA (i := 25) (oi := ⟨some 68, _, _, _, _, _⟩) (v := ?_) rfl (Or.inl ⟨by rfl, ?_⟩) ?_
   rotate_left
   · (intro w' hSw; (try dsimp only at hSw); go_simp <;> (with_reducible rfl))
   try simp only [Act.put, pA, pB, pC]
   refine tkA (i := 26) (oi := ⟨some 69, _, _, _, _, _⟩) (v := undef) rfl (Or.inr ⟨by rfl, by rfl⟩) ?_
   try simp only [Act.put, pA, pB, pC]
   refine tkA (i := 27) (oi := ⟨some 70, _, _, _, _, _⟩) (v := undef) rfl (Or.inr ⟨by rfl, by rfl⟩) ?_
   try simp only [Act.put, pA, pB, pC]
   refine tkA (i := 28) (oi := ⟨some 71, _, _, _, _, _⟩) (v := undef) rfl (Or.inr ⟨by rfl, by rfl⟩) ?_
   try simp only [Act.put, pA, pB, pC]
   refine tkA (i := 29) (oi := ⟨some 72, _, _, _, _, _⟩) (v := undef) rfl (Or.inr ⟨by rfl, by rfl⟩) ?_
   try simp only [Act.put, pA, pB, pC]
   refine tkA (i := 30) (oi := ⟨some 73, _, _, _, _, _⟩) (v := undef) rfl (Or.inr ⟨by rfl, by rfl⟩) ?_
   try simp only [Act.put, pA, pB, pC]
   refine tkA (i := 31) (oi := ⟨some 74, _, _, _, _, _⟩) (v := (.bool true)) rfl (Or.inl ⟨by rfl, fun w' hSw => by go_simp⟩) ?_
   try simp only [Act.put, pA, pB, pC]
   refine tkA (i := 32) (oi := ⟨some 75, _, _, _, _, _⟩) (v := ?_) rfl (Or.inl ⟨by rfl, ?_⟩) ?_
   rotate_left
   · (intro w' hSw; (try dsimp only at hSw); go_simp <;> (with_reducible rfl))
   try simp only [Act.put, pA, pB, pC]
   refine tkA (i := 33) (oi := ⟨some 76, _, _, _, _, _⟩) (v := undef) rfl (Or.inr ⟨by rfl, by rfl⟩) ?_
   try simp only [Act.put, pA, pB, pC]
   refine tkA (i := 34) (oi := ⟨some 77, _, _, _, _, _⟩) (v := undef) rfl (Or.inr ⟨by rfl, by rfl⟩) ?_
   try simp only [Act.put, pA, pB, pC]
   refine tkA (i := 35) (oi := ⟨some 78, _, _, _, _, _⟩) (v := undef) rfl (Or.inr ⟨by rfl, by rfl⟩) ?_
   try simp only [Act.put, pA, pB, pC]
   refine tkA (i := 36) (oi := ⟨some 79, _, _, _, _, _⟩) (v := undef) rfl (Or.inr ⟨by rfl, by rfl⟩) ?_
   try simp only [Act.put, pA, pB, pC]
   refine tkA (i := 37) (oi := ⟨some 80, _, _, _, _, _⟩) (v := (.bool true)) rfl (Or.inl ⟨by rfl, fun w' hSw => by go_simp⟩) ?_
   try simp only [Act.put, pA, pB, pC]
   refine tkA (i := 38) (oi := ⟨some 81, _, _, _, _, _⟩) (v := ?_) rfl (Or.inl ⟨by rfl, ?_⟩) ?_
   rotate_left
   · (intro w' hSw; (try dsimp only at hSw); go_simp <;> (with_reducible rfl))
   try simp only [Act.put, pA, pB, pC]
   refine tkA (i := 39) (oi := ⟨some 82, _, _, _, _, _⟩) (v := undef) rfl (Or.inr ⟨by rfl, by rfl⟩) ?_
   try simp only [Act.put, pA, pB, pC]
   refine tkA (i := 40) (oi := ⟨some 83, _, _, _, _, _⟩) (v := undef) rfl (Or.inr ⟨by rfl, by rfl⟩) ?_
   try simp only [Act.put, pA, pB, pC]
   refine tkA (i := 41) (oi := ⟨some 84, _, _, _, _, _⟩) (v := undef) rfl (Or.inr ⟨by rfl, by rfl⟩) ?_
   try simp only [Act.put, pA, pB, pC]
   refine tkA (i := 42) (oi := ⟨some 85, _, _, _, _, _⟩) (v := undef) rfl (Or.inr ⟨by rfl, by rfl⟩) ?_
   try simp only [Act.put, pA, pB, pC]
   refine tkA (i := 43) (oi := ⟨some 86, _, _, _, _, _⟩) (v := (.bool true)) rfl (Or.inl ⟨by rfl, fun w' hSw => by go_simp⟩) ?_
   try simp only [Act.put, pA, pB, pC]
   refine wpAnyH_done (by kernel_rfl) ?_ _
   obtain ⟨hn, hm, hen, hk1, hk8, hn66, hsum, hq6, hN1⟩ := HNUM.out
   clear HNUM
   clear hHeld
   go_wp2_with fail
   go_ret
   exact ⟨rfl, HB.out⟩
 have tk : ¬ (kk : Int) < (N : Int) := by omega
 have HVE := hide (fun W => K.versionErrR_any v W)
 by_cases hv : withinB v 0 3 = true
 case neg =>
  replace hv : withinB v 0 3 = false := by simpa using hv
  simp only [hv] at HVE
  obtain ⟨e3, he3⟩ : ∃ z, unI false 15 = z := ⟨_, rfl⟩
  simp only [he3] at HVE
  have te3 : (e3 != 0) = true := by rw [← he3]; decide
  clear he3
  as_aux_lemma =>
   have HNUM := hide (⟨hn, hm, hen, hk1, hk8, hn66, hsum, hq6, hN1⟩ : _ ∧ _ ∧ _ ∧ _ ∧ _ ∧ _ ∧ _ ∧ _ ∧ _)
   clear hn hm hen hk1 hk8 hn66 hsum hq6 hN1
   refine wp_region_held_drew (S := fun w' => w'.cell? ⟨b4, 0, none⟩ = some (.int .i64 (x : Int)) ∧ w'.cell? ⟨b4, 1, none⟩ = some (.int .i64 (y : Int)) ∧ w'.cell? ⟨b4, 2, none⟩ = some (.int .i64 (q : Int)) ∧ w'.cell? ⟨b4, 3, none⟩ = some (.slice A n c) ∧ w'.cell? ⟨b4, 4, none⟩ = some (.int .i64 (kk : Int)) ∧ w'.cell? ⟨b1, 5, none⟩ = some (.int .i64 v) ∧ w'.cell? ⟨b1, 6, none⟩ = some (.int .i64 L) ∧ w'.cell? ⟨b1, 7, none⟩ = some (.slice TA tn tc) ∧ w'.cell? ⟨b1, 8, none⟩ = some (.slice SA sm sd) ∧ w'.cell? ⟨b1, 9, none⟩ = some (.int .i64 o)) (by kernel_rfl) ⟨HC.out.at_ 0, HC.out.at_ 1, HC.out.at_ 2, HC.out.at_ 3, HC.out.at_ 4, HX.out.at_ 5, HX.out.at_ 6, HX.out.at_ 7, HX.out.at_ 8, HX.out.at_ 9⟩ (fun hHeld => ?_)
   obtain ⟨w_971, hw_971⟩ : ∃ q : World, q = v4.drew := ⟨_, rfl⟩
   rw [← hw_971] at hHeld ⊢
   have hc_971 : Below v4.heap.size v4 w_971 := by rw [hw_971]; exact (Below.refl _ _).drew
   clear hw_971
   replace HFF := hide (HFF.out.below hc_971)
   replace HTT := hide (HTT.out.below hc_971)
   replace HSS := hide (HSS.out.below hc_971)
   replace HMM := hide (HMM.out.below hc_971)
   replace HEE := hide (HEE.out.below hc_971)
   replace HQB := hide (HQB.out.below hc_971)
   replace HX := hide (HX.out.below hc_971)
   replace HC := hide (HC.out.below hc_971)
   replace HB := hide (HB.out.trans (hc_971.mono HB.out.size))
   clear hc_971
   refine tkA (i := 0) (oi := ⟨some 43, _, _, _, _, _⟩) (v := ?_) rfl (Or.inl ⟨by rfl, ?_⟩) ?_
   rotate_left
   · (intro w' hSw; (try dsimp only at hSw); go_simp <;> (with_reducible rfl))
   try simp only [Act.put, pA, pB, pC]
   refine tkA (i := 1) (oi := ⟨some 44, _, _, _, _, _⟩) (v := ?_) rfl (Or.inl ⟨by rfl, ?_⟩) ?_
   rotate_left
   · (intro w' hSw; (try dsimp only at hSw); go_simp <;> (with_reducible rfl))
   try simp only [Act.put, pA, pB, pC]
   refine wpAnyH_ready (rs := [2]) (by kernel_rfl) (by simp) ?_
   refine AllReadyH.cons (o := ⟨some 45, _, _, _, _, _⟩) rfl (fun K' hK => ?_) AllReadyH.nil
   go_simp
   go_at_call 6
   refine (HCR.out _ HFF.out HQB.out).mono ?_
   rintro e_ w_972 ⟨rfl, hb_972⟩
   replace HFF := hide (HFF.out.below hb_972)
   replace HTT := hide (HTT.out.below hb_972)
   replace HSS := hide (HSS.out.below hb_972)
   replace HMM := hide (HMM.out.below hb_972)
   replace HEE := hide (HEE.out.below hb_972)
   replace HQB := hide (HQB.out.below hb_972)
   replace HX := hide (HX.out.below hb_972)
   replace HC := hide (HC.out.below hb_972)
   replace HB := hide (HB.out.trans (hb_972.mono HB.out.size))
   clear hb_972
   go_wp2_with fail
   refine hK.out _ _ ⟨HC.out.at_ 0, HC.out.at_ 1, HC.out.at_ 2, HC.out.at_ 3, HC.out.at_ 4, HX.out.at_ 5, HX.out.at_ 6, HX.out.at_ 7, HX.out.at_ 8, HX.out.at_ 9⟩ (fun hHeld => ?_)
   clear hK K'
   try simp only [Act.put, pA, pB, pC]
   refine tkA (i := 3) (oi := ⟨some 46, _, _, _, _, _⟩) (v := (.bool false)) rfl (Or.inl ⟨by rfl, fun w' hSw => by go_simp⟩) ?_
   try simp only [Act.put, pA, pB, pC]
   refine tkA (i := 4) (oi := ⟨some 47, _, _, _, _, _⟩) (v := ?_) rfl (Or.inl ⟨by rfl, ?_⟩) ?_
   rotate_left
   · (intro w' hSw; (try dsimp only at hSw); go_simp <;> (with_reducible rfl))
   try simp only [Act.put, pA, pB, pC]
   refine tkA (i := 5) (oi := ⟨some 48, _, _, _, _, _⟩) (v := ?_) rfl (Or.inl ⟨by rfl, ?_⟩) ?_
   rotate_left
   · (intro w' hSw; (try dsimp only at hSw); go_simp <;> (with_reducible rfl))
   try simp only [Act.put, pA, pB, pC]
   refine tkA (i := 6) (oi := ⟨some 49, _, _, _, _, _⟩) (v := ?_) rfl (Or.inl ⟨by rfl, ?_⟩) ?_
   rotate_left
   · (intro w' hSw; (try dsimp only at hSw); go_simp <;> (with_reducible rfl))
   try simp only [Act.put, pA, pB, pC]
   refine tkA (i := 7) (oi := ⟨some 50, _, _, _, _, _⟩) (v := ?_) rfl (Or.inl ⟨by rfl, ?_⟩) ?_
   rotate_left
   · (intro w' hSw; (try dsimp only at hSw); go_simp <;> (with_reducible rfl))
   try simp only [Act.put, pA, pB, pC]
   refine tkA (i := 8) (oi := ⟨some 51, _, _, _, _, _⟩) (v := ?_) rfl (Or.inl ⟨by rfl, ?_⟩) ?_
   rotate_left
   · (intro w' hSw; (try dsimp only at hSw); go_simp <;> (with_reducible rfl))
   try simp only [Act.put, pA, pB, pC]
   refine wpAnyH_ready (rs := [9]) (by kernel_rfl) (by simp) ?_
   refine AllReadyH.cons (o := ⟨some 52, _, _, _, _, _⟩) rfl (fun K' hK => ?_) AllReadyH.nil
   go_simp
   go_at_call 7
   refine (HLN.out _).mono ?_
   rintro e_ w_973 ⟨rfl, hb_973⟩
   replace HFF := hide (HFF.out.below hb_973)
   replace HTT := hide (HTT.out.below hb_973)
   replace HSS := hide (HSS.out.below hb_973)
   replace HMM := hide (HMM.out.below hb_973)
   replace HEE := hide (HEE.out.below hb_973)
   replace HQB := hide (HQB.out.below hb_973)
   replace HX := hide (HX.out.below hb_973)
   replace HC := hide (HC.out.below hb_973)
   replace HB := hide (HB.out.trans (hb_973.mono HB.out.size))
   clear hb_973
   go_wp2_with fail
   refine hK.out _ _ ⟨HC.out.at_ 0, HC.out.at_ 1, HC.out.at_ 2, HC.out.at_ 3, HC.out.at_ 4, HX.out.at_ 5, HX.out.at_ 6, HX.out.at_ 7, HX.out.at_ 8, HX.out.at_ 9⟩ (fun hHeld => ?_)
   clear hK K'
   try simp only [Act.put, pA, pB, pC]
   refine tkA (i := 10) (oi := ⟨some 53, _, _, _, _, _⟩) (v := (.bool false)) rfl (Or.inl ⟨by rfl, fun w' hSw => by go_simp⟩) ?_
   try simp only [Act.put, pA, pB, pC]
   refine tkA (i := 11) (oi := ⟨some 54, _, _, _, _, _⟩) (v := (.bool false)) rfl (Or.inl ⟨by rfl, fun w' hSw => by go_simp⟩) ?_
   try simp only [Act.put, pA, pB, pC]
   refine tkA (i := 12) (oi := ⟨some 55, _, _, _, _, _⟩) (v := ?_) rfl (Or.inl ⟨by rfl, ?_⟩) ?_
   rotate_left
   · (intro w' hSw; (try dsimp only at hSw); go_simp <;> (with_reducible rfl))
   try simp only [Act.put, pA, pB, pC]
   refine tkA (i := 13) (oi := ⟨some 56, _, _, _, _, _⟩) (v := ?_) rfl (Or.inl ⟨by rfl, ?_⟩) ?_
   rotate_left
   · (intro w' hSw; (try dsimp only at hSw); go_simp <;> (with_reducible rfl))
   try simp only [Act.put, pA, pB, pC]
   refine tkA (i := 14) (oi := ⟨some 57, _, _, _, _, _⟩) (v := ?_) rfl (Or.inl ⟨by rfl, ?_⟩) ?_
   rotate_left
   · (intro w' hSw; (try dsimp only at hSw); go_simp <;> (with_reducible rfl))
   try simp only [Act.put, pA, pB, pC]
   refine wpAnyH_ready (rs := [15]) (by kernel_rfl) (by simp) ?_
   refine AllReadyH.cons (o := ⟨some 58, _, _, _, _, _⟩) rfl (fun K' hK => ?_) AllReadyH.nil
   go_simp
   go_at_call 8
   refine (HVE.out _).mono ?_
   rintro e_ v_ ⟨rfl, rfl⟩
   go_wp2_with fail
   refine hK.out _ _ ⟨HC.out.at_ 0, HC.out.at_ 1, HC.out.at_ 2, HC.out.at_ 3, HC.out.at_ 4, HX.out.at_ 5, HX.out.at_ 6, HX.out.at_ 7, HX.out.at_ 8, HX.out.at_ 9⟩ (fun hHeld => ?_)
   clear hK K'
   try simp only [Act.put, pA, pB, pC]
   refine tkA (i := 16) (oi := ⟨some 59, _, _, _, _, _⟩) (v := (.bool true)) rfl (Or.inl ⟨by rfl, fun w' hSw => by go_simp⟩) ?_
   try simp only [Act.put, pA, pB, pC]
   refine tkA (i := 17) (oi := ⟨some 60, _, _, _, _, _⟩) (v := (.bool true)) rfl (Or.inl ⟨by rfl, fun w' hSw => by go_simp⟩) ?_
   try simp only [Act.put, pA, pB, pC]
   refine tkA (i := 18) (oi := ⟨some 61, _, _, _, _, _⟩) (v := ?_) rfl (Or.inl ⟨by rfl, ?_⟩) ?_
   rotate_left
   · (intro w' hSw; (try dsimp only at hSw); go_simp <;> (with_reducible rfl))
   try simp only [Act.put, pA, pB, pC]
   refine tkA (i := 19) (oi := ⟨some 62, _, _, _, _, _⟩) (v := undef) rfl (Or.inr ⟨by rfl, by rfl⟩) ?_
   try simp only [Act.put, pA, pB, pC]
   refine tkA (i := 20) (oi := ⟨some 63, _, _, _, _, _⟩) (v := undef) rfl (Or.inr ⟨by rfl, by rfl⟩) ?_
   try simp only [Act.put, pA, pB, pC]
   refine tkA (i := 21) (oi := ⟨some 64, _, _, _, _, _⟩) (v := undef) rfl (Or.inr ⟨by rfl, by rfl⟩) ?_
   try simp only [Act.put, pA, pB, pC]
   refine tkA (i := 22) (oi := ⟨some 65, _, _, _, _, _⟩) (v := undef) rfl (Or.inr ⟨by rfl, by rfl⟩) ?_
   try simp only [Act.put, pA, pB, pC]
   refine tkA (i := 23) (oi := ⟨some 66, _, _, _, _, _⟩) (v := undef) rfl (Or.inr ⟨by rfl, by rfl⟩) ?_
   try simp only [Act.put, pA, pB, pC]
   refine tkA (i := 24) (oi := ⟨some 67, _, _, _, _, _⟩) (v := (.bool true)) rfl (Or.inl ⟨by rfl, fun w' hSw => by go_simp⟩) ?_
   try simp only [Act.put, pA, pB, pC]
   refine tkA (i := 25) (oi := ⟨some 68, _, _, _, _, _⟩) (v := ?_) rfl (Or.inl ⟨by rfl, ?_⟩) ?_
   rotate_left
   · (intro w' hSw; (try dsimp only at hSw); go_simp <;> (with_reducible rfl))
   try simp only [Act.put, pA, pB, pC]
   refine tkA (i := 26) (oi := ⟨some 69, _, _, _, _, _⟩) (v := undef) rfl (Or.inr ⟨by rfl, by rfl⟩) ?_
   try simp only [Act.put, pA, pB, pC]
   refine tkA (i := 27) (oi := ⟨some 70, _, _, _, _, _⟩) (v := undef) rfl (Or.inr ⟨by rfl, by rfl⟩) ?_
   try simp only [Act.put, pA, pB, pC]
   refine tkA (i := 28) (oi := ⟨some 71, _, _, _, _, _⟩) (v := undef) rfl (Or.inr ⟨by rfl, by rfl⟩) ?_
   try simp only [Act.put, pA, pB, pC]
   refine tkA (i := 29) (oi := ⟨some 72, _, _, _, _, _⟩) (v := undef) rfl (Or.inr ⟨by rfl, by rfl⟩) ?_
   try simp only [Act.put, pA, pB, pC]
   refine tkA (i := 30) (oi := ⟨some 73, _, _, _, _, _⟩) (v := undef) rfl (Or.inr ⟨by rfl, by rfl⟩) ?_
   try simp only [Act.put, pA, pB, pC]
   refine tkA (i := 31) (oi := ⟨some 74, _, _, _, _, _⟩) (v := (.bool true)) rfl (Or.inl ⟨by rfl, fun w' hSw => by go_simp⟩) ?_
   try simp only [Act.put, pA, pB, pC]
   refine tkA (i := 32) (oi := ⟨some 75, _, _, _, _, _⟩) (v := ?_) rfl (Or.inl ⟨by rfl, ?_⟩) ?_
   rotate_left
   · (intro w' hSw; (try dsimp only at hSw); go_simp <;> (with_reducible rfl))
   try simp only [Act.put, pA, pB, pC]
   refine tkA (i := 33) (oi := ⟨some 76, _, _, _, _, _⟩) (v := undef) rfl (Or.inr ⟨by rfl, by rfl⟩) ?_
   try simp only [Act.put, pA, pB, pC]
   refine tkA (i := 34) (oi := ⟨some 77, _, _, _, _, _⟩) (v := undef) rfl (Or.inr ⟨by rfl, by rfl⟩) ?_
   try simp only [Act.put, pA, pB, pC]
   refine tkA (i := 35) (oi := ⟨some 78, _, _, _, _, _⟩) (v := undef) rfl (Or.inr ⟨by rfl, by rfl⟩) ?_
   try simp only [Act.put, pA, pB, pC]
   refine tkA (i := 36) (oi := ⟨some 79, _, _, _, _, _⟩) (v := undef) rfl (Or.inr ⟨by rfl, by rfl⟩) ?_
   try simp only [Act.put, pA, pB, pC]
   refine tkA (i := 37) (oi := ⟨some 80, _, _, _, _, _⟩) (v := (.bool true)) rfl (Or.inl ⟨by rfl, fun w' hSw => by go_simp⟩) ?_
   try simp only [Act.put, pA, pB, pC]
   refine tkA (i := 38) (oi := ⟨some 81, _, _, _, _, _⟩) (v := ?_) rfl (Or.inl ⟨by rfl, ?_⟩) ?_
   rotate_left
   · (intro w' hSw; (try dsimp only at hSw); go_simp <;> (with_reducible rfl))
   try simp only [Act.put, pA, pB, pC]
   refine tkA (i := 39) (oi := ⟨some 82, _, _, _, _, _⟩) (v := undef) rfl (Or.inr ⟨by rfl, by rfl⟩) ?_
   try simp only [Act.put, pA, pB, pC]
   refine tkA (i := 40) (oi := ⟨some 83, _, _, _, _, _⟩) (v := undef) rfl (Or.inr ⟨by rfl, by rfl⟩) ?_
   try simp only [Act.put, pA, pB, pC]
   refine tkA (i := 41) (oi := ⟨some 84, _, _, _, _, _⟩) (v := undef) rfl (Or.inr ⟨by rfl, by rfl⟩) ?_
   try simp only [Act.put, pA, pB, pC]
   refine tkA (i := 42) (oi := ⟨some 85, _, _, _, _, _⟩) (v := undef) rfl (Or.inr ⟨by rfl, by rfl⟩) ?_
   try simp only [Act.put, pA, pB, pC]
   refine tkA (i := 43) (oi := ⟨some 86, _, _, _, _, _⟩) (v := (.bool true)) rfl (Or.inl ⟨by rfl, fun w' hSw => by go_simp⟩) ?_
   try simp only [Act.put, pA, pB, pC]
   refine wpAnyH_done (by kernel_rfl) ?_ _
   obtain ⟨hn, hm, hen, hk1, hk8, hn66, hsum, hq6, hN1⟩ := HNUM.out
   clear HNUM
   clear hHeld
   go_wp2_with fail
   go_ret
   exact ⟨rfl, HB.out⟩
 simp only [hv] at HVE
 obtain ⟨e3, he3⟩ : ∃ z, unI true 15 = z := ⟨_, rfl⟩
 simp only [he3] at HVE
 obtain rfl : e3 = 0 := by rw [← he3]; decide
 clear he3
 have te3 : ((0 : Int) != 0) = false := by decide
 obtain ⟨vv, rfl⟩ : ∃ z : Nat, v = (z : Int) := by unfold withinB at hv; simp at hv; exact ⟨v.toNat, by omega⟩
 have hv3 : vv ≤ 3 := by unfold withinB at hv; simp at hv; omega
 clear hv
 by_cases htn : tn ≤ 12
 case neg =>
  have ttn : (12 : Int) < (tn : Int) := by omega
  as_aux_lemma =>
   have HNUM := hide (⟨hn, hm, hen, hk1, hk8, hn66, hsum, hq6, hN1⟩ : _ ∧ _ ∧ _ ∧ _ ∧ _ ∧ _ ∧ _ ∧ _ ∧ _)
   clear hn hm hen hk1 hk8 hn66 hsum hq6 hN1
   refine wp_region_held_drew (S := fun w' => w'.cell? ⟨b4, 0, none⟩ = some (.int .i64 (x : Int)) ∧ w'.cell? ⟨b4, 1, none⟩ = some (.int .i64 (y : Int)) ∧ w'.cell? ⟨b4, 2, none⟩ = some (.int .i64 (q : Int)) ∧ w'.cell? ⟨b4, 3, none⟩ = some (.slice A n c) ∧ w'.cell? ⟨b4, 4, none⟩ = some (.int .i64 (kk : Int)) ∧ w'.cell? ⟨b1, 5, none⟩ = some (.int .i64 (vv : Int)) ∧ w'.cell? ⟨b1, 6, none⟩ = some (.int .i64 L) ∧ w'.cell? ⟨b1, 7, none⟩ = some (.slice TA tn tc) ∧ w'.cell? ⟨b1, 8, none⟩ = some (.slice SA sm sd) ∧ w'.cell? ⟨b1, 9, none⟩ = some (.int .i64 o)) (by kernel_rfl) ⟨HC.out.at_ 0, HC.out.at_ 1, HC.out.at_ 2, HC.out.at_ 3, HC.out.at_ 4, HX.out.at_ 5, HX.out.at_ 6, HX.out.at_ 7, HX.out.at_ 8, HX.out.at_ 9⟩ (fun hHeld => ?_)
   obtain ⟨w_981, hw_981⟩ : ∃ q : World, q = v4.drew := ⟨_, rfl⟩
   rw [← hw_981] at hHeld ⊢
   have hc_981 : Below v4.heap.size v4 w_981 := by rw [hw_981]; exact (Below.refl _ _).drew
   clear hw_981
   replace HFF := hide (HFF.out.below hc_981)
   replace HTT := hide (HTT.out.below hc_981)
   replace HSS := hide (HSS.out.below hc_981)
   replace HMM := hide (HMM.out.below hc_981)
   replace HEE := hide (HEE.out.below hc_981)
   replace HQB := hide (HQB.out.below hc_981)
   replace HX := hide (HX.out.below hc_981)
   replace HC := hide (HC.out.below hc_981)
   replace HB := hide (HB.out.trans (hc_981.mono HB.out.size))
   clear hc_981
   refine tkA (i := 0) (oi := ⟨some 43, _, _, _, _, _⟩) (v := ?_) rfl (Or.inl ⟨by rfl, ?_⟩) ?_
   rotate_left
   · (intro w' hSw; (try dsimp only at hSw); go_simp <;> (with_reducible rfl))
   try simp only [Act.put, pA, pB, pC]
   refine tkA (i := 1) (oi := ⟨some 44, _, _, _, _, _⟩) (v := ?_) rfl (Or.inl ⟨by rfl, ?_⟩) ?_
   rotate_left
   · (intro w' hSw; (try dsimp only at hSw); go_simp <;> (with_reducible rfl))
   try simp only [Act.put, pA, pB, pC]
   refine wpAnyH_ready (rs := [2]) (by kernel_rfl) (by simp) ?_
   refine AllReadyH.cons (o := ⟨some 45, _, _, _, _, _⟩) rfl (fun K' hK => ?_) AllReadyH.nil
   go_simp
   go_at_call 6
   refine (HCR.out _ HFF.out HQB.out).mono ?_
   rintro e_ w_982 ⟨rfl, hb_982⟩
   replace HFF := hide (HFF.out.below hb_982)
   replace HTT := hide (HTT.out.below hb_982)
   replace HSS := hide (HSS.out.below hb_982)
   replace HMM := hide (HMM.out.below hb_982)
   replace HEE := hide (HEE.out.below hb_982)
   replace HQB := hide (HQB.out.below hb_982)
   replace HX := hide (HX.out.below hb_982)
   replace HC := hide (HC.out.below hb_982)
   replace HB := hide (HB.out.trans (hb_982.mono HB.out.size))
   clear hb_982
   go_wp2_with fail
   refine hK.out _ _ ⟨HC.out.at_ 0, HC.out.at_ 1, HC.out.at_ 2, HC.out.at_ 3, HC.out.at_ 4, HX.out.at_ 5, HX.out.at_ 6, HX.out.at_ 7, HX.out.at_ 8, HX.out.at_ 9⟩ (fun hHeld => ?_)
   clear hK K'
   try simp only [Act.put, pA, pB, pC]
   refine tkA (i := 3) (oi := ⟨some 46, _, _, _, _, _⟩) (v := (.bool false)) rfl (Or.inl ⟨by rfl, fun w' hSw => by go_simp⟩) ?_
   try simp only [Act.put, pA, pB, pC]
   refine tkA (i := 4) (oi := ⟨some 47, _, _, _, _, _⟩) (v := ?_) rfl (Or.inl ⟨by rfl, ?_⟩) ?_
   rotate_left
   · (intro w' hSw; (try dsimp only at hSw); go_simp <;> (with_reducible rfl))
   try simp only [Act.put, pA, pB, pC]
   refine tkA (i := 5) (oi := ⟨some 48, _, _, _, _, _⟩) (v := ?_) rfl (Or.inl ⟨by rfl, ?_⟩) ?_
   rotate_left
   · (intro w' hSw; (try dsimp only at hSw); go_simp <;> (with_reducible rfl))
   try simp only [Act.put, pA, pB, pC]
   refine tkA (i := 6) (oi := ⟨some 49, _, _, _, _, _⟩) (v := ?_) rfl (Or.inl ⟨by rfl, ?_⟩) ?_
   rotate_left
   · (intro w' hSw; (try dsimp only at hSw); go_simp <;> (with_reducible rfl))
   try simp only [Act.put, pA, pB, pC]
   refine tkA (i := 7) (oi := ⟨some 50, _, _, _, _, _⟩) (v := ?_) rfl (Or.inl ⟨by rfl, ?_⟩) ?_
   rotate_left
   · (intro w' hSw; (try dsimp only at hSw); go_simp <;> (with_reducible rfl))
   try simp only [Act.put, pA, pB, pC]
   refine tkA (i := 8) (oi := ⟨some 51, _, _, _, _, _⟩) (v := ?_) rfl (Or.inl ⟨by rfl, ?_⟩) ?_
   rotate_left
   · (intro w' hSw; (try dsimp only at hSw); go_simp <;> (with_reducible rfl))
   try simp only [Act.put, pA, pB, pC]
   refine wpAnyH_ready (rs := [9]) (by kernel_rfl) (by simp) ?_
   refine AllReadyH.cons (o := ⟨some 52, _, _, _, _, _⟩) rfl (fun K' hK => ?_) AllReadyH.nil
   go_simp
   go_at_call 7
   refine (HLN.out _).mono ?_
   rintro e_ w_983 ⟨rfl, hb_983⟩
   replace HFF := hide (HFF.out.below hb_983)
   replace HTT := hide (HTT.out.below hb_983)
   replace HSS := hide (HSS.out.below hb_983)
   replace HMM := hide (HMM.out.below hb_983)
   replace HEE := hide (HEE.out.below hb_983)
   replace HQB := hide (HQB.out.below hb_983)
   replace HX := hide (HX.out.below hb_983)
   replace HC := hide (HC.out.below hb_983)
   replace HB := hide (HB.out.trans (hb_983.mono HB.out.size))
   clear hb_983
   go_wp2_with fail
   refine hK.out _ _ ⟨HC.out.at_ 0, HC.out.at_ 1, HC.out.at_ 2, HC.out.at_ 3, HC.out.at_ 4, HX.out.at_ 5, HX.out.at_ 6, HX.out.at_ 7, HX.out.at_ 8, HX.out.at_ 9⟩ (fun hHeld => ?_)
   clear hK K'
   try simp only [Act.put, pA, pB, pC]
   refine tkA (i := 10) (oi := ⟨some 53, _, _, _, _, _⟩) (v := (.bool false)) rfl (Or.inl ⟨by rfl, fun w' hSw => by go_simp⟩) ?_
   try simp only [Act.put, pA, pB, pC]
   refine tkA (i := 11) (oi := ⟨some 54, _, _, _, _, _⟩) (v := (.bool false)) rfl (Or.inl ⟨by rfl, fun w' hSw => by go_simp⟩) ?_
   try simp only [Act.put, pA, pB, pC]
   refine tkA (i := 12) (oi := ⟨some 55, _, _, _, _, _⟩) (v := ?_) rfl (Or.inl ⟨by rfl, ?_⟩) ?_
   rotate_left
   · (intro w' hSw; (try dsimp only at hSw); go_simp <;> (with_reducible rfl))
   try simp only [Act.put, pA, pB, pC]
   refine tkA (i := 13) (oi := ⟨some 56, _, _, _, _, _⟩) (v := ?_) rfl (Or.inl ⟨by rfl, ?_⟩) ?_
   rotate_left
   · (intro w' hSw; (try dsimp only at hSw); go_simp <;> (with_reducible rfl))
   try simp only [Act.put, pA, pB, pC]
   refine tkA (i := 14) (oi := ⟨some 57, _, _, _, _, _⟩) (v := ?_) rfl (Or.inl ⟨by rfl, ?_⟩) ?_
   rotate_left
   · (intro w' hSw; (try dsimp only at hSw); go_simp <;> (with_reducible rfl))
   try simp only [Act.put, pA, pB, pC]
   refine wpAnyH_ready (rs := [15]) (by kernel_rfl) (by simp) ?_
   refine AllReadyH.cons (o := ⟨some 58, _, _, _, _, _⟩) rfl (fun K' hK => ?_) AllReadyH.nil
   go_simp
   go_at_call 8
   refine (HVE.out _).mono ?_
   rintro e_ v_ ⟨rfl, rfl⟩
   go_wp2_with fail
   refine hK.out _ _ ⟨HC.out.at_ 0, HC.out.at_ 1, HC.out.at_ 2, HC.out.at_ 3, HC.out.at_ 4, HX.out.at_ 5, HX.out.at_ 6, HX.out.at_ 7, HX.out.at_ 8, HX.out.at_ 9⟩ (fun hHeld => ?_)
   clear hK K'
   try simp only [Act.put, pA, pB, pC]
   refine tkA (i := 16) (oi := ⟨some 59, _, _, _, _, _⟩) (v := (.bool false)) rfl (Or.inl ⟨by rfl, fun w' hSw => by go_simp⟩) ?_
   try simp only [Act.put, pA, pB, pC]
   refine tkA (i := 17) (oi := ⟨some 60, _, _, _, _, _⟩) (v := (.bool false)) rfl (Or.inl ⟨by rfl, fun w' hSw => by go_simp⟩) ?_
   try simp only [Act.put, pA, pB, pC]
   refine tkA (i := 18) (oi := ⟨some 61, _, _, _, _, _⟩) (v := ?_) rfl (Or.inl ⟨by rfl, ?_⟩) ?_
   rotate_left
   · (intro w' hSw; (try dsimp only at hSw); go_simp <;> (with_reducible rfl))
   try simp only [Act.put, pA, pB, pC]
   refine tkA (i := 19) (oi := ⟨some 62, _, _, _, _, _⟩) (v := ?_) rfl (Or.inl ⟨by rfl, ?_⟩) ?_
   rotate_left
   · (intro w' hSw; (try dsimp only at hSw); go_simp <;> (with_reducible rfl))
   try simp only [Act.put, pA, pB, pC]
   refine tkA (i := 20) (oi := ⟨some 63, _, _, _, _, _⟩) (v := ?_) rfl (Or.inl ⟨by rfl, ?_⟩) ?_
   rotate_left
   · (intro w' hSw; (try dsimp only at hSw); go_simp <;> (with_reducible rfl))
   try simp only [Act.put, pA, pB, pC]
   refine tkA (i := 21) (oi := ⟨some 64, _, _, _, _, _⟩) (v := ?_) rfl (Or.inl ⟨by rfl, ?_⟩) ?_
   rotate_left
   · (intro w' hSw; (try dsimp only at hSw); go_simp <;> (with_reducible rfl))
   try simp only [Act.put, pA, pB, pC]
   refine tkA (i := 22) (oi := ⟨some 65, _, _, _, _, _⟩) (v := ?_) rfl (Or.inl ⟨by rfl, ?_⟩) ?_
   rotate_left
   · (intro w' hSw; (try dsimp only at hSw); go_simp <;> (with_reducible rfl))
   try simp only [Act.put, pA, pB, pC]
   refine tkA (i := 23) (oi := ⟨some 66, _, _, _, _, _⟩) (v := (.bool true)) rfl (Or.inl ⟨by rfl, fun w' hSw => by go_simp⟩) ?_
   try simp only [Act.put, pA, pB, pC]
   refine tkA (i := 24) (oi := ⟨some 67, _, _, _, _, _⟩) (v := (.bool true)) rfl (Or.inl ⟨by rfl, fun w' hSw => by go_simp⟩) ?_
   try simp only [Act.put, pA, pB, pC]
   refine tkA (i := 25) (oi := ⟨some 68, _, _, _, _, _⟩) (v := ?_) rfl (Or.inl ⟨by rfl, ?_⟩) ?_
   rotate_left
   · (intro w' hSw; (try dsimp only at hSw); go_simp <;> (with_reducible rfl))
   try simp only [Act.put, pA, pB, pC]
   refine tkA (i := 26) (oi := ⟨some 69, _, _, _, _, _⟩) (v := undef) rfl (Or.inr ⟨by rfl, by rfl⟩) ?_
   try simp only [Act.put, pA, pB, pC]
   refine tkA (i := 27) (oi := ⟨some 70, _, _, _, _, _⟩) (v := undef) rfl (Or.inr ⟨by rfl, by rfl⟩) ?_
   try simp only [Act.put, pA, pB, pC]
   refine tkA (i := 28) (oi := ⟨some 71, _, _, _, _, _⟩) (v := undef) rfl (Or.inr ⟨by rfl, by rfl⟩) ?_
   try simp only [Act.put, pA, pB, pC]
   refine tkA (i := 29) (oi := ⟨some 72, _, _, _, _, _⟩) (v := undef) rfl (Or.inr ⟨by rfl, by rfl⟩) ?_
   try simp only [Act.put, pA, pB, pC]
   refine tkA (i := 30) (oi := ⟨some 73, _, _, _, _, _⟩) (v := undef) rfl (Or.inr ⟨by rfl, by rfl⟩) ?_
   try simp only [Act.put, pA, pB, pC]
   refine tkA (i := 31) (oi := ⟨some 74, _, _, _, _, _⟩) (v := (.bool true)) rfl (Or.inl ⟨by rfl, fun w' hSw => by go_simp⟩) ?_
   try simp only [Act.put, pA, pB, pC]
   refine tkA (i := 32) (oi := ⟨some 75, _, _, _, _, _⟩) (v := ?_) rfl (Or.inl ⟨by rfl, ?_⟩) ?_
   rotate_left
   · (intro w' hSw; (try dsimp only at hSw); go_simp <;> (with_reducible rfl))
   try simp only [Act.put, pA, pB, pC]
   refine tkA (i := 33) (oi := ⟨some 76, _, _, _, _, _⟩) (v := undef) rfl (Or.inr ⟨by rfl, by rfl⟩) ?_
   try simp only [Act.put, pA, pB, pC]
   refine tkA (i := 34) (oi := ⟨some 77, _, _, _, _, _⟩) (v := undef) rfl (Or.inr ⟨by rfl, by rfl⟩) ?_
   try simp only [Act.put, pA, pB, pC]
   refine tkA (i := 35) (oi := ⟨some 78, _, _, _, _, _⟩) (v := undef) rfl (Or.inr ⟨by rfl, by rfl⟩) ?_
   try simp only [Act.put, pA, pB, pC]
   refine tkA (i := 36) (oi := ⟨some 79, _, _, _, _, _⟩) (v := undef) rfl (Or.inr ⟨by rfl, by rfl⟩) ?_
   try simp only [Act.put, pA, pB, pC]
   refine tkA (i := 37) (oi := ⟨some 80, _, _, _, _, _⟩) (v := (.bool true)) rfl (Or.inl ⟨by rfl, fun w' hSw => by go_simp⟩) ?_
   try simp only [Act.put, pA, pB, pC]
   refine tkA (i := 38) (oi := ⟨some 81, _, _, _, _, _⟩) (v := ?_) rfl (Or.inl ⟨by rfl, ?_⟩) ?_
   rotate_left
   · (intro w' hSw; (try dsimp only at hSw); go_simp <;> (with_reducible rfl))
   try simp only [Act.put, pA, pB, pC]
   refine tkA (i := 39) (oi := ⟨some 82, _, _, _, _, _⟩) (v := undef) rfl (Or.inr ⟨by rfl, by rfl⟩) ?_
   try simp only [Act.put, pA, pB, pC]
   refine tkA (i := 40) (oi := ⟨some 83, _, _, _, _, _⟩) (v := undef) rfl (Or.inr ⟨by rfl, by rfl⟩) ?_
   try simp only [Act.put, pA, pB, pC]
   refine tkA (i := 41) (oi := ⟨some 84, _, _, _, _, _⟩) (v := undef) rfl (Or.inr ⟨by rfl, by rfl⟩) ?_
   try simp only [Act.put, pA, pB, pC]
   refine tkA (i := 42) (oi := ⟨some 85, _, _, _, _, _⟩) (v := undef) rfl (Or.inr ⟨by rfl, by rfl⟩) ?_
   try simp only [Act.put, pA, pB, pC]
   refine tkA (i := 43) (oi := ⟨some 86, _, _, _, _, _⟩) (v := (.bool true)) rfl (Or.inl ⟨by rfl, fun w' hSw => by go_simp⟩) ?_
   try simp only [Act.put, pA, pB, pC]
   refine wpAnyH_done (by kernel_rfl) ?_ _
   obtain ⟨hn, hm, hen, hk1, hk8, hn66, hsum, hq6, hN1⟩ := HNUM.out
   clear HNUM
   clear hHeld
   go_wp2_with fail
   go_ret
   exact ⟨rfl, HB.out⟩
 have ttn : ¬ (12 : Int) < (tn : Int) := by omega
 by_cases hsm : sm ≤ 12
 case neg =>
  have tsm : (12 : Int) < (sm : Int) := by omega
  as_aux_lemma =>
   have HNUM := hide (⟨hn, hm, hen, hk1, hk8, hn66, hsum, hq6, hN1⟩ : _ ∧ _ ∧ _ ∧ _ ∧ _ ∧ _ ∧ _ ∧ _ ∧ _)
   clear hn hm hen hk1 hk8 hn66 hsum hq6 hN1
   refine wp_region_held_drew (S := fun w' => w'.cell? ⟨b4, 0, none⟩ = some (.int .i64 (x : Int)) ∧ w'.cell? ⟨b4, 1, none⟩ = some (.int .i64 (y : Int)) ∧ w'.cell? ⟨b4, 2, none⟩ = some (.int .i64 (q : Int)) ∧ w'.cell? ⟨b4, 3, none⟩ = some (.slice A n c) ∧ w'.cell? ⟨b4, 4, none⟩ = some (.int .i64 (kk : Int)) ∧ w'.cell? ⟨b1, 5, none⟩ = some (.int .i64 (vv : Int)) ∧ w'.cell? ⟨b1, 6, none⟩ = some (.int .i64 L) ∧ w'.cell? ⟨b1, 7, none⟩ = some (.slice TA tn tc) ∧ w'.cell? ⟨b1, 8, none⟩ = some (.slice SA sm sd) ∧ w'.cell? ⟨b1, 9, none⟩ = some (.int .i64 o)) (by kernel_rfl) ⟨HC.out.at_ 0, HC.out.at_ 1, HC.out.at_ 2, HC.out.at_ 3, HC.out.at_ 4, HX.out.at_ 5, HX.out.at_ 6, HX.out.at_ 7, HX.out.at_ 8, HX.out.at_ 9⟩ (fun hHeld => ?_)
   obtain ⟨w_991, hw_991⟩ : ∃ q : World, q = v4.drew := ⟨_, rfl⟩
   rw [← hw_991] at hHeld ⊢
   have hc_991 : Below v4.heap.size v4 w_991 := by rw [hw_991]; exact (Below.refl _ _).drew
   clear hw_991
   replace HFF := hide (HFF.out.below hc_991)
   replace HTT := hide (HTT.out.below hc_991)
   replace HSS := hide (HSS.out.below hc_991)
   replace HMM := hide (HMM.out.below hc_991)
   replace HEE := hide (HEE.out.below hc_991)
   replace HQB := hide (HQB.out.below hc_991)
   replace HX := hide (HX.out.below hc_991)
   replace HC := hide (HC.out.below hc_991)
   replace HB := hide (HB.out.trans (hc_991.mono HB.out.size))
   clear hc_991
   refine tkA (i := 0) (oi := ⟨some 43, _, _, _, _, _⟩) (v := ?_) rfl (Or.inl ⟨by rfl, ?_⟩) ?_
   rotate_left
   · (intro w' hSw; (try dsimp only at hSw); go_simp <;> (with_reducible rfl))
   try simp only [Act.put, pA, pB, pC]
   refine tkA (i := 1) (oi := ⟨some 44, _, _, _, _, _⟩) (v := ?_) rfl (Or.inl ⟨by rfl, ?_⟩) ?_
   rotate_left
   · (intro w' hSw; (try dsimp only at hSw); go_simp <;> (with_reducible rfl))
   try simp only [Act.put, pA, pB, pC]
   refine wpAnyH_ready (rs := [2]) (by kernel_rfl) (by simp) ?_
   refine AllReadyH.cons (o := ⟨some 45, _, _, _, _, _⟩) rfl (fun K' hK => ?_) AllReadyH.nil
   go_simp
   go_at_call 6
   refine (HCR.out _ HFF.out HQB.out).mono ?_
   rintro e_ w_992 ⟨rfl, hb_992⟩
   replace HFF := hide (HFF.out.below hb_992)
   replace HTT := hide (HTT.out.below hb_992)
   replace HSS := hide (HSS.out.below hb_992)
   replace HMM := hide (HMM.out.below hb_992)
   replace HEE := hide (HEE.out.below hb_992)
   replace HQB := hide (HQB.out.below hb_992)
   replace HX := hide (HX.out.below hb_992)
   replace HC := hide (HC.out.below hb_992)
   replace HB := hide (HB.out.trans (hb_992.mono HB.out.size))
   clear hb_992
   go_wp2_with fail
   refine hK.out _ _ ⟨HC.out.at_ 0, HC.out.at_ 1, HC.out.at_ 2, HC.out.at_ 3, HC.out.at_ 4, HX.out.at_ 5, HX.out.at_ 6, HX.out.at_ 7, HX.out.at_ 8, HX.out.at_ 9⟩ (fun hHeld => ?_)
   clear hK K'
   try simp only [Act.put, pA, pB, pC]
   refine tkA (i := 3) (oi := ⟨some 46, _, _, _, _, _⟩) (v := (.bool false)) rfl (Or.inl ⟨by rfl, fun w' hSw => by go_simp⟩) ?_
   try simp only [Act.put, pA, pB, pC]
   refine tkA (i := 4) (oi := ⟨some 47, _, _, _, _, _⟩) (v := ?_) rfl (Or.inl ⟨by rfl, ?_⟩) ?_
   rotate_left
   · (intro w' hSw; (try dsimp only at hSw); go_simp <;> (with_reducible rfl))
   try simp only [Act.put, pA, pB, pC]
   refine tkA (i := 5) (oi := ⟨some 48, _, _, _, _, _⟩) (v := ?_) rfl (Or.inl ⟨by rfl, ?_⟩) ?_
   rotate_left
   · (intro w' hSw; (try dsimp only at hSw); go_simp <;> (with_reducible rfl))
   try simp only [Act.put, pA, pB, pC]
   refine tkA (i := 6) (oi := ⟨some 49, _, _, _, _, _⟩) (v := ?_) rfl (Or.inl ⟨by rfl, ?_⟩) ?_
   rotate_left
   · (intro w' hSw; (try dsimp only at hSw); go_simp <;> (with_reducible rfl))
   try simp only [Act.put, pA, pB, pC]
   refine tkA (i := 7) (oi := ⟨some 50, _, _, _, _, _⟩) (v := ?_) rfl (Or.inl ⟨by rfl, ?_⟩) ?_
   rotate_left
   · (intro w' hSw; (try dsimp only at hSw); go_simp <;> (with_reducible rfl))
   try simp only [Act.put, pA, pB, pC]
   refine tkA (i := 8) (oi := ⟨some 51, _, _, _, _, _⟩) (v := ?_) rfl (Or.inl ⟨by rfl, ?_⟩) ?_
   rotate_left
   · (intro w' hSw; (try dsimp only at hSw); go_simp <;> (with_reducible rfl))
   try simp only [Act.put, pA, pB, pC]
   refine wpAnyH_ready (rs := [9]) (by kernel_rfl) (by simp) ?_
   refine AllReadyH.cons (o := ⟨some 52, _, _, _, _, _⟩) rfl (fun K' hK => ?_) AllReadyH.nil
   go_simp
   go_at_call 7
   refine (HLN.out _).mono ?_
   rintro e_ w_993 ⟨rfl, hb_993⟩
   replace HFF := hide (HFF.out.below hb_993)
   replace HTT := hide (HTT.out.below hb_993)
   replace HSS := hide (HSS.out.below hb_993)
   replace HMM := hide (HMM.out.below hb_993)
   replace HEE := hide (HEE.out.below hb_993)
   replace HQB := hide (HQB.out.below hb_993)
   replace HX := hide (HX.out.below hb_993)
   replace HC := hide (HC.out.below hb_993)
   replace HB := hide (HB.out.trans (hb_993.mono HB.out.size))
   clear hb_993
   go_wp2_with fail
   refine hK.out _ _ ⟨HC.out.at_ 0, HC.out.at_ 1, HC.out.at_ 2, HC.out.at_ 3, HC.out.at_ 4, HX.out.at_ 5, HX.out.at_ 6, HX.out.at_ 7, HX.out.at_ 8, HX.out.at_ 9⟩ (fun hHeld => ?_)
   clear hK K'
   try simp only [Act.put, pA, pB, pC]
   refine tkA (i := 10) (oi := ⟨some 53, _, _, _, _, _⟩) (v := (.bool false)) rfl (Or.inl ⟨by rfl, fun w' hSw => by go_simp⟩) ?_
   try simp only [Act.put, pA, pB, pC]
   refine tkA (i := 11) (oi := ⟨some 54, _, _, _, _, _⟩) (v := (.bool false)) rfl (Or.inl ⟨by rfl, fun w' hSw => by go_simp⟩) ?_
   try simp only [Act.put, pA, pB, pC]
   refine tkA (i := 12) (oi := ⟨some 55, _, _, _, _, _⟩) (v := ?_) rfl (Or.inl ⟨by rfl, ?_⟩) ?_
   rotate_left
   · (intro w' hSw; (try dsimp only at hSw); go_simp <;> (with_reducible rfl))
   try simp only [Act.put, pA, pB, pC]
   refine tkA (i := 13) (oi := ⟨some 56, _, _, _, _, _⟩) (v := ?_) rfl (Or.inl ⟨by rfl, ?_⟩) ?_
   rotate_left
   · (intro w' hSw; (try dsimp only at hSw); go_simp <;> (with_reducible rfl))
   try simp only [Act.put, pA, pB, pC]
   refine tkA (i := 14) (oi := ⟨some 57, _, _, _, _, _⟩) (v := ?_) rfl (Or.inl ⟨by rfl, ?_⟩) ?_
   rotate_left
   · (intro w' hSw; (try dsimp only at hSw); go_simp <;> (with_reducible rfl))
   try simp only [Act.put, pA, pB, pC]
   refine wpAnyH_ready (rs := [15]) (by kernel_rfl) (by simp) ?_
   refine AllReadyH.cons (o := ⟨some 58, _, _, _, _, _⟩) rfl (fun K' hK => ?_) AllReadyH.nil
   go_simp
   go_at_call 8
   refine (HVE.out _).mono ?_
   rintro e_ v_ ⟨rfl, rfl⟩
   go_wp2_with fail
   refine hK.out _ _ ⟨HC.out.at_ 0, HC.out.at_ 1, HC.out.at_ 2, HC.out.at_ 3, HC.out.at_ 4, HX.out.at_ 5, HX.out.at_ 6, HX.out.at_ 7, HX.out.at_ 8, HX.out.at_ 9⟩ (fun hHeld => ?_)
   clear hK K'
   try simp only [Act.put, pA, pB, pC]
   refine tkA (i := 16) (oi := ⟨some 59, _, _, _, _, _⟩) (v := (.bool false)) rfl (Or.inl ⟨by rfl, fun w' hSw => by go_simp⟩) ?_
   try simp only [Act.put, pA, pB, pC]
   refine tkA (i := 17) (oi := ⟨some 60, _, _, _, _, _⟩) (v := (.bool false)) rfl (Or.inl ⟨by rfl, fun w' hSw => by go_simp⟩) ?_
   try simp only [Act.put, pA, pB, pC]
   refine tkA (i := 18) (oi := ⟨some 61, _, _, _, _, _⟩) (v := ?_) rfl (Or.inl ⟨by rfl, ?_⟩) ?_
   rotate_left
   · (intro w' hSw; (try dsimp only at hSw); go_simp <;> (with_reducible rfl))
   try simp only [Act.put, pA, pB, pC]
   refine tkA (i := 19) (oi := ⟨some 62, _, _, _, _, _⟩) (v := ?_) rfl (Or.inl ⟨by rfl, ?_⟩) ?_
   rotate_left
   · (intro w' hSw; (try dsimp only at hSw); go_simp <;> (with_reducible rfl))
   try simp only [Act.put, pA, pB, pC]
   refine tkA (i := 20) (oi := ⟨some 63, _, _, _, _, _⟩) (v := ?_) rfl (Or.inl ⟨by rfl, ?_⟩) ?_
   rotate_left
   · (intro w' hSw; (try dsimp only at hSw); go_simp <;> (with_reducible rfl))
   try simp only [Act.put, pA, pB, pC]
   refine tkA (i := 21) (oi := ⟨some 64, _, _, _, _, _⟩) (v := ?_) rfl (Or.inl ⟨by rfl, ?_⟩) ?_
   rotate_left
   · (intro w' hSw; (try dsimp only at hSw); go_simp <;> (with_reducible rfl))
   try simp only [Act.put, pA, pB, pC]
   refine tkA (i := 22) (oi := ⟨some 65, _, _, _, _, _⟩) (v := ?_) rfl (Or.inl ⟨by rfl, ?_⟩) ?_
   rotate_left
   · (intro w' hSw; (try dsimp only at hSw); go_simp <;> (with_reducible rfl))
   try simp only [Act.put, pA, pB, pC]
   refine tkA (i := 23) (oi := ⟨some 66, _, _, _, _, _⟩) (v := (.bool false)) rfl (Or.inl ⟨by rfl, fun w' hSw => by go_simp⟩) ?_
   try simp only [Act.put, pA, pB, pC]
   refine tkA (i := 24) (oi := ⟨some 67, _, _, _, _, _⟩) (v := (.bool false)) rfl (Or.inl ⟨by rfl, fun w' hSw => by go_simp⟩) ?_
   try simp only [Act.put, pA, pB, pC]
   refine tkA (i := 25) (oi := ⟨some 68, _, _, _, _, _⟩) (v := ?_) rfl (Or.inl ⟨by rfl, ?_⟩) ?_
   rotate_left
   · (intro w' hSw; (try dsimp only at hSw); go_simp <;> (with_reducible rfl))
   try simp only [Act.put, pA, pB, pC]
   refine tkA (i := 26) (oi := ⟨some 69, _, _, _, _, _⟩) (v := ?_) rfl (Or.inl ⟨by rfl, ?_⟩) ?_
   rotate_left
   · (intro w' hSw; (try dsimp only at hSw); go_simp <;> (with_reducible rfl))
   try simp only [Act.put, pA, pB, pC]
   refine tkA (i := 27) (oi := ⟨some 70, _, _, _, _, _⟩) (v := ?_) rfl (Or.inl ⟨by rfl, ?_⟩) ?_
   rotate_left
   · (intro w' hSw; (try dsimp only at hSw); go_simp <;> (with_reducible rfl))
   try simp only [Act.put, pA, pB, pC]
   refine tkA (i := 28) (oi := ⟨some 71, _, _, _, _, _⟩) (v := ?_) rfl (Or.inl ⟨by rfl, ?_⟩) ?_
   rotate_left
   · (intro w' hSw; (try dsimp only at hSw); go_simp <;> (with_reducible rfl))
   try simp only [Act.put, pA, pB, pC]
   refine tkA (i := 29) (oi := ⟨some 72, _, _, _, _, _⟩) (v := ?_) rfl (Or.inl ⟨by rfl, ?_⟩) ?_
   rotate_left
   · (intro w' hSw; (try dsimp only at hSw); go_simp <;> (with_reducible rfl))
   try simp only [Act.put, pA, pB, pC]
   refine tkA (i := 30) (oi := ⟨some 73, _, _, _, _, _⟩) (v := (.bool true)) rfl (Or.inl ⟨by rfl, fun w' hSw => by go_simp⟩) ?_
   try simp only [Act.put, pA, pB, pC]
   refine tkA (i := 31) (oi := ⟨some 74, _, _, _, _, _⟩) (v := (.bool true)) rfl (Or.inl ⟨by rfl, fun w' hSw => by go_simp⟩) ?_
   try simp only [Act.put, pA, pB, pC]
   refine tkA (i := 32) (oi := ⟨some 75, _, _, _, _, _⟩) (v := ?_) rfl (Or.inl ⟨by rfl, ?_⟩) ?_
   rotate_left
   · (intro w' hSw; (try dsimp only at hSw); go_simp <;> (with_reducible rfl))
   try simp only [Act.put, pA, pB, pC]
   refine tkA (i := 33) (oi := ⟨some 76, _, _, _, _, _⟩) (v := undef) rfl (Or.inr ⟨by rfl, by rfl⟩) ?_
   try simp only [Act.put, pA, pB, pC]
   refine tkA (i := 34) (oi := ⟨some 77, _, _, _, _, _⟩) (v := undef) rfl (Or.inr ⟨by rfl, by rfl⟩) ?_
   try simp only [Act.put, pA, pB, pC]
   refine tkA (i := 35) (oi := ⟨some 78, _, _, _, _, _⟩) (v := undef) rfl (Or.inr ⟨by rfl, by rfl⟩) ?_
   try simp only [Act.put, pA, pB, pC]
   refine tkA (i := 36) (oi := ⟨some 79, _, _, _, _, _⟩) (v := undef) rfl (Or.inr ⟨by rfl, by rfl⟩) ?_
   try simp only [Act.put, pA, pB, pC]
   refine tkA (i := 37) (oi := ⟨some 80, _, _, _, _, _⟩) (v := (.bool true)) rfl (Or.inl ⟨by rfl, fun w' hSw => by go_simp⟩) ?_
   try simp only [Act.put, pA, pB, pC]
   refine tkA (i := 38) (oi := ⟨some 81, _, _, _, _, _⟩) (v := ?_) rfl (Or.inl ⟨by rfl, ?_⟩) ?_
   rotate_left
   · (intro w' hSw; (try dsimp only at hSw); go_simp <;> (with_reducible rfl))
   try simp only [Act.put, pA, pB, pC]
   refine tkA (i := 39) (oi := ⟨some 82, _, _, _, _, _⟩) (v := undef) rfl (Or.inr ⟨by rfl, by rfl⟩) ?_
   try simp only [Act.put, pA, pB, pC]
   refine tkA (i := 40) (oi := ⟨some 83, _, _, _, _, _⟩) (v := undef) rfl (Or.inr ⟨by rfl, by rfl⟩) ?_
   try simp only [Act.put, pA, pB, pC]
   refine tkA (i := 41) (oi := ⟨some 84, _, _, _, _, _⟩) (v := undef) rfl (Or.inr ⟨by rfl, by rfl⟩) ?_
   try simp only [Act.put, pA, pB, pC]
   refine tkA (i := 42) (oi := ⟨some 85, _, _, _, _, _⟩) (v := undef) rfl (Or.inr ⟨by rfl, by rfl⟩) ?_
   try simp only [Act.put, pA, pB, pC]
   refine tkA (i := 43) (oi := ⟨some 86, _, _, _, _, _⟩) (v := (.bool true)) rfl (Or.inl ⟨by rfl, fun w' hSw => by go_simp⟩) ?_
   try simp only [Act.put, pA, pB, pC]
   refine wpAnyH_done (by kernel_rfl) ?_ _
   obtain ⟨hn, hm, hen, hk1, hk8, hn66, hsum, hq6, hN1⟩ := HNUM.out
   clear HNUM
   clear hHeld
   go_wp2_with fail
   go_ret
   exact ⟨rfl, HB.out⟩
 have tsm : ¬ (12 : Int) < (sm : Int) := by omega
 have HRG := hide (fun W h1 h2 => CheckRegisterR_any L TA SA tn tc sm sd T S W (by omega) (by omega) h1 h2)
 by_cases hrg : regE L tn T sm S = 0
 case neg =>
  obtain ⟨e5, he5⟩ : ∃ z, regE L tn T sm S = z := ⟨_, rfl⟩
  rw [he5] at hrg
  simp only [he5] at HRG
  have te5 : (e5 != 0) = true := by simpa using hrg
  clear he5 hrg
  as_aux_lemma =>
   have HNUM := hide (⟨hn, hm, hen, hk1, hk8, hn66, hsum, hq6, hN1⟩ : _ ∧ _ ∧ _ ∧ _ ∧ _ ∧ _ ∧ _ ∧ _ ∧ _)
   clear hn hm hen hk1 hk8 hn66 hsum hq6 hN1
   refine wp_region_held_drew (S := fun w' => w'.cell? ⟨b4, 0, none⟩ = some (.int .i64 (x : Int)) ∧ w'.cell? ⟨b4, 1, none⟩ = some (.int .i64 (y : Int)) ∧ w'.cell? ⟨b4, 2, none⟩ = some (.int .i64 (q : Int)) ∧ w'.cell? ⟨b4, 3, none⟩ = some (.slice A n c) ∧ w'.cell? ⟨b4, 4, none⟩ = some (.int .i64 (kk : Int)) ∧ w'.cell? ⟨b1, 5, none⟩ = some (.int .i64 (vv : Int)) ∧ w'.cell? ⟨b1, 6, none⟩ = some (.int .i64 L) ∧ w'.cell? ⟨b1, 7, none⟩ = some (.slice TA tn tc) ∧ w'.cell? ⟨b1, 8, none⟩ = some (.slice SA sm sd) ∧ w'.cell? ⟨b1, 9, none⟩ = some (.int .i64 o)) (by kernel_rfl) ⟨HC.out.at_ 0, HC.out.at_ 1, HC.out.at_ 2, HC.out.at_ 3, HC.out.at_ 4, HX.out.at_ 5, HX.out.at_ 6, HX.out.at_ 7, HX.out.at_ 8, HX.out.at_ 9⟩ (fun hHeld => ?_)
   obtain ⟨w_1001, hw_1001⟩ : ∃ q : World, q = v4.drew := ⟨_, rfl⟩
   rw [← hw_1001] at hHeld ⊢
   have hc_1001 : Below v4.heap.size v4 w_1001 := by rw [hw_1001]; exact (Below.refl _ _).drew
   clear hw_1001
   replace HFF := hide (HFF.out.below hc_1001)
   replace HTT := hide (HTT.out.below hc_1001)
   replace HSS := hide (HSS.out.below hc_1001)
   replace HMM := hide (HMM.out.below hc_1001)
   replace HEE := hide (HEE.out.below hc_1001)
   replace HQB := hide (HQB.out.below hc_1001)
   replace HX := hide (HX.out.below hc_1001)
   replace HC := hide (HC.out.below hc_1001)
   replace HB := hide (HB.out.trans (hc_1001.mono HB.out.size))
   clear hc_1001
   refine tkA (i := 0) (oi := ⟨some 43, _, _, _, _, _⟩) (v := ?_) rfl (Or.inl ⟨by rfl, ?_⟩) ?_
   rotate_left
   · (intro w' hSw; (try dsimp only at hSw); go_simp <;> (with_reducible rfl))
   try simp only [Act.put, pA, pB, pC]
   refine tkA (i := 1) (oi := ⟨some 44, _, _, _, _, _⟩) (v := ?_) rfl (Or.inl ⟨by rfl, ?_⟩) ?_
   rotate_left
   · (intro w' hSw; (try dsimp only at hSw); go_simp <;> (with_reducible rfl))
   try simp only [Act.put, pA, pB, pC]
   refine wpAnyH_ready (rs := [2]) (by kernel_rfl) (by simp) ?_
   refine AllReadyH.cons (o := ⟨some 45, _, _, _, _, _⟩) rfl (fun K' hK => ?_) AllReadyH.nil
   go_simp
   go_at_call 6
   refine (HCR.out _ HFF.out HQB.out).mono ?_
   rintro e_ w_1002 ⟨rfl, hb_1002⟩
   replace HFF := hide (HFF.out.below hb_1002)
   replace HTT := hide (HTT.out.below hb_1002)
   replace HSS := hide (HSS.out.below hb_1002)
   replace HMM := hide (HMM.out.below hb_1002)
   replace HEE := hide (HEE.out.below hb_1002)
   replace HQB := hide (HQB.out.below hb_1002)
   replace HX := hide (HX.out.below hb_1002)
   replace HC := hide (HC.out.below hb_1002)
   replace HB := hide (HB.out.trans (hb_1002.mono HB.out.size))
   clear hb_1002
   go_wp2_with fail
   refine hK.out _ _ ⟨HC.out.at_ 0, HC.out.at_ 1, HC.out.at_ 2, HC.out.at_ 3, HC.out.at_ 4, HX.out.at_ 5, HX.out.at_ 6, HX.out.at_ 7, HX.out.at_ 8, HX.out.at_ 9⟩ (fun hHeld => ?_)
   clear hK K'
   try simp only [Act.put, pA, pB, pC]
   refine tkA (i := 3) (oi := ⟨some 46, _, _, _, _, _⟩) (v := (.bool false)) rfl (Or.inl ⟨by rfl, fun w' hSw => by go_simp⟩) ?_
   try simp only [Act.put, pA, pB, pC]
   refine tkA (i := 4) (oi := ⟨some 47, _, _, _, _, _⟩) (v := ?_) rfl (Or.inl ⟨by rfl, ?_⟩) ?_
   rotate_left
   · (intro w' hSw; (try dsimp only at hSw); go_simp <;> (with_reducible rfl))
   try simp only [Act.put, pA, pB, pC]
   refine tkA (i := 5) (oi := ⟨some 48, _, _, _, _, _⟩) (v := ?_) rfl (Or.inl ⟨by rfl, ?_⟩) ?_
   rotate_left
   · (intro w' hSw; (try dsimp only at hSw); go_simp <;> (with_reducible rfl))
   try simp only [Act.put, pA, pB, pC]
   refine tkA (i := 6) (oi := ⟨some 49, _, _, _, _, _⟩) (v := ?_) rfl (Or.inl ⟨by rfl, ?_⟩) ?_
   rotate_left
   · (intro w' hSw; (try dsimp only at hSw); go_simp <;> (with_reducible rfl))
   try simp only [Act.put, pA, pB, pC]
   refine tkA (i := 7) (oi := ⟨some 50, _, _, _, _, _⟩) (v := ?_) rfl (Or.inl ⟨by rfl, ?_⟩) ?_
   rotate_left
   · (intro w' hSw; (try dsimp only at hSw); go_simp <;> (with_reducible rfl))
   try simp only [Act.put, pA, pB, pC]
   refine tkA (i := 8) (oi := ⟨some 51, _, _, _, _, _⟩) (v := ?_) rfl (Or.inl ⟨by rfl, ?_⟩) ?_
   rotate_left
   · (intro w' hSw; (try dsimp only at hSw); go_simp <;> (with_reducible rfl))
   try simp only [Act.put, pA, pB, pC]
   refine wpAnyH_ready (rs := [9]) (by kernel_rfl) (by simp) ?_
   refine AllReadyH.cons (o := ⟨some 52, _, _, _, _, _⟩) rfl (fun K' hK => ?_) AllReadyH.nil
   go_simp
   go_at_call 7
   refine (HLN.out _).mono ?_
   rintro e_ w_1003 ⟨rfl, hb_1003⟩
   replace HFF := hide (HFF.out.below hb_1003)
   replace HTT := hide (HTT.out.below hb_1003)
   replace HSS := hide (HSS.out.below hb_1003)
   replace HMM := hide (HMM.out.below hb_1003)
   replace HEE := hide (HEE.out.below hb_1003)
   replace HQB := hide (HQB.out.below hb_1003)
   replace HX := hide (HX.out.below hb_1003)
   replace HC := hide (HC.out.below hb_1003)
   replace HB := hide (HB.out.trans (hb_1003.mono HB.out.size))
   clear hb_1003
   go_wp2_with fail
   refine hK.out _ _ ⟨HC.out.at_ 0, HC.out.at_ 1, HC.out.at_ 2, HC.out.at_ 3, HC.out.at_ 4, HX.out.at_ 5, HX.out.at_ 6, HX.out.at_ 7, HX.out.at_ 8, HX.out.at_ 9⟩ (fun hHeld => ?_)
   clear hK K'
   try simp only [Act.put, pA, pB, pC]
   refine tkA (i := 10) (oi := ⟨some 53, _, _, _, _, _⟩) (v := (.bool false)) rfl (Or.inl ⟨by rfl, fun w' hSw => by go_simp⟩) ?_
   try simp only [Act.put, pA, pB, pC]
   refine tkA (i := 11) (oi := ⟨some 54, _, _, _, _, _⟩) (v := (.bool false)) rfl (Or.inl ⟨by rfl, fun w' hSw => by go_simp⟩) ?_
   try simp only [Act.put, pA, pB, pC]
   refine tkA (i := 12) (oi := ⟨some 55, _, _, _, _, _⟩) (v := ?_) rfl (Or.inl ⟨by rfl, ?_⟩) ?_
   rotate_left
   · (intro w' hSw; (try dsimp only at hSw); go_simp <;> (with_reducible rfl))
   try simp only [Act.put, pA, pB, pC]
   refine tkA (i := 13) (oi := ⟨some 56, _, _, _, _, _⟩) (v := ?_) rfl (Or.inl ⟨by rfl, ?_⟩) ?_
   rotate_left
   · (intro w' hSw; (try dsimp only at hSw); go_simp <;> (with_reducible rfl))
   try simp only [Act.put, pA, pB, pC]
   refine tkA (i := 14) (oi := ⟨some 57, _, _, _, _, _⟩) (v := ?_) rfl (Or.inl ⟨by rfl, ?_⟩) ?_
   rotate_left
   · (intro w' hSw; (try dsimp only at hSw); go_simp <;> (with_reducible rfl))
   try simp only [Act.put, pA, pB, pC]
   refine wpAnyH_ready (rs := [15]) (by kernel_rfl) (by simp) ?_
   refine AllReadyH.cons (o := ⟨some 58, _, _, _, _, _⟩) rfl (fun K' hK => ?_) AllReadyH.nil
   go_simp
   go_at_call 8
   refine (HVE.out _).mono ?_
   rintro e_ v_ ⟨rfl, rfl⟩
   go_wp2_with fail
   refine hK.out _ _ ⟨HC.out.at_ 0, HC.out.at_ 1, HC.out.at_ 2, HC.out.at_ 3, HC.out.at_ 4, HX.out.at_ 5, HX.out.at_ 6, HX.out.at_ 7, HX.out.at_ 8, HX.out.at_ 9⟩ (fun hHeld => ?_)
   clear hK K'
   try simp only [Act.put, pA, pB, pC]
   refine tkA (i := 16) (oi := ⟨some 59, _, _, _, _, _⟩) (v := (.bool false)) rfl (Or.inl ⟨by rfl, fun w' hSw => by go_simp⟩) ?_
   try simp only [Act.put, pA, pB, pC]
   refine tkA (i := 17) (oi := ⟨some 60, _, _, _, _, _⟩) (v := (.bool false)) rfl (Or.inl ⟨by rfl, fun w' hSw => by go_simp⟩) ?_
   try simp only [Act.put, pA, pB, pC]
   refine tkA (i := 18) (oi := ⟨some 61, _, _, _, _, _⟩) (v := ?_) rfl (Or.inl ⟨by rfl, ?_⟩) ?_
   rotate_left
   · (intro w' hSw; (try dsimp only at hSw); go_simp <;> (with_reducible rfl))
   try simp only [Act.put, pA, pB, pC]
   refine tkA (i := 19) (oi := ⟨some 62, _, _, _, _, _⟩) (v := ?_) rfl (Or.inl ⟨by rfl, ?_⟩) ?_
   rotate_left
   · (intro w' hSw; (try dsimp only at hSw); go_simp <;> (with_reducible rfl))
   try simp only [Act.put, pA, pB, pC]
   refine tkA (i := 20) (oi := ⟨some 63, _, _, _, _, _⟩) (v := ?_) rfl (Or.inl ⟨by rfl, ?_⟩) ?_
   rotate_left
   · (intro w' hSw; (try dsimp only at hSw); go_simp <;> (with_reducible rfl))
   try simp only [Act.put, pA, pB, pC]
   refine tkA (i := 21) (oi := ⟨some 64, _, _, _, _, _⟩) (v := ?_) rfl (Or.inl ⟨by rfl, ?_⟩) ?_
   rotate_left
   · (intro w' hSw; (try dsimp only at hSw); go_simp <;> (with_reducible rfl))
   try simp only [Act.put, pA, pB, pC]
   refine tkA (i := 22) (oi := ⟨some 65, _, _, _, _, _⟩) (v := ?_) rfl (Or.inl ⟨by rfl, ?_⟩) ?_
   rotate_left
   · (intro w' hSw; (try dsimp only at hSw); go_simp <;> (with_reducible rfl))
   try simp only [Act.put, pA, pB, pC]
   refine tkA (i := 23) (oi := ⟨some 66, _, _, _, _, _⟩) (v := (.bool false)) rfl (Or.inl ⟨by rfl, fun w' hSw => by go_simp⟩) ?_
   try simp only [Act.put, pA, pB, pC]
   refine tkA (i := 24) (oi := ⟨some 67, _, _, _, _, _⟩) (v := (.bool false)) rfl (Or.inl ⟨by rfl, fun w' hSw => by go_simp⟩) ?_
   try simp only [Act.put, pA, pB, pC]
   refine tkA (i := 25) (oi := ⟨some 68, _, _, _, _, _⟩) (v := ?_) rfl (Or.inl ⟨by rfl, ?_⟩) ?_
   rotate_left
   · (intro w' hSw; (try dsimp only at hSw); go_simp <;> (with_reducible rfl))
   try simp only [Act.put, pA, pB, pC]
   refine tkA (i := 26) (oi := ⟨some 69, _, _, _, _, _⟩) (v := ?_) rfl (Or.inl ⟨by rfl, ?_⟩) ?_
   rotate_left
   · (intro w' hSw; (try dsimp only at hSw); go_simp <;> (with_reducible rfl))
   try simp only [Act.put, pA, pB, pC]
   refine tkA (i := 27) (oi := ⟨some 70, _, _, _, _, _⟩) (v := ?_) rfl (Or.inl ⟨by rfl, ?_⟩) ?_
   rotate_left
   · (intro w' hSw; (try dsimp only at hSw); go_simp <;> (with_reducible rfl))
   try simp only [Act.put, pA, pB, pC]
   refine tkA (i := 28) (oi := ⟨some 71, _, _, _, _, _⟩) (v := ?_) rfl (Or.inl ⟨by rfl, ?_⟩) ?_
   rotate_left
   · (intro w' hSw; (try dsimp only at hSw); go_simp <;> (with_reducible rfl))
   try simp only [Act.put, pA, pB, pC]
   refine tkA (i := 29) (oi := ⟨some 72, _, _, _, _, _⟩) (v := ?_) rfl (Or.inl ⟨by rfl, ?_⟩) ?_
   rotate_left
   · (intro w' hSw; (try dsimp only at hSw); go_simp <;> (with_reducible rfl))
   try simp only [Act.put, pA, pB, pC]
   refine tkA (i := 30) (oi := ⟨some 73, _, _, _, _, _⟩) (v := (.bool false)) rfl (Or.inl ⟨by rfl, fun w' hSw => by go_simp⟩) ?_
   try simp only [Act.put, pA, pB, pC]
   refine tkA (i := 31) (oi := ⟨some 74, _, _, _, _, _⟩) (v := (.bool false)) rfl (Or.inl ⟨by rfl, fun w' hSw => by go_simp⟩) ?_
   try simp only [Act.put, pA, pB, pC]
   refine tkA (i := 32) (oi := ⟨some 75, _, _, _, _, _⟩) (v := ?_) rfl (Or.inl ⟨by rfl, ?_⟩) ?_
   rotate_left
   · (intro w' hSw; (try dsimp only at hSw); go_simp <;> (with_reducible rfl))
   try simp only [Act.put, pA, pB, pC]
   refine tkA (i := 33) (oi := ⟨some 76, _, _, _, _, _⟩) (v := ?_) rfl (Or.inl ⟨by rfl, ?_⟩) ?_
   rotate_left
   · (intro w' hSw; (try dsimp only at hSw); go_simp <;> (with_reducible rfl))
   try simp only [Act.put, pA, pB, pC]
   refine tkA (i := 34) (oi := ⟨some 77, _, _, _, _, _⟩) (v := ?_) rfl (Or.inl ⟨by rfl, ?_⟩) ?_
   rotate_left
   · (intro w' hSw; (try dsimp only at hSw); go_simp <;> (with_reducible rfl))
   try simp only [Act.put, pA, pB, pC]
   refine wpAnyH_ready (rs := [35]) (by kernel_rfl) (by simp) ?_
   refine AllReadyH.cons (o := ⟨some 78, _, _, _, _, _⟩) rfl (fun K' hK => ?_) AllReadyH.nil
   go_simp
   go_at_call 9
   refine (HRG.out _ HTT.out HSS.out).mono ?_
   rintro e_ w_1004 ⟨rfl, hb_1004⟩
   replace HFF := hide (HFF.out.below hb_1004)
   replace HTT := hide (HTT.out.below hb_1004)
   replace HSS := hide (HSS.out.below hb_1004)
   replace HMM := hide (HMM.out.below hb_1004)
   replace HEE := hide (HEE.out.below hb_1004)
   replace HQB := hide (HQB.out.below hb_1004)
   replace HX := hide (HX.out.below hb_1004)
   replace HC := hide (HC.out.below hb_1004)
   replace HB := hide (HB.out.trans (hb_1004.mono HB.out.size))
   clear hb_1004
   go_wp2_with fail
   refine hK.out _ _ ⟨HC.out.at_ 0, HC.out.at_ 1, HC.out.at_ 2, HC.out.at_ 3, HC.out.at_ 4, HX.out.at_ 5, HX.out.at_ 6, HX.out.at_ 7, HX.out.at_ 8, HX.out.at_ 9⟩ (fun hHeld => ?_)
   clear hK K'
   try simp only [Act.put, pA, pB, pC]
   refine tkA (i := 36) (oi := ⟨some 79, _, _, _, _, _⟩) (v := (.bool true)) rfl (Or.inl ⟨by rfl, fun w' hSw => by go_simp⟩) ?_
   try simp only [Act.put, pA, pB, pC]
   refine tkA (i := 37) (oi := ⟨some 80, _, _, _, _, _⟩) (v := (.bool true)) rfl (Or.inl ⟨by rfl, fun w' hSw => by go_simp⟩) ?_
   try simp only [Act.put, pA, pB, pC]
   refine tkA (i := 38) (oi := ⟨some 81, _, _, _, _, _⟩) (v := ?_) rfl (Or.inl ⟨by rfl, ?_⟩) ?_
   rotate_left
   · (intro w' hSw; (try dsimp only at hSw); go_simp <;> (with_reducible rfl))
   try simp only [Act.put, pA, pB, pC]
   refine tkA (i := 39) (oi := ⟨some 82, _, _, _, _, _⟩) (v := undef) rfl (Or.inr ⟨by rfl, by rfl⟩) ?_
   try simp only [Act.put, pA, pB, pC]
   refine tkA (i := 40) (oi := ⟨some 83, _, _, _, _, _⟩) (v := undef) rfl (Or.inr ⟨by rfl, by rfl⟩) ?_
   try simp only [Act.put, pA, pB, pC]
   refine tkA (i := 41) (oi := ⟨some 84, _, _, _, _, _⟩) (v := undef) rfl (Or.inr ⟨by rfl, by rfl⟩) ?_
   try simp only [Act.put, pA, pB, pC]
   refine tkA (i := 42) (oi := ⟨some 85, _, _, _, _, _⟩) (v := undef) rfl (Or.inr ⟨by rfl, by rfl⟩) ?_
   try simp only [Act.put, pA, pB, pC]
   refine tkA (i := 43) (oi := ⟨some 86, _, _, _, _, _⟩) (v := (.bool true)) rfl (Or.inl ⟨by rfl, fun w' hSw => by go_simp⟩) ?_
   try simp only [Act.put, pA, pB, pC]
   refine wpAnyH_done (by kernel_rfl) ?_ _
   obtain ⟨hn, hm, hen, hk1, hk8, hn66, hsum, hq6, hN1⟩ := HNUM.out
   clear HNUM
   clear hHeld
   go_wp2_with fail
   go_ret
   exact ⟨rfl, HB.out⟩
 simp only [hrg] at HRG
 obtain ⟨pp, rfl, rfl, hreg⟩ := regE_ok hrg
 have HRZ := hide hrg
 have HRE := hide hreg
 have tsm2 : ¬ (12 : Int) < (pp : Int) + 1 := by omega
 have tsm3 : (pp : Int) + 1 ≤ 12 := by omega
 have htn1 := hreg.some_
 have hpp9 := hreg.most
 have HOE := hide (fun W => OrderErr_any o W)
 clear hrg hreg
 by_cases hoe : ordE o = 0
 case neg =>
  obtain ⟨e6, he6⟩ : ∃ z, ordE o = z := ⟨_, rfl⟩
  rw [he6] at hoe
  simp only [he6] at HOE
  have te6 : (e6 != 0) = true := by simpa using hoe
  clear he6 hoe
  as_aux_lemma =>
   have HNUM := hide (⟨hn, hm, hen, hk1, hk8, hn66, hsum, hq6, hN1, htn1, hpp9, htn, hsm, hv3⟩ : _ ∧ _ ∧ _ ∧ _ ∧ _ ∧ _ ∧ _ ∧ _ ∧ _ ∧ _ ∧ _ ∧ _ ∧ _ ∧ _)
   clear hn hm hen hk1 hk8 hn66 hsum hq6 hN1 htn1 hpp9 htn hsm hv3
   refine wp_region_held_drew (S := fun w' => w'.cell? ⟨b4, 0, none⟩ = some (.int .i64 (x : Int)) ∧ w'.cell? ⟨b4, 1, none⟩ = some (.int .i64 (y : Int)) ∧ w'.cell? ⟨b4, 2, none⟩ = some (.int .i64 (q : Int)) ∧ w'.cell? ⟨b4, 3, none⟩ = some (.slice A n c) ∧ w'.cell? ⟨b4, 4, none⟩ = some (.int .i64 (kk : Int)) ∧ w'.cell? ⟨b1, 5, none⟩ = some (.int .i64 (vv : Int)) ∧ w'.cell? ⟨b1, 6, none⟩ = some (.int .i64 ((pp : Int) + 1)) ∧ w'.cell? ⟨b1, 7, none⟩ = some (.slice TA tn tc) ∧ w'.cell? ⟨b1, 8, none⟩ = some (.slice SA (pp + 1) sd) ∧ w'.cell? ⟨b1, 9, none⟩ = some (.int .i64 o)) (by kernel_rfl) ⟨HC.out.at_ 0, HC.out.at_ 1, HC.out.at_ 2, HC.out.at_ 3, HC.out.at_ 4, HX.out.at_ 5, HX.out.at_ 6, HX.out.at_ 7, HX.out.at_ 8, HX.out.at_ 9⟩ (fun hHeld => ?_)
   obtain ⟨w_1011, hw_1011⟩ : ∃ q : World, q = v4.drew := ⟨_, rfl⟩
   rw [← hw_1011] at hHeld ⊢
   have hc_1011 : Below v4.heap.size v4 w_1011 := by rw [hw_1011]; exact (Below.refl _ _).drew
   clear hw_1011
   replace HFF := hide (HFF.out.below hc_1011)
   replace HTT := hide (HTT.out.below hc_1011)
   replace HSS := hide (HSS.out.below hc_1011)
   replace HMM := hide (HMM.out.below hc_1011)
   replace HEE := hide (HEE.out.below hc_1011)
   replace HQB := hide (HQB.out.below hc_1011)
   replace HX := hide (HX.out.below hc_1011)
   replace HC := hide (HC.out.below hc_1011)
   replace HB := hide (HB.out.trans (hc_1011.mono HB.out.size))
   clear hc_1011
   refine tkA (i := 0) (oi := ⟨some 43, _, _, _, _, _⟩) (v := ?_) rfl (Or.inl ⟨by rfl, ?_⟩) ?_
   rotate_left
   · (intro w' hSw; (try dsimp only at hSw); go_simp <;> (with_reducible rfl))
   try simp only [Act.put, pA, pB, pC]
   refine tkA (i := 1) (oi := ⟨some 44, _, _, _, _, _⟩) (v := ?_) rfl (Or.inl ⟨by rfl, ?_⟩) ?_
   rotate_left
   · (intro w' hSw; (try dsimp only at hSw); go_simp <;> (with_reducible rfl))
   try simp only [Act.put, pA, pB, pC]
   refine wpAnyH_ready (rs := [2]) (by kernel_rfl) (by simp) ?_
   refine AllReadyH.cons (o := ⟨some 45, _, _, _, _, _⟩) rfl (fun K' hK => ?_) AllReadyH.nil
   go_simp
   go_at_call 6
   refine (HCR.out _ HFF.out HQB.out).mono ?_
   rintro e_ w_1012 ⟨rfl, hb_1012⟩
   replace HFF := hide (HFF.out.below hb_1012)
   replace HTT := hide (HTT.out.below hb_1012)
   replace HSS := hide (HSS.out.below hb_1012)
   replace HMM := hide (HMM.out.below hb_1012)
   replace HEE := hide (HEE.out.below hb_1012)
   replace HQB := hide (HQB.out.below hb_1012)
   replace HX := hide (HX.out.below hb_1012)
   replace HC := hide (HC.out.below hb_1012)
   replace HB := hide (HB.out.trans (hb_1012.mono HB.out.size))
   clear hb_1012
   go_wp2_with fail
   refine hK.out _ _ ⟨HC.out.at_ 0, HC.out.at_ 1, HC.out.at_ 2, HC.out.at_ 3, HC.out.at_ 4, HX.out.at_ 5, HX.out.at_ 6, HX.out.at_ 7, HX.out.at_ 8, HX.out.at_ 9⟩ (fun hHeld => ?_)
   clear hK K'
   try simp only [Act.put, pA, pB, pC]
   refine tkA (i := 3) (oi := ⟨some 46, _, _, _, _, _⟩) (v := (.bool false)) rfl (Or.inl ⟨by rfl, fun w' hSw => by go_simp⟩) ?_
   try simp only [Act.put, pA, pB, pC]
   refine tkA (i := 4) (oi := ⟨some 47, _, _, _, _, _⟩) (v := ?_) rfl (Or.inl ⟨by rfl, ?_⟩) ?_
   rotate_left
   · (intro w' hSw; (try dsimp only at hSw); go_simp <;> (with_reducible rfl))
   try simp only [Act.put, pA, pB, pC]
   refine tkA (i := 5) (oi := ⟨some 48, _, _, _, _, _⟩) (v := ?_) rfl (Or.inl ⟨by rfl, ?_⟩) ?_
   rotate_left
   · (intro w' hSw; (try dsimp only at hSw); go_simp <;> (with_reducible rfl))
   try simp only [Act.put, pA, pB, pC]
   refine tkA (i := 6) (oi := ⟨some 49, _, _, _, _, _⟩) (v := ?_) rfl (Or.inl ⟨by rfl, ?_⟩) ?_
   rotate_left
   · (intro w' hSw; (try dsimp only at hSw); go_simp <;> (with_reducible rfl))
   try simp only [Act.put, pA, pB, pC]
   refine tkA (i := 7) (oi := ⟨some 50, _, _, _, _, _⟩) (v := ?_) rfl (Or.inl ⟨by rfl, ?_⟩) ?_
   rotate_left
   · (intro w' hSw; (try dsimp only at hSw); go_simp <;> (with_reducible rfl))
   try simp only [Act.put, pA, pB, pC]
   refine tkA (i := 8) (oi := ⟨some 51, _, _, _, _, _⟩) (v := ?_) rfl (Or.inl ⟨by rfl, ?_⟩) ?_
   rotate_left
   · (intro w' hSw; (try dsimp only at hSw); go_simp <;> (with_reducible rfl))
   try simp only [Act.put, pA, pB, pC]
   refine wpAnyH_ready (rs := [9]) (by kernel_rfl) (by simp) ?_
   refine AllReadyH.cons (o := ⟨some 52, _, _, _, _, _⟩) rfl (fun K' hK => ?_) AllReadyH.nil
   go_simp
   go_at_call 7
   refine (HLN.out _).mono ?_
   rintro e_ w_1013 ⟨rfl, hb_1013⟩
   replace HFF := hide (HFF.out.below hb_1013)
   replace HTT := hide (HTT.out.below hb_1013)
   replace HSS := hide (HSS.out.below hb_1013)
   replace HMM := hide (HMM.out.below hb_1013)
   replace HEE := hide (HEE.out.below hb_1013)
   replace HQB := hide (HQB.out.below hb_1013)
   replace HX := hide (HX.out.below hb_1013)
   replace HC := hide (HC.out.below hb_1013)
   replace HB := hide (HB.out.trans (hb_1013.mono HB.out.size))
   clear hb_1013
   go_wp2_with fail
   refine hK.out _ _ ⟨HC.out.at_ 0, HC.out.at_ 1, HC.out.at_ 2, HC.out.at_ 3, HC.out.at_ 4, HX.out.at_ 5, HX.out.at_ 6, HX.out.at_ 7, HX.out.at_ 8, HX.out.at_ 9⟩ (fun hHeld => ?_)
   clear hK K'
   try simp only [Act.put, pA, pB, pC]
   refine tkA (i := 10) (oi := ⟨some 53, _, _, _, _, _⟩) (v := (.bool false)) rfl (Or.inl ⟨by rfl, fun w' hSw => by go_simp⟩) ?_
   try simp only [Act.put, pA, pB, pC]
   refine tkA (i := 11) (oi := ⟨some 54, _, _, _, _, _⟩) (v := (.bool false)) rfl (Or.inl ⟨by rfl, fun w' hSw => by go_simp⟩) ?_
   try simp only [Act.put, pA, pB, pC]
   refine tkA (i := 12) (oi := ⟨some 55, _, _, _, _, _⟩) (v := ?_) rfl (Or.inl ⟨by rfl, ?_⟩) ?_
   rotate_left
   · (intro w' hSw; (try dsimp only at hSw); go_simp <;> (with_reducible rfl))
   try simp only [Act.put, pA, pB, pC]
   refine tkA (i := 13) (oi := ⟨some 56, _, _, _, _, _⟩) (v := ?_) rfl (Or.inl ⟨by rfl, ?_⟩) ?_
   rotate_left
   · (intro w' hSw; (try dsimp only at hSw); go_simp <;> (with_reducible rfl))
   try simp only [Act.put, pA, pB, pC]
   refine tkA (i := 14) (oi := ⟨some 57, _, _, _, _, _⟩) (v := ?_) rfl (Or.inl ⟨by rfl, ?_⟩) ?_
   rotate_left
   · (intro w' hSw; (try dsimp only at hSw); go_simp <;> (with_reducible rfl))
   try simp only [Act.put, pA, pB, pC]
   refine wpAnyH_ready (rs := [15]) (by kernel_rfl) (by simp) ?_
   refine AllReadyH.cons (o := ⟨some 58, _, _, _, _, _⟩) rfl (fun K' hK => ?_) AllReadyH.nil
   go_simp
   go_at_call 8
   refine (HVE.out _).mono ?_
   rintro e_ v_ ⟨rfl, rfl⟩
   go_wp2_with fail
   refine hK.out _ _ ⟨HC.out.at_ 0, HC.out.at_ 1, HC.out.at_ 2, HC.out.at_ 3, HC.out.at_ 4, HX.out.at_ 5, HX.out.at_ 6, HX.out.at_ 7, HX.out.at_ 8, HX.out.at_ 9⟩ (fun hHeld => ?_)
   clear hK K'
   try simp only [Act.put, pA, pB, pC]
   refine tkA (i := 16) (oi := ⟨some 59, _, _, _, _, _⟩) (v := (.bool false)) rfl (Or.inl ⟨by rfl, fun w' hSw => by go_simp⟩) ?_
   try simp only [Act.put, pA, pB, pC]
   refine tkA (i := 17) (oi := ⟨some 60, _, _, _, _, _⟩) (v := (.bool false)) rfl (Or.inl ⟨by rfl, fun w' hSw => by go_simp⟩) ?_
   try simp only [Act.put, pA, pB, pC]
   refine tkA (i := 18) (oi := ⟨some 61, _, _, _, _, _⟩) (v := ?_) rfl (Or.inl ⟨by rfl, ?_⟩) ?_
   rotate_left
   · (intro w' hSw; (try dsimp only at hSw); go_simp <;> (with_reducible rfl))
   try simp only [Act.put, pA, pB, pC]
   refine tkA (i := 19) (oi := ⟨some 62, _, _, _, _, _⟩) (v := ?_) rfl (Or.inl ⟨by rfl, ?_⟩) ?_
   rotate_left
   · (intro w' hSw; (try dsimp only at hSw); go_simp <;> (with_reducible rfl))
   try simp only [Act.put, pA, pB, pC]
   refine tkA (i := 20) (oi := ⟨some 63, _, _, _, _, _⟩) (v := ?_) rfl (Or.inl ⟨by rfl, ?_⟩) ?_
   rotate_left
   · (intro w' hSw; (try dsimp only at hSw); go_simp <;> (with_reducible rfl))
   try simp only [Act.put, pA, pB, pC]
   refine tkA (i := 21) (oi := ⟨some 64, _, _, _, _, _⟩) (v := ?_) rfl (Or.inl ⟨by rfl, ?_⟩) ?_
   rotate_left
   · (intro w' hSw; (try dsimp only at hSw); go_simp <;> (with_reducible rfl))
   try simp only [Act.put, pA, pB, pC]
   refine tkA (i := 22) (oi := ⟨some 65, _, _, _, _, _⟩) (v := ?_) rfl (Or.inl ⟨by rfl, ?_⟩) ?_
   rotate_left
   · (intro w' hSw; (try dsimp only at hSw); go_simp <;> (with_reducible rfl))
   try simp only [Act.put, pA, pB, pC]
   refine tkA (i := 23) (oi := ⟨some 66, _, _, _, _, _⟩) (v := (.bool false)) rfl (Or.inl ⟨by rfl, fun w' hSw => by go_simp⟩) ?_
   try simp only [Act.put, pA, pB, pC]
   refine tkA (i := 24) (oi := ⟨some 67, _, _, _, _, _⟩) (v := (.bool false)) rfl (Or.inl ⟨by rfl, fun w' hSw => by go_simp⟩) ?_
   try simp only [Act.put, pA, pB, pC]
   refine tkA (i := 25) (oi := ⟨some 68, _, _, _, _, _⟩) (v := ?_) rfl (Or.inl ⟨by rfl, ?_⟩) ?_
   rotate_left
   · (intro w' hSw; (try dsimp only at hSw); go_simp <;> (with_reducible rfl))
   try simp only [Act.put, pA, pB, pC]
   refine tkA (i := 26) (oi := ⟨some 69, _, _, _, _, _⟩) (v := ?_) rfl (Or.inl ⟨by rfl, ?_⟩) ?_
   rotate_left
   · (intro w' hSw; (try dsimp only at hSw); go_simp <;> (with_reducible rfl))
   try simp only [Act.put, pA, pB, pC]
   refine tkA (i := 27) (oi := ⟨some 70, _, _, _, _, _⟩) (v := ?_) rfl (Or.inl ⟨by rfl, ?_⟩) ?_
   rotate_left
   · (intro w' hSw; (try dsimp only at hSw); go_simp <;> (with_reducible rfl))
   try simp only [Act.put, pA, pB, pC]
   refine tkA (i := 28) (oi := ⟨some 71, _, _, _, _, _⟩) (v := ?_) rfl (Or.inl ⟨by rfl, ?_⟩) ?_
   rotate_left
   · (intro w' hSw; (try dsimp only at hSw); go_simp <;> (with_reducible rfl))
   try simp only [Act.put, pA, pB, pC]
   refine tkA (i := 29) (oi := ⟨some 72, _, _, _, _, _⟩) (v := ?_) rfl (Or.inl ⟨by rfl, ?_⟩) ?_
   rotate_left
   · (intro w' hSw; (try dsimp only at hSw); go_simp <;> (with_reducible rfl))
   try simp only [Act.put, pA, pB, pC]
   refine tkA (i := 30) (oi := ⟨some 73, _, _, _, _, _⟩) (v := (.bool false)) rfl (Or.inl ⟨by rfl, fun w' hSw => by go_simp⟩) ?_
   try simp only [Act.put, pA, pB, pC]
   refine tkA (i := 31) (oi := ⟨some 74, _, _, _, _, _⟩) (v := (.bool false)) rfl (Or.inl ⟨by rfl, fun w' hSw => by go_simp⟩) ?_
   try simp only [Act.put, pA, pB, pC]
   refine tkA (i := 32) (oi := ⟨some 75, _, _, _, _, _⟩) (v := ?_) rfl (Or.inl ⟨by rfl, ?_⟩) ?_
   rotate_left
   · (intro w' hSw; (try dsimp only at hSw); go_simp <;> (with_reducible rfl))
   try simp only [Act.put, pA, pB, pC]
   refine tkA (i := 33) (oi := ⟨some 76, _, _, _, _, _⟩) (v := ?_) rfl (Or.inl ⟨by rfl, ?_⟩) ?_
   rotate_left
   · (intro w' hSw; (try dsimp only at hSw); go_simp <;> (with_reducible rfl))
   try simp only [Act.put, pA, pB, pC]
   refine tkA (i := 34) (oi := ⟨some 77, _, _, _, _, _⟩) (v := ?_) rfl (Or.inl ⟨by rfl, ?_⟩) ?_
   rotate_left
   · (intro w' hSw; (try dsimp only at hSw); go_simp <;> (with_reducible rfl))
   try simp only [Act.put, pA, pB, pC]
   refine wpAnyH_ready (rs := [35]) (by kernel_rfl) (by simp) ?_
   refine AllReadyH.cons (o := ⟨some 78, _, _, _, _, _⟩) rfl (fun K' hK => ?_) AllReadyH.nil
   go_simp
   go_at_call 9
   refine (HRG.out _ HTT.out HSS.out).mono ?_
   rintro e_ w_1014 ⟨rfl, hb_1014⟩
   replace HFF := hide (HFF.out.below hb_1014)
   replace HTT := hide (HTT.out.below hb_1014)
   replace HSS := hide (HSS.out.below hb_1014)
   replace HMM := hide (HMM.out.below hb_1014)
   replace HEE := hide (HEE.out.below hb_1014)
   replace HQB := hide (HQB.out.below hb_1014)
   replace HX := hide (HX.out.below hb_1014)
   replace HC := hide (HC.out.below hb_1014)
   replace HB := hide (HB.out.trans (hb_1014.mono HB.out.size))
   clear hb_1014
   go_wp2_with fail
   refine hK.out _ _ ⟨HC.out.at_ 0, HC.out.at_ 1, HC.out.at_ 2, HC.out.at_ 3, HC.out.at_ 4, HX.out.at_ 5, HX.out.at_ 6, HX.out.at_ 7, HX.out.at_ 8, HX.out.at_ 9⟩ (fun hHeld => ?_)
   clear hK K'
   try simp only [Act.put, pA, pB, pC]
   refine tkA (i := 36) (oi := ⟨some 79, _, _, _, _, _⟩) (v := (.bool false)) rfl (Or.inl ⟨by rfl, fun w' hSw => by go_simp⟩) ?_
   try simp only [Act.put, pA, pB, pC]
   refine tkA (i := 37) (oi := ⟨some 80, _, _, _, _, _⟩) (v := (.bool false)) rfl (Or.inl ⟨by rfl, fun w' hSw => by go_simp⟩) ?_
   try simp only [Act.put, pA, pB, pC]
   refine tkA (i := 38) (oi := ⟨some 81, _, _, _, _, _⟩) (v := ?_) rfl (Or.inl ⟨by rfl, ?_⟩) ?_
   rotate_left
   · (intro w' hSw; (try dsimp only at hSw); go_simp <;> (with_reducible rfl))
   try simp only [Act.put, pA, pB, pC]
   refine tkA (i := 39) (oi := ⟨some 82, _, _, _, _, _⟩) (v := ?_) rfl (Or.inl ⟨by rfl, ?_⟩) ?_
   rotate_left
   · (intro w' hSw; (try dsimp only at hSw); go_simp <;> (with_reducible rfl))
   try simp only [Act.put, pA, pB, pC]
   refine tkA (i := 40) (oi := ⟨some 83, _, _, _, _, _⟩) (v := ?_) rfl (Or.inl ⟨by rfl, ?_⟩) ?_
   rotate_left
   · (intro w' hSw; (try dsimp only at hSw); go_simp <;> (with_reducible rfl))
   try simp only [Act.put, pA, pB, pC]
   refine wpAnyH_ready (rs := [41]) (by kernel_rfl) (by simp) ?_
   refine AllReadyH.cons (o := ⟨some 84, _, _, _, _, _⟩) rfl (fun K' hK => ?_) AllReadyH.nil
   go_simp
   go_at_call 10
   refine (HOE.out _).mono ?_
   rintro e_ v_ ⟨rfl, rfl⟩
   go_wp2_with fail
   refine hK.out _ _ ⟨HC.out.at_ 0, HC.out.at_ 1, HC.out.at_ 2, HC.out.at_ 3, HC.out.at_ 4, HX.out.at_ 5, HX.out.at_ 6, HX.out.at_ 7, HX.out.at_ 8, HX.out.at_ 9⟩ (fun hHeld => ?_)
   clear hK K'
   try simp only [Act.put, pA, pB, pC]
   refine tkA (i := 42) (oi := ⟨some 85, _, _, _, _, _⟩) (v := (.bool true)) rfl (Or.inl ⟨by rfl, fun w' hSw => by go_simp⟩) ?_
   try simp only [Act.put, pA, pB, pC]
   refine tkA (i := 43) (oi := ⟨some 86, _, _, _, _, _⟩) (v := (.bool true)) rfl (Or.inl ⟨by rfl, fun w' hSw => by go_simp⟩) ?_
   try simp only [Act.put, pA, pB, pC]
   refine wpAnyH_done (by kernel_rfl) ?_ _
   obtain ⟨hn, hm, hen, hk1, hk8, hn66, hsum, hq6, hN1, htn1, hpp9, htn, hsm, hv3⟩ := HNUM.out
   clear HNUM
   clear hHeld
   go_wp2_with fail
   go_ret
   exact ⟨rfl, HB.out⟩
 simp only [hoe] at HOE
 obtain ⟨h, hh1, hh3, rfl⟩ := ordE_two hoe
 clear hoe
 have HNUM := hide (⟨hn, hm, hen, hk1, hk8, hn66, hsum, hq6, hN1, htn1, hpp9, htn, hsm, hv3, hh1, hh3⟩ : _ ∧ _ ∧ _ ∧ _ ∧ _ ∧ _ ∧ _ ∧ _ ∧ _ ∧ _ ∧ _ ∧ _ ∧ _ ∧ _ ∧ _ ∧ _)
 clear hn hm hen hk1 hk8 hn66 hsum hq6 hN1 htn1 hpp9 htn hsm hv3 hh1 hh3
 refine wp_region_held_drew (S := fun w' => w'.cell? ⟨b4, 0, none⟩ = some (.int .i64 (x : Int)) ∧ w'.cell? ⟨b4, 1, none⟩ = some (.int .i64 (y : Int)) ∧ w'.cell? ⟨b4, 2, none⟩ = some (.int .i64 (q : Int)) ∧ w'.cell? ⟨b4, 3, none⟩ = some (.slice A n c) ∧ w'.cell? ⟨b4, 4, none⟩ = some (.int .i64 (kk : Int)) ∧ w'.cell? ⟨b1, 5, none⟩ = some (.int .i64 (vv : Int)) ∧ w'.cell? ⟨b1, 6, none⟩ = some (.int .i64 ((pp : Int) + 1)) ∧ w'.cell? ⟨b1, 7, none⟩ = some (.slice TA tn tc) ∧ w'.cell? ⟨b1, 8, none⟩ = some (.slice SA (pp + 1) sd) ∧ w'.cell? ⟨b1, 9, none⟩ = some (.int .i64 (2 * (h : Int)))) (by kernel_rfl) ⟨HC.out.at_ 0, HC.out.at_ 1, HC.out.at_ 2, HC.out.at_ 3, HC.out.at_ 4, HX.out.at_ 5, HX.out.at_ 6, HX.out.at_ 7, HX.out.at_ 8, HX.out.at_ 9⟩ (fun hHeld => ?_)
 obtain ⟨w_1021, hw_1021⟩ : ∃ q : World, q = v4.drew := ⟨_, rfl⟩
 rw [← hw_1021] at hHeld ⊢
 have hc_1021 : Below v4.heap.size v4 w_1021 := by rw [hw_1021]; exact (Below.refl _ _).drew
 clear hw_1021
 replace HFF := hide (HFF.out.below hc_1021)
 replace HTT := hide (HTT.out.below hc_1021)
 replace HSS := hide (HSS.out.below hc_1021)
 replace HMM := hide (HMM.out.below hc_1021)
 replace HEE := hide (HEE.out.below hc_1021)
 replace HQB := hide (HQB.out.below hc_1021)
 replace HX := hide (HX.out.below hc_1021)
 replace HC := hide (HC.out.below hc_1021)
 replace HB := hide (HB.out.trans (hc_1021.mono HB.out.size))
 clear hc_1021
 refine tkA (i := 0) (oi := ⟨some 43, _, _, _, _, _⟩) (v := ?_) rfl (Or.inl ⟨by rfl, ?_⟩) ?_
 rotate_left
 · (intro w' hSw; (try dsimp only at hSw); go_simp <;> (with_reducible rfl))
 try simp only [Act.put, pA, pB, pC]
 refine tkA (i := 1) (oi := ⟨some 44, _, _, _, _, _⟩) (v := ?_) rfl (Or.inl ⟨by rfl, ?_⟩) ?_
 rotate_left
 · (intro w' hSw; (try dsimp only at hSw); go_simp <;> (with_reducible rfl))
 try simp only [Act.put, pA, pB, pC]
 refine wpAnyH_ready (rs := [2]) (by kernel_rfl) (by simp) ?_
 refine AllReadyH.cons (o := ⟨some 45, _, _, _, _, _⟩) rfl (fun K' hK => ?_) AllReadyH.nil
 go_simp
 go_at_call 6
 refine (HCR.out _ HFF.out HQB.out).mono ?_
 rintro e_ w_1022 ⟨rfl, hb_1022⟩
 replace HFF := hide (HFF.out.below hb_1022)
 replace HTT := hide (HTT.out.below hb_1022)
 replace HSS := hide (HSS.out.below hb_1022)
 replace HMM := hide (HMM.out.below hb_1022)
 replace HEE := hide (HEE.out.below hb_1022)
 replace HQB := hide (HQB.out.below hb_1022)
 replace HX := hide (HX.out.below hb_1022)
 replace HC := hide (HC.out.below hb_1022)
 replace HB := hide (HB.out.trans (hb_1022.mono HB.out.size))
 clear hb_1022
 go_wp2_with fail
 refine hK.out _ _ ⟨HC.out.at_ 0, HC.out.at_ 1, HC.out.at_ 2, HC.out.at_ 3, HC.out.at_ 4, HX.out.at_ 5, HX.out.at_ 6, HX.out.at_ 7, HX.out.at_ 8, HX.out.at_ 9⟩ (fun hHeld => ?_)
 clear hK K'
 try simp only [Act.put, pA, pB, pC]
 refine tkA (i := 3) (oi := ⟨some 46, _, _, _, _, _⟩) (v := (.bool false)) rfl (Or.inl ⟨by rfl, fun w' hSw => by go_simp⟩) ?_
 try simp only [Act.put, pA, pB, pC]
 refine tkA (i := 4) (oi := ⟨some 47, _, _, _, _, _⟩) (v := ?_) rfl (Or.inl ⟨by rfl, ?_⟩) ?_
 rotate_left
 · (intro w' hSw; (try dsimp only at hSw); go_simp <;> (with_reducible rfl))
 try simp only [Act.put, pA, pB, pC]
 refine tkA (i := 5) (oi := ⟨some 48, _, _, _, _, _⟩) (v := ?_) rfl (Or.inl ⟨by rfl, ?_⟩) ?_
 rotate_left
 · (intro w' hSw; (try dsimp only at hSw); go_simp <;> (with_reducible rfl))
 try simp only [Act.put, pA, pB, pC]
 refine tkA (i := 6) (oi := ⟨some 49, _, _, _, _, _⟩) (v := ?_) rfl (Or.inl ⟨by rfl, ?_⟩) ?_
 rotate_left
 · (intro w' hSw; (try dsimp only at hSw); go_simp <;> (with_reducible rfl))
 try simp only [Act.put, pA, pB, pC]
 refine tkA (i := 7) (oi := ⟨some 50, _, _, _, _, _⟩) (v := ?_) rfl (Or.inl ⟨by rfl, ?_⟩) ?_
 rotate_left
 · (intro w' hSw; (try dsimp only at hSw); go_simp <;> (with_reducible rfl))
 try simp only [Act.put, pA, pB, pC]
 refine tkA (i := 8) (oi := ⟨some 51, _, _, _, _, _⟩) (v := ?_) rfl (Or.inl ⟨by rfl, ?_⟩) ?_
 rotate_left
 · (intro w' hSw; (try dsimp only at hSw); go_simp <;> (with_reducible rfl))
 try simp only [Act.put, pA, pB, pC]
 refine wpAnyH_ready (rs := [9]) (by kernel_rfl) (by simp) ?_
 refine AllReadyH.cons (o := ⟨some 52, _, _, _, _, _⟩) rfl (fun K' hK => ?_) AllReadyH.nil
 go_simp
 go_at_call 7
 refine (HLN.out _).mono ?_
 rintro e_ w_1023 ⟨rfl, hb_1023⟩
 replace HFF := hide (HFF.out.below hb_1023)
 replace HTT := hide (HTT.out.below hb_1023)
 replace HSS := hide (HSS.out.below hb_1023)
 replace HMM := hide (HMM.out.below hb_1023)
 replace HEE := hide (HEE.out.below hb_1023)
 replace HQB := hide (HQB.out.below hb_1023)
 replace HX := hide (HX.out.below hb_1023)
 replace HC := hide (HC.out.below hb_1023)
 replace HB := hide (HB.out.trans (hb_1023.mono HB.out.size))
 clear hb_1023
 go_wp2_with fail
 refine hK.out _ _ ⟨HC.out.at_ 0, HC.out.at_ 1, HC.out.at_ 2, HC.out.at_ 3, HC.out.at_ 4, HX.out.at_ 5, HX.out.at_ 6, HX.out.at_ 7, HX.out.at_ 8, HX.out.at_ 9⟩ (fun hHeld => ?_)
 clear hK K'
 try simp only [Act.put, pA, pB, pC]
 refine tkA (i := 10) (oi := ⟨some 53, _, _, _, _, _⟩) (v := (.bool false)) rfl (Or.inl ⟨by rfl, fun w' hSw => by go_simp⟩) ?_
 try simp only [Act.put, pA, pB, pC]
 refine tkA (i := 11) (oi := ⟨some 54, _, _, _, _, _⟩) (v := (.bool false)) rfl (Or.inl ⟨by rfl, fun w' hSw => by go_simp⟩) ?_
 try simp only [Act.put, pA, pB, pC]
 refine tkA (i := 12) (oi := ⟨some 55, _, _, _, _, _⟩) (v := ?_) rfl (Or.inl ⟨by rfl, ?_⟩) ?_
 rotate_left
 · (intro w' hSw; (try dsimp only at hSw); go_simp <;> (with_reducible rfl))
 try simp only [Act.put, pA, pB, pC]
 refine tkA (i := 13) (oi := ⟨some 56, _, _, _, _, _⟩) (v := ?_) rfl (Or.inl ⟨by rfl, ?_⟩) ?_
 rotate_left
 · (intro w' hSw; (try dsimp only at hSw); go_simp <;> (with_reducible rfl))
 try simp only [Act.put, pA, pB, pC]
 refine tkA (i := 14) (oi := ⟨some 57, _, _, _, _, _⟩) (v := ?_) rfl (Or.inl ⟨by rfl, ?_⟩) ?_
 rotate_left
 · (intro w' hSw; (try dsimp only at hSw); go_simp <;> (with_reducible rfl))
 try simp only [Act.put, pA, pB, pC]
 refine wpAnyH_ready (rs := [15]) (by kernel_rfl) (by simp) ?_
 refine AllReadyH.cons (o := ⟨some 58, _, _, _, _, _⟩) rfl (fun K' hK => ?_) AllReadyH.nil
 go_simp
 go_at_call 8
 refine (HVE.out _).mono ?_
 rintro e_ v_ ⟨rfl, rfl⟩
 go_wp2_with fail
 refine hK.out _ _ ⟨HC.out.at_ 0, HC.out.at_ 1, HC.out.at_ 2, HC.out.at_ 3, HC.out.at_ 4, HX.out.at_ 5, HX.out.at_ 6, HX.out.at_ 7, HX.out.at_ 8, HX.out.at_ 9⟩ (fun hHeld => ?_)
 clear hK K'
 try simp only [Act.put, pA, pB, pC]
 refine tkA (i := 16) (oi := ⟨some 59, _, _, _, _, _⟩) (v := (.bool false)) rfl (Or.inl ⟨by rfl, fun w' hSw => by go_simp⟩) ?_
 try simp only [Act.put, pA, pB, pC]
 refine tkA (i := 17) (oi := ⟨some 60, _, _, _, _, _⟩) (v := (.bool false)) rfl (Or.inl ⟨by rfl, fun w' hSw => by go_simp⟩) ?_
 try simp only [Act.put, pA, pB, pC]
 refine tkA (i := 18) (oi := ⟨some 61, _, _, _, _, _⟩) (v := ?_) rfl (Or.inl ⟨by rfl, ?_⟩) ?_
 rotate_left
 · (intro w' hSw; (try dsimp only at hSw); go_simp <;> (with_reducible rfl))
 try simp only [Act.put, pA, pB, pC]
 refine tkA (i := 19) (oi := ⟨some 62, _, _, _, _, _⟩) (v := ?_) rfl (Or.inl ⟨by rfl, ?_⟩) ?_
 rotate_left
 · (intro w' hSw; (try dsimp only at hSw); go_simp <;> (with_reducible rfl))
 try simp only [Act.put, pA, pB, pC]
 refine tkA (i := 20) (oi := ⟨some 63, _, _, _, _, _⟩) (v := ?_) rfl (Or.inl ⟨by rfl, ?_⟩) ?_
 rotate_left
 · (intro w' hSw; (try dsimp only at hSw); go_simp <;> (with_reducible rfl))
 try simp only [Act.put, pA, pB, pC]
 refine tkA (i := 21) (oi := ⟨some 64, _, _, _, _, _⟩) (v := ?_) rfl (Or.inl ⟨by rfl, ?_⟩) ?_
 rotate_left
 · (intro w' hSw; (try dsimp only at hSw); go_simp <;> (with_reducible rfl))
 try simp only [Act.put, pA, pB, pC]
 refine tkA (i := 22) (oi := ⟨some 65, _, _, _, _, _⟩) (v := ?_) rfl (Or.inl ⟨by rfl, ?_⟩) ?_
 rotate_left
 · (intro w' hSw; (try dsimp only at hSw); go_simp <;> (with_reducible rfl))
 try simp only [Act.put, pA, pB, pC]
 refine tkA (i := 23) (oi := ⟨some 66, _, _, _, _, _⟩) (v := (.bool false)) rfl (Or.inl ⟨by rfl, fun w' hSw => by go_simp⟩) ?_
 try simp only [Act.put, pA, pB, pC]
 refine tkA (i := 24) (oi := ⟨some 67, _, _, _, _, _⟩) (v := (.bool false)) rfl (Or.inl ⟨by rfl, fun w' hSw => by go_simp⟩) ?_
 try simp only [Act.put, pA, pB, pC]
 refine tkA (i := 25) (oi := ⟨some 68, _, _, _, _, _⟩) (v := ?_) rfl (Or.inl ⟨by rfl, ?_⟩) ?_
 rotate_left
 · (intro w' hSw; (try dsimp only at hSw); go_simp <;> (with_reducible rfl))
 try simp only [Act.put, pA, pB, pC]
 refine tkA (i := 26) (oi := ⟨some 69, _, _, _, _, _⟩) (v := ?_) rfl (Or.inl ⟨by rfl, ?_⟩) ?_
 rotate_left
 · (intro w' hSw; (try dsimp only at hSw); go_simp <;> (with_reducible rfl))
 try simp only [Act.put, pA, pB, pC]
 refine tkA (i := 27) (oi := ⟨some 70, _, _, _, _, _⟩) (v := ?_) rfl (Or.inl ⟨by rfl, ?_⟩) ?_
 rotate_left
 · (intro w' hSw; (try dsimp only at hSw); go_simp <;> (with_reducible rfl))
 try simp only [Act.put, pA, pB, pC]
 refine tkA (i := 28) (oi := ⟨some 71, _, _, _, _, _⟩) (v := ?_) rfl (Or.inl ⟨by rfl, ?_⟩) ?_
 rotate_left
 · (intro w' hSw; (try dsimp only at hSw); go_simp <;> (with_reducible rfl))
 try simp only [Act.put, pA, pB, pC]
 refine tkA (i := 29) (oi := ⟨some 72, _, _, _, _, _⟩) (v := ?_) rfl (Or.inl ⟨by rfl, ?_⟩) ?_
 rotate_left
 · (intro w' hSw; (try dsimp only at hSw); go_simp <;> (with_reducible rfl))
 try simp only [Act.put, pA, pB, pC]
 refine tkA (i := 30) (oi := ⟨some 73, _, _, _, _, _⟩) (v := (.bool false)) rfl (Or.inl ⟨by rfl, fun w' hSw => by go_simp⟩) ?_
 try simp only [Act.put, pA, pB, pC]
 refine tkA (i := 31) (oi := ⟨some 74, _, _, _, _, _⟩) (v := (.bool false)) rfl (Or.inl ⟨by rfl, fun w' hSw => by go_simp⟩) ?_
 try simp only [Act.put, pA, pB, pC]
 refine tkA (i := 32) (oi := ⟨some 75, _, _, _, _, _⟩) (v := ?_) rfl (Or.inl ⟨by rfl, ?_⟩) ?_
 rotate_left
 · (intro w' hSw; (try dsimp only at hSw); go_simp <;> (with_reducible rfl))
 try simp only [Act.put, pA, pB, pC]
 refine tkA (i := 33) (oi := ⟨some 76, _, _, _, _, _⟩) (v := ?_) rfl (Or.inl ⟨by rfl, ?_⟩) ?_
 rotate_left
 · (intro w' hSw; (try dsimp only at hSw); go_simp <;> (with_reducible rfl))
 try simp only [Act.put, pA, pB, pC]
 refine tkA (i := 34) (oi := ⟨some 77, _, _, _, _, _⟩) (v := ?_) rfl (Or.inl ⟨by rfl, ?_⟩) ?_
 rotate_left
 · (intro w' hSw; (try dsimp only at hSw); go_simp <;> (with_reducible rfl))
 try simp only [Act.put, pA, pB, pC]
 refine wpAnyH_ready (rs := [35]) (by kernel_rfl) (by simp) ?_
 refine AllReadyH.cons (o := ⟨some 78, _, _, _, _, _⟩) rfl (fun K' hK => ?_) AllReadyH.nil
 go_simp
 go_at_call 9
 refine (HRG.out _ HTT.out HSS.out).mono ?_
 rintro e_ w_1024 ⟨rfl, hb_1024⟩
 replace HFF := hide (HFF.out.below hb_1024)
 replace HTT := hide (HTT.out.below hb_1024)
 replace HSS := hide (HSS.out.below hb_1024)
 replace HMM := hide (HMM.out.below hb_1024)
 replace HEE := hide (HEE.out.below hb_1024)
 replace HQB := hide (HQB.out.below hb_1024)
 replace HX := hide (HX.out.below hb_1024)
 replace HC := hide (HC.out.below hb_1024)
 replace HB := hide (HB.out.trans (hb_1024.mono HB.out.size))
 clear hb_1024
 go_wp2_with fail
 refine hK.out _ _ ⟨HC.out.at_ 0, HC.out.at_ 1, HC.out.at_ 2, HC.out.at_ 3, HC.out.at_ 4, HX.out.at_ 5, HX.out.at_ 6, HX.out.at_ 7, HX.out.at_ 8, HX.out.at_ 9⟩ (fun hHeld => ?_)
 clear hK K'
 try simp only [Act.put, pA, pB, pC]
 refine tkA (i := 36) (oi := ⟨some 79, _, _, _, _, _⟩) (v := (.bool false)) rfl (Or.inl ⟨by rfl, fun w' hSw => by go_simp⟩) ?_
 try simp only [Act.put, pA, pB, pC]
 refine tkA (i := 37) (oi := ⟨some 80, _, _, _, _, _⟩) (v := (.bool false)) rfl (Or.inl ⟨by rfl, fun w' hSw => by go_simp⟩) ?_
 try simp only [Act.put, pA, pB, pC]
 refine tkA (i := 38) (oi := ⟨some 81, _, _, _, _, _⟩) (v := ?_) rfl (Or.inl ⟨by rfl, ?_⟩) ?_
 rotate_left
 · (intro w' hSw; (try dsimp only at hSw); go_simp <;> (with_reducible rfl))
 try simp only [Act.put, pA, pB, pC]
 refine tkA (i := 39) (oi := ⟨some 82, _, _, _, _, _⟩) (v := ?_) rfl (Or.inl ⟨by rfl, ?_⟩) ?_
 rotate_left
 · (intro w' hSw; (try dsimp only at hSw); go_simp <;> (with_reducible rfl))
 try simp only [Act.put, pA, pB, pC]
 refine tkA (i := 40) (oi := ⟨some 83, _, _, _, _, _⟩) (v := ?_) rfl (Or.inl ⟨by rfl, ?_⟩) ?_
 rotate_left
 · (intro w' hSw; (try dsimp only at hSw); go_simp <;> (with_reducible rfl))
 try simp only [Act.put, pA, pB, pC]
 refine wpAnyH_ready (rs := [41]) (by kernel_rfl) (by simp) ?_
 refine AllReadyH.cons (o := ⟨some 84, _, _, _, _, _⟩) rfl (fun K' hK => ?_) AllReadyH.nil
 go_simp
 go_at_call 10
 refine (HOE.out _).mono ?_
 rintro e_ v_ ⟨rfl, rfl⟩
 go_wp2_with fail
 refine hK.out _ _ ⟨HC.out.at_ 0, HC.out.at_ 1, HC.out.at_ 2, HC.out.at_ 3, HC.out.at_ 4, HX.out.at_ 5, HX.out.at_ 6, HX.out.at_ 7, HX.out.at_ 8, HX.out.at_ 9⟩ (fun hHeld => ?_)
 clear hK K'
 try simp only [Act.put, pA, pB, pC]
 refine tkA (i := 42) (oi := ⟨some 85, _, _, _, _, _⟩) (v := (.bool false)) rfl (Or.inl ⟨by rfl, fun w' hSw => by go_simp⟩) ?_
 try simp only [Act.put, pA, pB, pC]
 refine tkA (i := 43) (oi := ⟨some 86, _, _, _, _, _⟩) (v := (.bool false)) rfl (Or.inl ⟨by rfl, fun w' hSw => by go_simp⟩) ?_
 try simp only [Act.put, pA, pB, pC]
 refine wpAnyH_done (by kernel_rfl) ?_ _
 obtain ⟨hn, hm, hen, hk1, hk8, hn66, hsum, hq6, hN1, htn1, hpp9, htn, hsm, hv3, hh1, hh3⟩ := HNUM.out
 clear HNUM
 clear hHeld HCR HLN HVE HRG HOE tk te3 ttn tsm
 as_aux_lemma =>
  go_upto_region 6 with fail
  by_cases hmn : mn ≤ 2
  case neg =>
   have tmn : (2 : Int) < (mn : Int) := by omega
   as_aux_lemma =>
    have HNUM := hide (⟨hn, hm, hen, hk1, hk8, hn66, hsum, hq6, hN1, htn1, hpp9, htn, hsm, hv3, hh1, hh3⟩ : _ ∧ _ ∧ _ ∧ _ ∧ _ ∧ _ ∧ _ ∧ _ ∧ _ ∧ _ ∧ _ ∧ _ ∧ _ ∧ _ ∧ _ ∧ _)
    clear hn hm hen hk1 hk8 hn66 hsum hq6 hN1 htn1 hpp9 htn hsm hv3 hh1 hh3
    refine wp_region_held_drew (S := fun w' => w'.cell? ⟨b1, 9, none⟩ = some (.int .i64 (2 * (h : Int))) ∧ w'.cell? ⟨b1, 10, none⟩ = some (.slice MA mn mc) ∧ w'.cell? ⟨b4, 4, none⟩ = some (.int .i64 (kk : Int))) (by kernel_rfl) ⟨HX.out.at_ 9, HX.out.at_ 10, HC.out.at_ 4⟩ (fun hHeld => ?_)
    obtain ⟨w_1031, hw_1031⟩ : ∃ q : World, q = w_1024.drew := ⟨_, rfl⟩
    rw [← hw_1031] at hHeld ⊢
    have hc_1031 : Below w_1024.heap.size w_1024 w_1031 := by rw [hw_1031]; exact (Below.refl _ _).drew
    clear hw_1031
    replace HFF := hide (HFF.out.below hc_1031)
    replace HTT := hide (HTT.out.below hc_1031)
    replace HSS := hide (HSS.out.below hc_1031)
    replace HMM := hide (HMM.out.below hc_1031)
    replace HEE := hide (HEE.out.below hc_1031)
    replace HQB := hide (HQB.out.below hc_1031)
    replace HX := hide (HX.out.below hc_1031)
    replace HC := hide (HC.out.below hc_1031)
    replace HB := hide (HB.out.trans (hc_1031.mono HB.out.size))
    clear hc_1031
    refine tkA (i := 0) (oi := ⟨some 87, _, _, _, _, _⟩) (v := ?_) rfl (Or.inl ⟨by rfl, ?_⟩) ?_
    rotate_left
    · (intro w' hSw; (try dsimp only at hSw); go_simp <;> (with_reducible rfl))
    try simp only [Act.put, pA, pB, pC]
    refine tkA (i := 1) (oi := ⟨some 88, _, _, _, _, _⟩) (v := ?_) rfl (Or.inl ⟨by rfl, ?_⟩) ?_
    rotate_left
    · (intro w' hSw; (try dsimp only at hSw); go_simp <;> (with_reducible rfl))
    try simp only [Act.put, pA, pB, pC]
    refine tkA (i := 2) (oi := ⟨some 89, _, _, _, _, _⟩) (v := ?_) rfl (Or.inl ⟨by rfl, ?_⟩) ?_
    rotate_left
    · (intro w' hSw; (try dsimp only at hSw); go_simp <;> (with_reducible rfl))
    try simp only [Act.put, pA, pB, pC]
    refine tkA (i := 3) (oi := ⟨some 90, _, _, _, _, _⟩) (v := (.bool true)) rfl (Or.inl ⟨by rfl, fun w' hSw => by go_simp⟩) ?_
    try simp only [Act.put, pA, pB, pC]
    refine tkA (i := 4) (oi := ⟨some 91, _, _, _, _, _⟩) (v := ?_) rfl (Or.inl ⟨by rfl, ?_⟩) ?_
    rotate_left
    · (intro w' hSw; (try dsimp only at hSw); go_simp <;> (with_reducible rfl))
    try simp only [Act.put, pA, pB, pC]
    refine tkA (i := 5) (oi := ⟨some 92, _, _, _, _, _⟩) (v := undef) rfl (Or.inr ⟨by rfl, by rfl⟩) ?_
    try simp only [Act.put, pA, pB, pC]
    refine tkA (i := 6) (oi := ⟨some 93, _, _, _, _, _⟩) (v := undef) rfl (Or.inr ⟨by rfl, by rfl⟩) ?_
    try simp only [Act.put, pA, pB, pC]
    refine tkA (i := 7) (oi := ⟨some 94, _, _, _, _, _⟩) (v := undef) rfl (Or.inr ⟨by rfl, by rfl⟩) ?_
    try simp only [Act.put, pA, pB, pC]
    refine tkA (i := 8) (oi := ⟨some 95, _, _, _, _, _⟩) (v := undef) rfl (Or.inr ⟨by rfl, by rfl⟩) ?_
    try simp only [Act.put, pA, pB, pC]
    refine tkA (i := 9) (oi := ⟨some 96, _, _, _, _, _⟩) (v := (.bool true)) rfl (Or.inl ⟨by rfl, fun w' hSw => by go_simp⟩) ?_
    try simp only [Act.put, pA, pB, pC]
    refine tkA (i := 10) (oi := ⟨some 97, _, _, _, _, _⟩) (v := ?_) rfl (Or.inl ⟨by rfl, ?_⟩) ?_
    rotate_left
    · (intro w' hSw; (try dsimp only at hSw); go_simp <;> (with_reducible rfl))
    try simp only [Act.put, pA, pB, pC]
    refine tkA (i := 11) (oi := ⟨some 98, _, _, _, _, _⟩) (v := undef) rfl (Or.inr ⟨by rfl, by rfl⟩) ?_
    try simp only [Act.put, pA, pB, pC]
    refine tkA (i := 12) (oi := ⟨some 99, _, _, _, _, _⟩) (v := undef) rfl (Or.inr ⟨by rfl, by rfl⟩) ?_
    try simp only [Act.put, pA, pB, pC]
    refine tkA (i := 13) (oi := ⟨some 100, _, _, _, _, _⟩) (v := undef) rfl (Or.inr ⟨by rfl, by rfl⟩) ?_
    try simp only [Act.put, pA, pB, pC]
    refine tkA (i := 14) (oi := ⟨some 101, _, _, _, _, _⟩) (v := undef) rfl (Or.inr ⟨by rfl, by rfl⟩) ?_
    try simp only [Act.put, pA, pB, pC]
    refine tkA (i := 15) (oi := ⟨some 102, _, _, _, _, _⟩) (v := undef) rfl (Or.inr ⟨by rfl, by rfl⟩) ?_
    try simp only [Act.put, pA, pB, pC]
    refine tkA (i := 16) (oi := ⟨some 103, _, _, _, _, _⟩) (v := undef) rfl (Or.inr ⟨by rfl, by rfl⟩) ?_
    try simp only [Act.put, pA, pB, pC]
    refine tkA (i := 17) (oi := ⟨some 104, _, _, _, _, _⟩) (v := undef) rfl (Or.inr ⟨by rfl, by rfl⟩) ?_
    try simp only [Act.put, pA, pB, pC]
    refine tkA (i := 18) (oi := ⟨some 105, _, _, _, _, _⟩) (v := undef) rfl (Or.inr ⟨by rfl, by rfl⟩) ?_
    try simp only [Act.put, pA, pB, pC]
    refine tkA (i := 19) (oi := ⟨some 106, _, _, _, _, _⟩) (v := undef) rfl (Or.inr ⟨by rfl, by rfl⟩) ?_
    try simp only [Act.put, pA, pB, pC]
    refine tkA (i := 20) (oi := ⟨some 107, _, _, _, _, _⟩) (v := (.bool true)) rfl (Or.inl ⟨by rfl, fun w' hSw => by go_simp⟩) ?_
    try simp only [Act.put, pA, pB, pC]
    refine tkA (i := 21) (oi := ⟨some 108, _, _, _, _, _⟩) (v := ?_) rfl (Or.inl ⟨by rfl, ?_⟩) ?_
    rotate_left
    · (intro w' hSw; (try dsimp only at hSw); go_simp <;> (with_reducible rfl))
    try simp only [Act.put, pA, pB, pC]
    refine tkA (i := 22) (oi := ⟨some 109, _, _, _, _, _⟩) (v := undef) rfl (Or.inr ⟨by rfl, by rfl⟩) ?_
    try simp only [Act.put, pA, pB, pC]
    refine tkA (i := 23) (oi := ⟨some 110, _, _, _, _, _⟩) (v := undef) rfl (Or.inr ⟨by rfl, by rfl⟩) ?_
    try simp only [Act.put, pA, pB, pC]
    refine tkA (i := 24) (oi := ⟨some 111, _, _, _, _, _⟩) (v := undef) rfl (Or.inr ⟨by rfl, by rfl⟩) ?_
    try simp only [Act.put, pA, pB, pC]
    refine tkA (i := 25) (oi := ⟨some 112, _, _, _, _, _⟩) (v := undef) rfl (Or.inr ⟨by rfl, by rfl⟩) ?_
    try simp only [Act.put, pA, pB, pC]
    refine tkA (i := 26) (oi := ⟨some 113, _, _, _, _, _⟩) (v := undef) rfl (Or.inr ⟨by rfl, by rfl⟩) ?_
    try simp only [Act.put, pA, pB, pC]
    refine tkA (i := 27) (oi := ⟨some 114, _, _, _, _, _⟩) (v := undef) rfl (Or.inr ⟨by rfl, by rfl⟩) ?_
    try simp only [Act.put, pA, pB, pC]
    refine tkA (i := 28) (oi := ⟨some 115, _, _, _, _, _⟩) (v := undef) rfl (Or.inr ⟨by rfl, by rfl⟩) ?_
    try simp only [Act.put, pA, pB, pC]
    refine tkA (i := 29) (oi := ⟨some 116, _, _, _, _, _⟩) (v := undef) rfl (Or.inr ⟨by rfl, by rfl⟩) ?_
    try simp only [Act.put, pA, pB, pC]
    refine tkA (i := 30) (oi := ⟨some 117, _, _, _, _, _⟩) (v := undef) rfl (Or.inr ⟨by rfl, by rfl⟩) ?_
    try simp only [Act.put, pA, pB, pC]
    refine tkA (i := 31) (oi := ⟨some 118, _, _, _, _, _⟩) (v := undef) rfl (Or.inr ⟨by rfl, by rfl⟩) ?_
    try simp only [Act.put, pA, pB, pC]
    refine tkA (i := 32) (oi := ⟨some 119, _, _, _, _, _⟩) (v := (.bool true)) rfl (Or.inl ⟨by rfl, fun w' hSw => by go_simp⟩) ?_
    try simp only [Act.put, pA, pB, pC]
    refine wpAnyH_done (by kernel_rfl) ?_ _
    obtain ⟨hn, hm, hen, hk1, hk8, hn66, hsum, hq6, hN1, htn1, hpp9, htn, hsm, hv3, hh1, hh3⟩ := HNUM.out
    clear HNUM
    clear hHeld
    go_wp2_with fail
    go_ret
    exact ⟨rfl, HB.out⟩
  have tmn : ¬ (2 : Int) < (mn : Int) := by omega
  obtain ⟨r6, hr6⟩ : ∃ z, matE mn ML X = z := ⟨_, rfl⟩
  have HML := hide (fun i (hi : i < mn) => mats_len HMM.out i hi)
  have HCM := hide (fun W (hW : MatsAt W 0 MA mn ML X) => CheckMatrixR_wide MA mn mc ML X W (by omega) HML.out hW)
  simp only [hr6] at HCM
  by_cases hz6 : r6 = 0
  case neg =>
   have te6 : (r6 != 0) = true := by simpa using hz6
   clear hz6 hr6
   as_aux_lemma =>
    have HNUM := hide (⟨hn, hm, hen, hk1, hk8, hn66, hsum, hq6, hN1, htn1, hpp9, htn, hsm, hv3, hh1, hh3⟩ : _ ∧ _ ∧ _ ∧ _ ∧ _ ∧ _ ∧ _ ∧ _ ∧ _ ∧ _ ∧ _ ∧ _ ∧ _ ∧ _ ∧ _ ∧ _)
    clear hn hm hen hk1 hk8 hn66 hsum hq6 hN1 htn1 hpp9 htn hsm hv3 hh1 hh3
    refine wp_region_held_drew (S := fun w' => w'.cell? ⟨b1, 9, none⟩ = some (.int .i64 (2 * (h : Int))) ∧ w'.cell? ⟨b1, 10, none⟩ = some (.slice MA mn mc) ∧ w'.cell? ⟨b4, 4, none⟩ = some (.int .i64 (kk : Int))) (by kernel_rfl) ⟨HX.out.at_ 9, HX.out.at_ 10, HC.out.at_ 4⟩ (fun hHeld => ?_)
    obtain ⟨w_1041, hw_1041⟩ : ∃ q : World, q = w_1024.drew := ⟨_, rfl⟩
    rw [← hw_1041] at hHeld ⊢
    have hc_1041 : Below w_1024.heap.size w_1024 w_1041 := by rw [hw_1041]; exact (Below.refl _ _).drew
    clear hw_1041
    replace HFF := hide (HFF.out.below hc_1041)
    replace HTT := hide (HTT.out.below hc_1041)
    replace HSS := hide (HSS.out.below hc_1041)
    replace HMM := hide (HMM.out.below hc_1041)
    replace HEE := hide (HEE.out.below hc_1041)
    replace HQB := hide (HQB.out.below hc_1041)
    replace HX := hide (HX.out.below hc_1041)
    replace HC := hide (HC.out.below hc_1041)
    replace HB := hide (HB.out.trans (hc_1041.mono HB.out.size))
    clear hc_1041
    refine tkA (i := 0) (oi := ⟨some 87, _, _, _, _, _⟩) (v := ?_) rfl (Or.inl ⟨by rfl, ?_⟩) ?_
    rotate_left
    · (intro w' hSw; (try dsimp only at hSw); go_simp <;> (with_reducible rfl))
    try simp only [Act.put, pA, pB, pC]
    refine tkA (i := 1) (oi := ⟨some 88, _, _, _, _, _⟩) (v := ?_) rfl (Or.inl ⟨by rfl, ?_⟩) ?_
    rotate_left
    · (intro w' hSw; (try dsimp only at hSw); go_simp <;> (with_reducible rfl))
    try simp only [Act.put, pA, pB, pC]
    refine tkA (i := 2) (oi := ⟨some 89, _, _, _, _, _⟩) (v := ?_) rfl (Or.inl ⟨by rfl, ?_⟩) ?_
    rotate_left
    · (intro w' hSw; (try dsimp only at hSw); go_simp <;> (with_reducible rfl))
    try simp only [Act.put, pA, pB, pC]
    refine tkA (i := 3) (oi := ⟨some 90, _, _, _, _, _⟩) (v := (.bool false)) rfl (Or.inl ⟨by rfl, fun w' hSw => by go_simp⟩) ?_
    try simp only [Act.put, pA, pB, pC]
    refine tkA (i := 4) (oi := ⟨some 91, _, _, _, _, _⟩) (v := ?_) rfl (Or.inl ⟨by rfl, ?_⟩) ?_
    rotate_left
    · (intro w' hSw; (try dsimp only at hSw); go_simp <;> (with_reducible rfl))
    try simp only [Act.put, pA, pB, pC]
    refine tkA (i := 5) (oi := ⟨some 92, _, _, _, _, _⟩) (v := ?_) rfl (Or.inl ⟨by rfl, ?_⟩) ?_
    rotate_left
    · (intro w' hSw; (try dsimp only at hSw); go_simp <;> (with_reducible rfl))
    try simp only [Act.put, pA, pB, pC]
    refine tkA (i := 6) (oi := ⟨some 93, _, _, _, _, _⟩) (v := ?_) rfl (Or.inl ⟨by rfl, ?_⟩) ?_
    rotate_left
    · (intro w' hSw; (try dsimp only at hSw); go_simp <;> (with_reducible rfl))
    try simp only [Act.put, pA, pB, pC]
    refine wpAnyH_ready (rs := [7]) (by kernel_rfl) (by simp) ?_
    refine AllReadyH.cons (o := ⟨some 94, _, _, _, _, _⟩) rfl (fun K' hK => ?_) AllReadyH.nil
    go_simp
    go_at_call 11
    refine (HCM.out _ HMM.out).mono ?_
    rintro e_ w_1042 ⟨rfl, hb_1042⟩
    replace HFF := hide (HFF.out.below hb_1042)
    replace HTT := hide (HTT.out.below hb_1042)
    replace HSS := hide (HSS.out.below hb_1042)
    replace HMM := hide (HMM.out.below hb_1042)
    replace HEE := hide (HEE.out.below hb_1042)
    replace HQB := hide (HQB.out.below hb_1042)
    replace HX := hide (HX.out.below hb_1042)
    replace HC := hide (HC.out.below hb_1042)
    replace HB := hide (HB.out.trans (hb_1042.mono HB.out.size))
    clear hb_1042
    go_wp2_with fail
    refine hK.out _ _ ⟨HX.out.at_ 9, HX.out.at_ 10, HC.out.at_ 4⟩ (fun hHeld => ?_)
    clear hK K'
    try simp only [Act.put, pA, pB, pC]
    refine tkA (i := 8) (oi := ⟨some 95, _, _, _, _, _⟩) (v := (.bool true)) rfl (Or.inl ⟨by rfl, fun w' hSw => by go_simp⟩) ?_
    try simp only [Act.put, pA, pB, pC]
    refine tkA (i := 9) (oi := ⟨some 96, _, _, _, _, _⟩) (v := (.bool true)) rfl (Or.inl ⟨by rfl, fun w' hSw => by go_simp⟩) ?_
    try simp only [Act.put, pA, pB, pC]
    refine tkA (i := 10) (oi := ⟨some 97, _, _, _, _, _⟩) (v := ?_) rfl (Or.inl ⟨by rfl, ?_⟩) ?_
    rotate_left
    · (intro w' hSw; (try dsimp only at hSw); go_simp <;> (with_reducible rfl))
    try simp only [Act.put, pA, pB, pC]
    refine tkA (i := 11) (oi := ⟨some 98, _, _, _, _, _⟩) (v := undef) rfl (Or.inr ⟨by rfl, by rfl⟩) ?_
    try simp only [Act.put, pA, pB, pC]
    refine tkA (i := 12) (oi := ⟨some 99, _, _, _, _, _⟩) (v := undef) rfl (Or.inr ⟨by rfl, by rfl⟩) ?_
    try simp only [Act.put, pA, pB, pC]
    refine tkA (i := 13) (oi := ⟨some 100, _, _, _, _, _⟩) (v := undef) rfl (Or.inr ⟨by rfl, by rfl⟩) ?_
    try simp only [Act.put, pA, pB, pC]
    refine tkA (i := 14) (oi := ⟨some 101, _, _, _, _, _⟩) (v := undef) rfl (Or.inr ⟨by rfl, by rfl⟩) ?_
    try simp only [Act.put, pA, pB, pC]
    refine tkA (i := 15) (oi := ⟨some 102, _, _, _, _, _⟩) (v := undef) rfl (Or.inr ⟨by rfl, by rfl⟩) ?_
    try simp only [Act.put, pA, pB, pC]
    refine tkA (i := 16) (oi := ⟨some 103, _, _, _, _, _⟩) (v := undef) rfl (Or.inr ⟨by rfl, by rfl⟩) ?_
    try simp only [Act.put, pA, pB, pC]
    refine tkA (i := 17) (oi := ⟨some 104, _, _, _, _, _⟩) (v := undef) rfl (Or.inr ⟨by rfl, by rfl⟩) ?_
    try simp only [Act.put, pA, pB, pC]
    refine tkA (i := 18) (oi := ⟨some 105, _, _, _, _, _⟩) (v := undef) rfl (Or.inr ⟨by rfl, by rfl⟩) ?_
    try simp only [Act.put, pA, pB, pC]
    refine tkA (i := 19) (oi := ⟨some 106, _, _, _, _, _⟩) (v := undef) rfl (Or.inr ⟨by rfl, by rfl⟩) ?_
    try simp only [Act.put, pA, pB, pC]
    refine tkA (i := 20) (oi := ⟨some 107, _, _, _, _, _⟩) (v := (.bool true)) rfl (Or.inl ⟨by rfl, fun w' hSw => by go_simp⟩) ?_
    try simp only [Act.put, pA, pB, pC]
    refine tkA (i := 21) (oi := ⟨some 108, _, _, _, _, _⟩) (v := ?_) rfl (Or.inl ⟨by rfl, ?_⟩) ?_
    rotate_left
    · (intro w' hSw; (try dsimp only at hSw); go_simp <;> (with_reducible rfl))
    try simp only [Act.put, pA, pB, pC]
    refine tkA (i := 22) (oi := ⟨some 109, _, _, _, _, _⟩) (v := undef) rfl (Or.inr ⟨by rfl, by rfl⟩) ?_
    try simp only [Act.put, pA, pB, pC]
    refine tkA (i := 23) (oi := ⟨some 110, _, _, _, _, _⟩) (v := undef) rfl (Or.inr ⟨by rfl, by rfl⟩) ?_
    try simp only [Act.put, pA, pB, pC]
    refine tkA (i := 24) (oi := ⟨some 111, _, _, _, _, _⟩) (v := undef) rfl (Or.inr ⟨by rfl, by rfl⟩) ?_
    try simp only [Act.put, pA, pB, pC]
    refine tkA (i := 25) (oi := ⟨some 112, _, _, _, _, _⟩) (v := undef) rfl (Or.inr ⟨by rfl, by rfl⟩) ?_
    try simp only [Act.put, pA, pB, pC]
    refine tkA (i := 26) (oi := ⟨some 113, _, _, _, _, _⟩) (v := undef) rfl (Or.inr ⟨by rfl, by rfl⟩) ?_
    try simp only [Act.put, pA, pB, pC]
    refine tkA (i := 27) (oi := ⟨some 114, _, _, _, _, _⟩) (v := undef) rfl (Or.inr ⟨by rfl, by rfl⟩) ?_
    try simp only [Act.put, pA, pB, pC]
    refine tkA (i := 28) (oi := ⟨some 115, _, _, _, _, _⟩) (v := undef) rfl (Or.inr ⟨by rfl, by rfl⟩) ?_
    try simp only [Act.put, pA, pB, pC]
    refine tkA (i := 29) (oi := ⟨some 116, _, _, _, _, _⟩) (v := undef) rfl (Or.inr ⟨by rfl, by rfl⟩) ?_
    try simp only [Act.put, pA, pB, pC]
    refine tkA (i := 30) (oi := ⟨some 117, _, _, _, _, _⟩) (v := undef) rfl (Or.inr ⟨by rfl, by rfl⟩) ?_
    try simp only [Act.put, pA, pB, pC]
    refine tkA (i := 31) (oi := ⟨some 118, _, _, _, _, _⟩) (v := undef) rfl (Or.inr ⟨by rfl, by rfl⟩) ?_
    try simp only [Act.put, pA, pB, pC]
    refine tkA (i := 32) (oi := ⟨some 119, _, _, _, _, _⟩) (v := (.bool true)) rfl (Or.inl ⟨by rfl, fun w' hSw => by go_simp⟩) ?_
    try simp only [Act.put, pA, pB, pC]
    refine wpAnyH_done (by kernel_rfl) ?_ _
    obtain ⟨hn, hm, hen, hk1, hk8, hn66, hsum, hq6, hN1, htn1, hpp9, htn, hsm, hv3, hh1, hh3⟩ := HNUM.out
    clear HNUM
    clear hHeld
    go_wp2_with fail
    go_ret
    exact ⟨rfl, HB.out⟩
  subst hz6
  have te6 : ((0 : Int) != 0) = false := by decide
  have hok6 := matE_zero hr6
  have HR6 := hide hr6
  have HOK6 := hide hok6
  have hm1 := hok6.n1
  have hm0 : 0 < mn := hm1
  have hml := hok6.len 0 (by omega)
  have hmm1 := hok6.m1
  have hmm4 := hok6.m4
  obtain ⟨mb, mo, Ar, cr, rfl, -, hmb, hmy, -, -, -⟩ := HMM.out 0 (by omega)
  have HMY := hide (Cel.mk hmy hmb)
  clear hok6 hr6 hmy hmb hml
  have HML0 := hide (show ML 0 = ML 0 from rfl)
  obtain ⟨ml, hml⟩ : ∃ z, ML 0 = z := ⟨_, rfl⟩
  simp only [hml] at HMY hmm1 hmm4
  clear HML0
  by_cases hsq : mn = ml
  case neg =>
   have tsq : ((mn : Int) != (ml : Int)) = true := by simp; omega
   clear hml
   as_aux_lemma =>
    have HNUM := hide (⟨hn, hm, hen, hk1, hk8, hn66, hsum, hq6, hN1, htn1, hpp9, htn, hsm, hv3, hh1, hh3⟩ : _ ∧ _ ∧ _ ∧ _ ∧ _ ∧ _ ∧ _ ∧ _ ∧ _ ∧ _ ∧ _ ∧ _ ∧ _ ∧ _ ∧ _ ∧ _)
    clear hn hm hen hk1 hk8 hn66 hsum hq6 hN1 htn1 hpp9 htn hsm hv3 hh1 hh3
    refine wp_region_held_drew (S := fun w' => w'.cell? ⟨b1, 9, none⟩ = some (.int .i64 (2 * (h : Int))) ∧ w'.cell? ⟨b1, 10, none⟩ = some (.slice (some ⟨mb, mo, none⟩) mn mc) ∧ w'.cell? ⟨b4, 4, none⟩ = some (.int .i64 (kk : Int)) ∧ w'.cell? ⟨mb, mo, none⟩ = some (.slice Ar ml cr)) (by kernel_rfl) ⟨HX.out.at_ 9, HX.out.at_ 10, HC.out.at_ 4, HMY.out.at_⟩ (fun hHeld => ?_)
    obtain ⟨w_1051, hw_1051⟩ : ∃ q : World, q = w_1024.drew := ⟨_, rfl⟩
    rw [← hw_1051] at hHeld ⊢
    have hc_1051 : Below w_1024.heap.size w_1024 w_1051 := by rw [hw_1051]; exact (Below.refl _ _).drew
    clear hw_1051
    replace HFF := hide (HFF.out.below hc_1051)
    replace HTT := hide (HTT.out.below hc_1051)
    replace HSS := hide (HSS.out.below hc_1051)
    replace HMM := hide (HMM.out.below hc_1051)
    replace HEE := hide (HEE.out.below hc_1051)
    replace HQB := hide (HQB.out.below hc_1051)
    replace HX := hide (HX.out.below hc_1051)
    replace HC := hide (HC.out.below hc_1051)
    replace HMY := hide (HMY.out.below hc_1051)
    replace HB := hide (HB.out.trans (hc_1051.mono HB.out.size))
    clear hc_1051
    refine tkA (i := 0) (oi := ⟨some 87, _, _, _, _, _⟩) (v := ?_) rfl (Or.inl ⟨by rfl, ?_⟩) ?_
    rotate_left
    · (intro w' hSw; (try dsimp only at hSw); go_simp <;> (with_reducible rfl))
    try simp only [Act.put, pA, pB, pC]
    refine tkA (i := 1) (oi := ⟨some 88, _, _, _, _, _⟩) (v := ?_) rfl (Or.inl ⟨by rfl, ?_⟩) ?_
    rotate_left
    · (intro w' hSw; (try dsimp only at hSw); go_simp <;> (with_reducible rfl))
    try simp only [Act.put, pA, pB, pC]
    refine tkA (i := 2) (oi := ⟨some 89, _, _, _, _, _⟩) (v := ?_) rfl (Or.inl ⟨by rfl, ?_⟩) ?_
    rotate_left
    · (intro w' hSw; (try dsimp only at hSw); go_simp <;> (with_reducible rfl))
    try simp only [Act.put, pA, pB, pC]
    refine tkA (i := 3) (oi := ⟨some 90, _, _, _, _, _⟩) (v := (.bool false)) rfl (Or.inl ⟨by rfl, fun w' hSw => by go_simp⟩) ?_
    try simp only [Act.put, pA, pB, pC]
    refine tkA (i := 4) (oi := ⟨some 91, _, _, _, _, _⟩) (v := ?_) rfl (Or.inl ⟨by rfl, ?_⟩) ?_
    rotate_left
    · (intro w' hSw; (try dsimp only at hSw); go_simp <;> (with_reducible rfl))
    try simp only [Act.put, pA, pB, pC]
    refine tkA (i := 5) (oi := ⟨some 92, _, _, _, _, _⟩) (v := ?_) rfl (Or.inl ⟨by rfl, ?_⟩) ?_
    rotate_left
    · (intro w' hSw; (try dsimp only at hSw); go_simp <;> (with_reducible rfl))
    try simp only [Act.put, pA, pB, pC]
    refine tkA (i := 6) (oi := ⟨some 93, _, _, _, _, _⟩) (v := ?_) rfl (Or.inl ⟨by rfl, ?_⟩) ?_
    rotate_left
    · (intro w' hSw; (try dsimp only at hSw); go_simp <;> (with_reducible rfl))
    try simp only [Act.put, pA, pB, pC]
    refine wpAnyH_ready (rs := [7]) (by kernel_rfl) (by simp) ?_
    refine AllReadyH.cons (o := ⟨some 94, _, _, _, _, _⟩) rfl (fun K' hK => ?_) AllReadyH.nil
    go_simp
    go_at_call 11
    refine (HCM.out _ HMM.out).mono ?_
    rintro e_ w_1052 ⟨rfl, hb_1052⟩
    replace HFF := hide (HFF.out.below hb_1052)
    replace HTT := hide (HTT.out.below hb_1052)
    replace HSS := hide (HSS.out.below hb_1052)
    replace HMM := hide (HMM.out.below hb_1052)
    replace HEE := hide (HEE.out.below hb_1052)
    replace HQB := hide (HQB.out.below hb_1052)
    replace HX := hide (HX.out.below hb_1052)
    replace HC := hide (HC.out.below hb_1052)
    replace HMY := hide (HMY.out.below hb_1052)
    replace HB := hide (HB.out.trans (hb_1052.mono HB.out.size))
    clear hb_1052
    go_wp2_with fail
    refine hK.out _ _ ⟨HX.out.at_ 9, HX.out.at_ 10, HC.out.at_ 4, HMY.out.at_⟩ (fun hHeld => ?_)
    clear hK K'
    try simp only [Act.put, pA, pB, pC]
    refine tkA (i := 8) (oi := ⟨some 95, _, _, _, _, _⟩) (v := (.bool false)) rfl (Or.inl ⟨by rfl, fun w' hSw => by go_simp⟩) ?_
    try simp only [Act.put, pA, pB, pC]
    refine tkA (i := 9) (oi := ⟨some 96, _, _, _, _, _⟩) (v := (.bool false)) rfl (Or.inl ⟨by rfl, fun w' hSw => by go_simp⟩) ?_
    try simp only [Act.put, pA, pB, pC]
    refine tkA (i := 10) (oi := ⟨some 97, _, _, _, _, _⟩) (v := ?_) rfl (Or.inl ⟨by rfl, ?_⟩) ?_
    rotate_left
    · (intro w' hSw; (try dsimp only at hSw); go_simp <;> (with_reducible rfl))
    try simp only [Act.put, pA, pB, pC]
    refine tkA (i := 11) (oi := ⟨some 98, _, _, _, _, _⟩) (v := ?_) rfl (Or.inl ⟨by rfl, ?_⟩) ?_
    rotate_left
    · (intro w' hSw; (try dsimp only at hSw); go_simp <;> (with_reducible rfl))
    try simp only [Act.put, pA, pB, pC]
    refine tkA (i := 12) (oi := ⟨some 99, _, _, _, _, _⟩) (v := ?_) rfl (Or.inl ⟨by rfl, ?_⟩) ?_
    rotate_left
    · (intro w' hSw; (try dsimp only at hSw); go_simp <;> (with_reducible rfl))
    try simp only [Act.put, pA, pB, pC]
    refine tkA (i := 13) (oi := ⟨some 100, _, _, _, _, _⟩) (v := ?_) rfl (Or.inl ⟨by rfl, ?_⟩) ?_
    rotate_left
    · (intro w' hSw; (try dsimp only at hSw); go_simp <;> (with_reducible rfl))
    try simp only [Act.put, pA, pB, pC]
    refine tkA (i := 14) (oi := ⟨some 101, _, _, _, _, _⟩) (v := ?_) rfl (Or.inl ⟨by rfl, ?_⟩) ?_
    rotate_left
    · (intro w' hSw; (try dsimp only at hSw); go_simp <;> (with_reducible rfl))
    try simp only [Act.put, pA, pB, pC]
    refine tkA (i := 15) (oi := ⟨some 102, _, _, _, _, _⟩) (v := ?_) rfl (Or.inl ⟨by rfl, ?_⟩) ?_
    rotate_left
    · (intro w' hSw; (try dsimp only at hSw); go_simp <;> (with_reducible rfl))
    try simp only [Act.put, pA, pB, pC]
    refine tkA (i := 16) (oi := ⟨some 103, _, _, _, _, _⟩) (v := ?_) rfl (Or.inl ⟨by rfl, ?_⟩) ?_
    rotate_left
    · (intro w' hSw; (try dsimp only at hSw); go_simp <;> (with_reducible rfl))
    try simp only [Act.put, pA, pB, pC]
    refine tkA (i := 17) (oi := ⟨some 104, _, _, _, _, _⟩) (v := ?_) rfl (Or.inl ⟨by rfl, ?_⟩) ?_
    rotate_left
    · (intro w' hSw; (try dsimp only at hSw); go_simp <;> (with_reducible rfl))
    try simp only [Act.put, pA, pB, pC]
    refine tkA (i := 18) (oi := ⟨some 105, _, _, _, _, _⟩) (v := ?_) rfl (Or.inl ⟨by rfl, ?_⟩) ?_
    rotate_left
    · (intro w' hSw; (try dsimp only at hSw); go_simp <;> (with_reducible rfl))
    try simp only [Act.put, pA, pB, pC]
    refine tkA (i := 19) (oi := ⟨some 106, _, _, _, _, _⟩) (v := (.bool true)) rfl (Or.inl ⟨by rfl, fun w' hSw => by go_simp⟩) ?_
    try simp only [Act.put, pA, pB, pC]
    refine tkA (i := 20) (oi := ⟨some 107, _, _, _, _, _⟩) (v := (.bool true)) rfl (Or.inl ⟨by rfl, fun w' hSw => by go_simp⟩) ?_
    try simp only [Act.put, pA, pB, pC]
    refine tkA (i := 21) (oi := ⟨some 108, _, _, _, _, _⟩) (v := ?_) rfl (Or.inl ⟨by rfl, ?_⟩) ?_
    rotate_left
    · (intro w' hSw; (try dsimp only at hSw); go_simp <;> (with_reducible rfl))
    try simp only [Act.put, pA, pB, pC]
    refine tkA (i := 22) (oi := ⟨some 109, _, _, _, _, _⟩) (v := undef) rfl (Or.inr ⟨by rfl, by rfl⟩) ?_
    try simp only [Act.put, pA, pB, pC]
    refine tkA (i := 23) (oi := ⟨some 110, _, _, _, _, _⟩) (v := undef) rfl (Or.inr ⟨by rfl, by rfl⟩) ?_
    try simp only [Act.put, pA, pB, pC]
    refine tkA (i := 24) (oi := ⟨some 111, _, _, _, _, _⟩) (v := undef) rfl (Or.inr ⟨by rfl, by rfl⟩) ?_
    try simp only [Act.put, pA, pB, pC]
    refine tkA (i := 25) (oi := ⟨some 112, _, _, _, _, _⟩) (v := undef) rfl (Or.inr ⟨by rfl, by rfl⟩) ?_
    try simp only [Act.put, pA, pB, pC]
    refine tkA (i := 26) (oi := ⟨some 113, _, _, _, _, _⟩) (v := undef) rfl (Or.inr ⟨by rfl, by rfl⟩) ?_
    try simp only [Act.put, pA, pB, pC]
    refine tkA (i := 27) (oi := ⟨some 114, _, _, _, _, _⟩) (v := undef) rfl (Or.inr ⟨by rfl, by rfl⟩) ?_
    try simp only [Act.put, pA, pB, pC]
    refine tkA (i := 28) (oi := ⟨some 115, _, _, _, _, _⟩) (v := undef) rfl (Or.inr ⟨by rfl, by rfl⟩) ?_
    try simp only [Act.put, pA, pB, pC]
    refine tkA (i := 29) (oi := ⟨some 116, _, _, _, _, _⟩) (v := undef) rfl (Or.inr ⟨by rfl, by rfl⟩) ?_
    try simp only [Act.put, pA, pB, pC]
    refine tkA (i := 30) (oi := ⟨some 117, _, _, _, _, _⟩) (v := undef) rfl (Or.inr ⟨by rfl, by rfl⟩) ?_
    try simp only [Act.put, pA, pB, pC]
    refine tkA (i := 31) (oi := ⟨some 118, _, _, _, _, _⟩) (v := undef) rfl (Or.inr ⟨by rfl, by rfl⟩) ?_
    try simp only [Act.put, pA, pB, pC]
    refine tkA (i := 32) (oi := ⟨some 119, _, _, _, _, _⟩) (v := (.bool true)) rfl (Or.inl ⟨by rfl, fun w' hSw => by go_simp⟩) ?_
    try simp only [Act.put, pA, pB, pC]
    refine wpAnyH_done (by kernel_rfl) ?_ _
    obtain ⟨hn, hm, hen, hk1, hk8, hn66, hsum, hq6, hN1, htn1, hpp9, htn, hsm, hv3, hh1, hh3⟩ := HNUM.out
    clear HNUM
    clear hHeld
    go_wp2_with fail
    go_ret
    exact ⟨rfl, HB.out⟩
  have tsq : ((mn : Int) != (mn : Int)) = false := by simp
  subst hsq
  have HSQ := hide hml.symm
  clear hml
  obtain ⟨D, hD⟩ : ∃ z : Nat, 2 * h * mn = z := ⟨_, rfl⟩
  have hD12 : 1 ≤ D ∧ D ≤ 12 := by
   rw [← hD]
   obtain rfl | rfl | rfl : h = 1 ∨ h = 2 ∨ h = 3 := by omega
   all_goals omega
  have hDi : 2 * (h : Int) * (mn : Int) = (D : Int) := by rw [← hD]; push_cast; rfl
  have tD1 : IntKind.i64.wrap (2 * (h : Int) * (mn : Int)) = (D : Int) := by rw [hDi]; exact IntWalk.i64_in _ (by omega)
  have tD0 : ¬ (D : Int) = 0 := by omega
  have tD00 : ¬ D = 0 := by omega
  obtain ⟨rr, hrr⟩ : ∃ z, kk % D = z := ⟨_, rfl⟩
  have hrr9 : rr ≤ 80 := by rw [← hrr]; exact Nat.le_trans (Nat.mod_le _ _) (by omega)
  have tmo : (kk : Int).tmod (D : Int) = (rr : Int) := by rw [← hrr, Int.tmod_eq_emod_of_nonneg (by omega)]; rfl
  have tmw : IntKind.i64.wrap (rr : Int) = (rr : Int) := IntWalk.i64_in _ (by omega)
  clear hDi
  by_cases hr0 : rr = 0
  case neg =>
   have tr0 : ((rr : Int) != 0) = true := by simp; omega
   clear hD hrr
   as_aux_lemma =>
    have HNUM := hide (⟨hn, hm, hen, hk1, hk8, hn66, hsum, hq6, hN1, htn1, hpp9, htn, hsm, hv3, hh1, hh3⟩ : _ ∧ _ ∧ _ ∧ _ ∧ _ ∧ _ ∧ _ ∧ _ ∧ _ ∧ _ ∧ _ ∧ _ ∧ _ ∧ _ ∧ _ ∧ _)
    clear hn hm hen hk1 hk8 hn66 hsum hq6 hN1 htn1 hpp9 htn hsm hv3 hh1 hh3
    refine wp_region_held_drew (S := fun w' => w'.cell? ⟨b1, 9, none⟩ = some (.int .i64 (2 * (h : Int))) ∧ w'.cell? ⟨b1, 10, none⟩ = some (.slice (some ⟨mb, mo, none⟩) mn mc) ∧ w'.cell? ⟨b4, 4, none⟩ = some (.int .i64 (kk : Int)) ∧ w'.cell? ⟨mb, mo, none⟩ = some (.slice Ar mn cr)) (by kernel_rfl) ⟨HX.out.at_ 9, HX.out.at_ 10, HC.out.at_ 4, HMY.out.at_⟩ (fun hHeld => ?_)
    obtain ⟨w_1061, hw_1061⟩ : ∃ q : World, q = w_1024.drew := ⟨_, rfl⟩
    rw [← hw_1061] at hHeld ⊢
    have hc_1061 : Below w_1024.heap.size w_1024 w_1061 := by rw [hw_1061]; exact (Below.refl _ _).drew
    clear hw_1061
    replace HFF := hide (HFF.out.below hc_1061)
    replace HTT := hide (HTT.out.below hc_1061)
    replace HSS := hide (HSS.out.below hc_1061)
    replace HMM := hide (HMM.out.below hc_1061)
    replace HEE := hide (HEE.out.below hc_1061)
    replace HQB := hide (HQB.out.below hc_1061)
    replace HX := hide (HX.out.below hc_1061)
    replace HC := hide (HC.out.below hc_1061)
    replace HMY := hide (HMY.out.below hc_1061)
    replace HB := hide (HB.out.trans (hc_1061.mono HB.out.size))
    clear hc_1061
    refine tkA (i := 0) (oi := ⟨some 87, _, _, _, _, _⟩) (v := ?_) rfl (Or.inl ⟨by rfl, ?_⟩) ?_
    rotate_left
    · (intro w' hSw; (try dsimp only at hSw); go_simp <;> (with_reducible rfl))
    try simp only [Act.put, pA, pB, pC]
    refine tkA (i := 1) (oi := ⟨some 88, _, _, _, _, _⟩) (v := ?_) rfl (Or.inl ⟨by rfl, ?_⟩) ?_
    rotate_left
    · (intro w' hSw; (try dsimp only at hSw); go_simp <;> (with_reducible rfl))
    try simp only [Act.put, pA, pB, pC]
    refine tkA (i := 2) (oi := ⟨some 89, _, _, _, _, _⟩) (v := ?_) rfl (Or.inl ⟨by rfl, ?_⟩) ?_
    rotate_left
    · (intro w' hSw; (try dsimp only at hSw); go_simp <;> (with_reducible rfl))
    try simp only [Act.put, pA, pB, pC]
    refine tkA (i := 3) (oi := ⟨some 90, _, _, _, _, _⟩) (v := (.bool false)) rfl (Or.inl ⟨by rfl, fun w' hSw => by go_simp⟩) ?_
    try simp only [Act.put, pA, pB, pC]
    refine tkA (i := 4) (oi := ⟨some 91, _, _, _, _, _⟩) (v := ?_) rfl (Or.inl ⟨by rfl, ?_⟩) ?_
    rotate_left
    · (intro w' hSw; (try dsimp only at hSw); go_simp <;> (with_reducible rfl))
    try simp only [Act.put, pA, pB, pC]
    refine tkA (i := 5) (oi := ⟨some 92, _, _, _, _, _⟩) (v := ?_) rfl (Or.inl ⟨by rfl, ?_⟩) ?_
    rotate_left
    · (intro w' hSw; (try dsimp only at hSw); go_simp <;> (with_reducible rfl))
    try simp only [Act.put, pA, pB, pC]
    refine tkA (i := 6) (oi := ⟨some 93, _, _, _, _, _⟩) (v := ?_) rfl (Or.inl ⟨by rfl, ?_⟩) ?_
    rotate_left
    · (intro w' hSw; (try dsimp only at hSw); go_simp <;> (with_reducible rfl))
    try simp only [Act.put, pA, pB, pC]
    refine wpAnyH_ready (rs := [7]) (by kernel_rfl) (by simp) ?_
    refine AllReadyH.cons (o := ⟨some 94, _, _, _, _, _⟩) rfl (fun K' hK => ?_) AllReadyH.nil
    go_simp
    go_at_call 11
    refine (HCM.out _ HMM.out).mono ?_
    rintro e_ w_1062 ⟨rfl, hb_1062⟩
    replace HFF := hide (HFF.out.below hb_1062)
    replace HTT := hide (HTT.out.below hb_1062)
    replace HSS := hide (HSS.out.below hb_1062)
    replace HMM := hide (HMM.out.below hb_1062)
    replace HEE := hide (HEE.out.below hb_1062)
    replace HQB := hide (HQB.out.below hb_1062)
    replace HX := hide (HX.out.below hb_1062)
    replace HC := hide (HC.out.below hb_1062)
    replace HMY := hide (HMY.out.below hb_1062)
    replace HB := hide (HB.out.trans (hb_1062.mono HB.out.size))
    clear hb_1062
    go_wp2_with fail
    refine hK.out _ _ ⟨HX.out.at_ 9, HX.out.at_ 10, HC.out.at_ 4, HMY.out.at_⟩ (fun hHeld => ?_)
    clear hK K'
    try simp only [Act.put, pA, pB, pC]
    refine tkA (i := 8) (oi := ⟨some 95, _, _, _, _, _⟩) (v := (.bool false)) rfl (Or.inl ⟨by rfl, fun w' hSw => by go_simp⟩) ?_
    try simp only [Act.put, pA, pB, pC]
    refine tkA (i := 9) (oi := ⟨some 96, _, _, _, _, _⟩) (v := (.bool false)) rfl (Or.inl ⟨by rfl, fun w' hSw => by go_simp⟩) ?_
    try simp only [Act.put, pA, pB, pC]
    refine tkA (i := 10) (oi := ⟨some 97, _, _, _, _, _⟩) (v := ?_) rfl (Or.inl ⟨by rfl, ?_⟩) ?_
    rotate_left
    · (intro w' hSw; (try dsimp only at hSw); go_simp <;> (with_reducible rfl))
    try simp only [Act.put, pA, pB, pC]
    refine tkA (i := 11) (oi := ⟨some 98, _, _, _, _, _⟩) (v := ?_) rfl (Or.inl ⟨by rfl, ?_⟩) ?_
    rotate_left
    · (intro w' hSw; (try dsimp only at hSw); go_simp <;> (with_reducible rfl))
    try simp only [Act.put, pA, pB, pC]
    refine tkA (i := 12) (oi := ⟨some 99, _, _, _, _, _⟩) (v := ?_) rfl (Or.inl ⟨by rfl, ?_⟩) ?_
    rotate_left
    · (intro w' hSw; (try dsimp only at hSw); go_simp <;> (with_reducible rfl))
    try simp only [Act.put, pA, pB, pC]
    refine tkA (i := 13) (oi := ⟨some 100, _, _, _, _, _⟩) (v := ?_) rfl (Or.inl ⟨by rfl, ?_⟩) ?_
    rotate_left
    · (intro w' hSw; (try dsimp only at hSw); go_simp <;> (with_reducible rfl))
    try simp only [Act.put, pA, pB, pC]
    refine tkA (i := 14) (oi := ⟨some 101, _, _, _, _, _⟩) (v := ?_) rfl (Or.inl ⟨by rfl, ?_⟩) ?_
    rotate_left
    · (intro w' hSw; (try dsimp only at hSw); go_simp <;> (with_reducible rfl))
    try simp only [Act.put, pA, pB, pC]
    refine tkA (i := 15) (oi := ⟨some 102, _, _, _, _, _⟩) (v := ?_) rfl (Or.inl ⟨by rfl, ?_⟩) ?_
    rotate_left
    · (intro w' hSw; (try dsimp only at hSw); go_simp <;> (with_reducible rfl))
    try simp only [Act.put, pA, pB, pC]
    refine tkA (i := 16) (oi := ⟨some 103, _, _, _, _, _⟩) (v := ?_) rfl (Or.inl ⟨by rfl, ?_⟩) ?_
    rotate_left
    · (intro w' hSw; (try dsimp only at hSw); go_simp <;> (with_reducible rfl))
    try simp only [Act.put, pA, pB, pC]
    refine tkA (i := 17) (oi := ⟨some 104, _, _, _, _, _⟩) (v := ?_) rfl (Or.inl ⟨by rfl, ?_⟩) ?_
    rotate_left
    · (intro w' hSw; (try dsimp only at hSw); go_simp <;> (with_reducible rfl))
    try simp only [Act.put, pA, pB, pC]
    refine tkA (i := 18) (oi := ⟨some 105, _, _, _, _, _⟩) (v := ?_) rfl (Or.inl ⟨by rfl, ?_⟩) ?_
    rotate_left
    · (intro w' hSw; (try dsimp only at hSw); go_simp <;> (with_reducible rfl))
    try simp only [Act.put, pA, pB, pC]
    refine tkA (i := 19) (oi := ⟨some 106, _, _, _, _, _⟩) (v := (.bool false)) rfl (Or.inl ⟨by rfl, fun w' hSw => by go_simp⟩) ?_
    try simp only [Act.put, pA, pB, pC]
    refine tkA (i := 20) (oi := ⟨some 107, _, _, _, _, _⟩) (v := (.bool false)) rfl (Or.inl ⟨by rfl, fun w' hSw => by go_simp⟩) ?_
    try simp only [Act.put, pA, pB, pC]
    refine tkA (i := 21) (oi := ⟨some 108, _, _, _, _, _⟩) (v := ?_) rfl (Or.inl ⟨by rfl, ?_⟩) ?_
    rotate_left
    · (intro w' hSw; (try dsimp only at hSw); go_simp <;> (with_reducible rfl))
    try simp only [Act.put, pA, pB, pC]
    refine tkA (i := 22) (oi := ⟨some 109, _, _, _, _, _⟩) (v := ?_) rfl (Or.inl ⟨by rfl, ?_⟩) ?_
    rotate_left
    · (intro w' hSw; (try dsimp only at hSw); go_simp <;> (with_reducible rfl))
    try simp only [Act.put, pA, pB, pC]
    refine tkA (i := 23) (oi := ⟨some 110, _, _, _, _, _⟩) (v := ?_) rfl (Or.inl ⟨by rfl, ?_⟩) ?_
    rotate_left
    · (intro w' hSw; (try dsimp only at hSw); go_simp <;> (with_reducible rfl))
    try simp only [Act.put, pA, pB, pC]
    refine tkA (i := 24) (oi := ⟨some 111, _, _, _, _, _⟩) (v := ?_) rfl (Or.inl ⟨by rfl, ?_⟩) ?_
    rotate_left
    · (intro w' hSw; (try dsimp only at hSw); go_simp <;> (with_reducible rfl))
    try simp only [Act.put, pA, pB, pC]
    refine tkA (i := 25) (oi := ⟨some 112, _, _, _, _, _⟩) (v := ?_) rfl (Or.inl ⟨by rfl, ?_⟩) ?_
    rotate_left
    · (intro w' hSw; (try dsimp only at hSw); go_simp <;> (with_reducible rfl))
    try simp only [Act.put, pA, pB, pC]
    refine tkA (i := 26) (oi := ⟨some 113, _, _, _, _, _⟩) (v := ?_) rfl (Or.inl ⟨by rfl, ?_⟩) ?_
    rotate_left
    · (intro w' hSw; (try dsimp only at hSw); go_simp <;> (with_reducible rfl))
    try simp only [Act.put, pA, pB, pC]
    refine tkA (i := 27) (oi := ⟨some 114, _, _, _, _, _⟩) (v := ?_) rfl (Or.inl ⟨by rfl, ?_⟩) ?_
    rotate_left
    · (intro w' hSw; (try dsimp only at hSw); go_simp <;> (with_reducible rfl))
    try simp only [Act.put, pA, pB, pC]
    refine tkA (i := 28) (oi := ⟨some 115, _, _, _, _, _⟩) (v := ?_) rfl (Or.inl ⟨by rfl, ?_⟩) ?_
    rotate_left
    · (intro w' hSw; (try dsimp only at hSw); go_simp <;> (with_reducible rfl))
    try simp only [Act.put, pA, pB, pC]
    refine tkA (i := 29) (oi := ⟨some 116, _, _, _, _, _⟩) (v := ?_) rfl (Or.inl ⟨by rfl, ?_⟩) ?_
    rotate_left
    · (intro w' hSw; (try dsimp only at hSw); go_simp <;> (with_reducible rfl))
    try simp only [Act.put, pA, pB, pC]
    refine tkA (i := 30) (oi := ⟨some 117, _, _, _, _, _⟩) (v := ?_) rfl (Or.inl ⟨by rfl, ?_⟩) ?_
    rotate_left
    · (intro w' hSw; (try dsimp only at hSw); go_simp <;> (with_reducible rfl))
    try simp only [Act.put, pA, pB, pC]
    refine tkA (i := 31) (oi := ⟨some 118, _, _, _, _, _⟩) (v := (.bool true)) rfl (Or.inl ⟨by rfl, fun w' hSw => by go_simp⟩) ?_
    try simp only [Act.put, pA, pB, pC]
    refine tkA (i := 32) (oi := ⟨some 119, _, _, _, _, _⟩) (v := (.bool true)) rfl (Or.inl ⟨by rfl, fun w' hSw => by go_simp⟩) ?_
    try simp only [Act.put, pA, pB, pC]
    refine wpAnyH_done (by kernel_rfl) ?_ _
    obtain ⟨hn, hm, hen, hk1, hk8, hn66, hsum, hq6, hN1, htn1, hpp9, htn, hsm, hv3, hh1, hh3⟩ := HNUM.out
    clear HNUM
    clear hHeld
    go_wp2_with fail
    go_ret
    exact ⟨rfl, HB.out⟩
  subst hr0
  have tr0 : (((0 : Nat) : Int) != 0) = false := by decide
  obtain ⟨qq, C, hC, hkC, hq1, hq40, hC1, hC40, htd⟩ := link_nums hh1 hh3 hm1 hmn hk1 hk8 (by rw [hD]; exact hrr)
  have HCQ := hide hC
  have HKC := hide hkC
  have td : (kk : Int).tdiv (2 * (h : Int)) = (C : Int) := htd
  have tdw : IntKind.i64.wrap (C : Int) = (C : Int) := IntWalk.i64_in _ (by omega)
  clear hC hkC htd hD hrr
  have HNUM := hide (⟨hn, hm, hen, hk1, hk8, hn66, hsum, hq6, hN1, htn1, hpp9, htn, hsm, hv3, hh1, hh3⟩ : _ ∧ _ ∧ _ ∧ _ ∧ _ ∧ _ ∧ _ ∧ _ ∧ _ ∧ _ ∧ _ ∧ _ ∧ _ ∧ _ ∧ _ ∧ _)
  clear hn hm hen hk1 hk8 hn66 hsum hq6 hN1 htn1 hpp9 htn hsm hv3 hh1 hh3
  refine wp_region_held_drew (S := fun w' => w'.cell? ⟨b1, 9, none⟩ = some (.int .i64 (2 * (h : Int))) ∧ w'.cell? ⟨b1, 10, none⟩ = some (.slice (some ⟨mb, mo, none⟩) mn mc) ∧ w'.cell? ⟨b4, 4, none⟩ = some (.int .i64 (kk : Int)) ∧ w'.cell? ⟨mb, mo, none⟩ = some (.slice Ar mn cr)) (by kernel_rfl) ⟨HX.out.at_ 9, HX.out.at_ 10, HC.out.at_ 4, HMY.out.at_⟩ (fun hHeld => ?_)
  obtain ⟨w_1071, hw_1071⟩ : ∃ q : World, q = w_1024.drew := ⟨_, rfl⟩
  rw [← hw_1071] at hHeld ⊢
  have hc_1071 : Below w_1024.heap.size w_1024 w_1071 := by rw [hw_1071]; exact (Below.refl _ _).drew
  clear hw_1071
  replace HFF := hide (HFF.out.below hc_1071)
  replace HTT := hide (HTT.out.below hc_1071)
  replace HSS := hide (HSS.out.below hc_1071)
  replace HMM := hide (HMM.out.below hc_1071)
  replace HEE := hide (HEE.out.below hc_1071)
  replace HQB := hide (HQB.out.below hc_1071)
  replace HX := hide (HX.out.below hc_1071)
  replace HC := hide (HC.out.below hc_1071)
  replace HMY := hide (HMY.out.below hc_1071)
  replace HB := hide (HB.out.trans (hc_1071.mono HB.out.size))
  clear hc_1071
  refine tkA (i := 0) (oi := ⟨some 87, _, _, _, _, _⟩) (v := ?_) rfl (Or.inl ⟨by rfl, ?_⟩) ?_
  rotate_left
  · (intro w' hSw; (try dsimp only at hSw); go_simp <;> (with_reducible rfl))
  try simp only [Act.put, pA, pB, pC]
  refine tkA (i := 1) (oi := ⟨some 88, _, _, _, _, _⟩) (v := ?_) rfl (Or.inl ⟨by rfl, ?_⟩) ?_
  rotate_left
  · (intro w' hSw; (try dsimp only at hSw); go_simp <;> (with_reducible rfl))
  try simp only [Act.put, pA, pB, pC]
  refine tkA (i := 2) (oi := ⟨some 89, _, _, _, _, _⟩) (v := ?_) rfl (Or.inl ⟨by rfl, ?_⟩) ?_
  rotate_left
  · (intro w' hSw; (try dsimp only at hSw); go_simp <;> (with_reducible rfl))
  try simp only [Act.put, pA, pB, pC]
  refine tkA (i := 3) (oi := ⟨some 90, _, _, _, _, _⟩) (v := (.bool false)) rfl (Or.inl ⟨by rfl, fun w' hSw => by go_simp⟩) ?_
  try simp only [Act.put, pA, pB, pC]
  refine tkA (i := 4) (oi := ⟨some 91, _, _, _, _, _⟩) (v := ?_) rfl (Or.inl ⟨by rfl, ?_⟩) ?_
  rotate_left
  · (intro w' hSw; (try dsimp only at hSw); go_simp <;> (with_reducible rfl))
  try simp only [Act.put, pA, pB, pC]
  refine tkA (i := 5) (oi := ⟨some 92, _, _, _, _, _⟩) (v := ?_) rfl (Or.inl ⟨by rfl, ?_⟩) ?_
  rotate_left
  · (intro w' hSw; (try dsimp only at hSw); go_simp <;> (with_reducible rfl))
  try simp only [Act.put, pA, pB, pC]
  refine tkA (i := 6) (oi := ⟨some 93, _, _, _, _, _⟩) (v := ?_) rfl (Or.inl ⟨by rfl, ?_⟩) ?_
  rotate_left
  · (intro w' hSw; (try dsimp only at hSw); go_simp <;> (with_reducible rfl))
  try simp only [Act.put, pA, pB, pC]
  refine wpAnyH_ready (rs := [7]) (by kernel_rfl) (by simp) ?_
  refine AllReadyH.cons (o := ⟨some 94, _, _, _, _, _⟩) rfl (fun K' hK => ?_) AllReadyH.nil
  go_simp
  go_at_call 11
  refine (HCM.out _ HMM.out).mono ?_
  rintro e_ w_1072 ⟨rfl, hb_1072⟩
  replace HFF := hide (HFF.out.below hb_1072)
  replace HTT := hide (HTT.out.below hb_1072)
  replace HSS := hide (HSS.out.below hb_1072)
  replace HMM := hide (HMM.out.below hb_1072)
  replace HEE := hide (HEE.out.below hb_1072)
  replace HQB := hide (HQB.out.below hb_1072)
  replace HX := hide (HX.out.below hb_1072)
  replace HC := hide (HC.out.below hb_1072)
  replace HMY := hide (HMY.out.below hb_1072)
  replace HB := hide (HB.out.trans (hb_1072.mono HB.out.size))
  clear hb_1072
  go_wp2_with fail
  refine hK.out _ _ ⟨HX.out.at_ 9, HX.out.at_ 10, HC.out.at_ 4, HMY.out.at_⟩ (fun hHeld => ?_)
  clear hK K'
  try simp only [Act.put, pA, pB, pC]
  refine tkA (i := 8) (oi := ⟨some 95, _, _, _, _, _⟩) (v := (.bool false)) rfl (Or.inl ⟨by rfl, fun w' hSw => by go_simp⟩) ?_
  try simp only [Act.put, pA, pB, pC]
  refine tkA (i := 9) (oi := ⟨some 96, _, _, _, _, _⟩) (v := (.bool false)) rfl (Or.inl ⟨by rfl, fun w' hSw => by go_simp⟩) ?_
  try simp only [Act.put, pA, pB, pC]
  refine tkA (i := 10) (oi := ⟨some 97, _, _, _, _, _⟩) (v := ?_) rfl (Or.inl ⟨by rfl, ?_⟩) ?_
  rotate_left
  · (intro w' hSw; (try dsimp only at hSw); go_simp <;> (with_reducible rfl))
  try simp only [Act.put, pA, pB, pC]
  refine tkA (i := 11) (oi := ⟨some 98, _, _, _, _, _⟩) (v := ?_) rfl (Or.inl ⟨by rfl, ?_⟩) ?_
  rotate_left
  · (intro w' hSw; (try dsimp only at hSw); go_simp <;> (with_reducible rfl))
  try simp only [Act.put, pA, pB, pC]
  refine tkA (i := 12) (oi := ⟨some 99, _, _, _, _, _⟩) (v := ?_) rfl (Or.inl ⟨by rfl, ?_⟩) ?_
  rotate_left
  · (intro w' hSw; (try dsimp only at hSw); go_simp <;> (with_reducible rfl))
  try simp only [Act.put, pA, pB, pC]
  refine tkA (i := 13) (oi := ⟨some 100, _, _, _, _, _⟩) (v := ?_) rfl (Or.inl ⟨by rfl, ?_⟩) ?_
  rotate_left
  · (intro w' hSw; (try dsimp only at hSw); go_simp <;> (with_reducible rfl))
  try simp only [Act.put, pA, pB, pC]
  refine tkA (i := 14) (oi := ⟨some 101, _, _, _, _, _⟩) (v := ?_) rfl (Or.inl ⟨by rfl, ?_⟩) ?_
  rotate_left
  · (intro w' hSw; (try dsimp only at hSw); go_simp <;> (with_reducible rfl))
  try simp only [Act.put, pA, pB, pC]
  refine tkA (i := 15) (oi := ⟨some 102, _, _, _, _, _⟩) (v := ?_) rfl (Or.inl ⟨by rfl, ?_⟩) ?_
  rotate_left
  · (intro w' hSw; (try dsimp only at hSw); go_simp <;> (with_reducible rfl))
  try simp only [Act.put, pA, pB, pC]
  refine tkA (i := 16) (oi := ⟨some 103, _, _, _, _, _⟩) (v := ?_) rfl (Or.inl ⟨by rfl, ?_⟩) ?_
  rotate_left
  · (intro w' hSw; (try dsimp only at hSw); go_simp <;> (with_reducible rfl))
  try simp only [Act.put, pA, pB, pC]
  refine tkA (i := 17) (oi := ⟨some 104, _, _, _, _, _⟩) (v := ?_) rfl (Or.inl ⟨by rfl, ?_⟩) ?_
  rotate_left
  · (intro w' hSw; (try dsimp only at hSw); go_simp <;> (with_reducible rfl))
  try simp only [Act.put, pA, pB, pC]
  refine tkA (i := 18) (oi := ⟨some 105, _, _, _, _, _⟩) (v := ?_) rfl (Or.inl ⟨by rfl, ?_⟩) ?_
  rotate_left
  · (intro w' hSw; (try dsimp only at hSw); go_simp <;> (with_reducible rfl))
  try simp only [Act.put, pA, pB, pC]
  refine tkA (i := 19) (oi := ⟨some 106, _, _, _, _, _⟩) (v := (.bool false)) rfl (Or.inl ⟨by rfl, fun w' hSw => by go_simp⟩) ?_
  try simp only [Act.put, pA, pB, pC]
  refine tkA (i := 20) (oi := ⟨some 107, _, _, _, _, _⟩) (v := (.bool false)) rfl (Or.inl ⟨by rfl, fun w' hSw => by go_simp⟩) ?_
  try simp only [Act.put, pA, pB, pC]
  refine tkA (i := 21) (oi := ⟨some 108, _, _, _, _, _⟩) (v := ?_) rfl (Or.inl ⟨by rfl, ?_⟩) ?_
  rotate_left
  · (intro w' hSw; (try dsimp only at hSw); go_simp <;> (with_reducible rfl))
  try simp only [Act.put, pA, pB, pC]
  refine tkA (i := 22) (oi := ⟨some 109, _, _, _, _, _⟩) (v := ?_) rfl (Or.inl ⟨by rfl, ?_⟩) ?_
  rotate_left
  · (intro w' hSw; (try dsimp only at hSw); go_simp <;> (with_reducible rfl))
  try simp only [Act.put, pA, pB, pC]
  refine tkA (i := 23) (oi := ⟨some 110, _, _, _, _, _⟩) (v := ?_) rfl (Or.inl ⟨by rfl, ?_⟩) ?_
  rotate_left
  · (intro w' hSw; (try dsimp only at hSw); go_simp <;> (with_reducible rfl))
  try simp only [Act.put, pA, pB, pC]
  refine tkA (i := 24) (oi := ⟨some 111, _, _, _, _, _⟩) (v := ?_) rfl (Or.inl ⟨by rfl, ?_⟩) ?_
  rotate_left
  · (intro w' hSw; (try dsimp only at hSw); go_simp <;> (with_reducible rfl))
  try simp only [Act.put, pA, pB, pC]
  refine tkA (i := 25) (oi := ⟨some 112, _, _, _, _, _⟩) (v := ?_) rfl (Or.inl ⟨by rfl, ?_⟩) ?_
  rotate_left
  · (intro w' hSw; (try dsimp only at hSw); go_simp <;> (with_reducible rfl))
  try simp only [Act.put, pA, pB, pC]
  refine tkA (i := 26) (oi := ⟨some 113, _, _, _, _, _⟩) (v := ?_) rfl (Or.inl ⟨by rfl, ?_⟩) ?_
  rotate_left
  · (intro w' hSw; (try dsimp only at hSw); go_simp <;> (with_reducible rfl))
  try simp only [Act.put, pA, pB, pC]
  refine tkA (i := 27) (oi := ⟨some 114, _, _, _, _, _⟩) (v := ?_) rfl (Or.inl ⟨by rfl, ?_⟩) ?_
  rotate_left
  · (intro w' hSw; (try dsimp only at hSw); go_simp <;> (with_reducible rfl))
  try simp only [Act.put, pA, pB, pC]
  refine tkA (i := 28) (oi := ⟨some 115, _, _, _, _, _⟩) (v := ?_) rfl (Or.inl ⟨by rfl, ?_⟩) ?_
  rotate_left
  · (intro w' hSw; (try dsimp only at hSw); go_simp <;> (with_reducible rfl))
  try simp only [Act.put, pA, pB, pC]
  refine tkA (i := 29) (oi := ⟨some 116, _, _, _, _, _⟩) (v := ?_) rfl (Or.inl ⟨by rfl, ?_⟩) ?_
  rotate_left
  · (intro w' hSw; (try dsimp only at hSw); go_simp <;> (with_reducible rfl))
  try simp only [Act.put, pA, pB, pC]
  refine tkA (i := 30) (oi := ⟨some 117, _, _, _, _, _⟩) (v := ?_) rfl (Or.inl ⟨by rfl, ?_⟩) ?_
  rotate_left
  · (intro w' hSw; (try dsimp only at hSw); go_simp <;> (with_reducible rfl))
  try simp only [Act.put, pA, pB, pC]
  refine tkA (i := 31) (oi := ⟨some 118, _, _, _, _, _⟩) (v := (.bool false)) rfl (Or.inl ⟨by rfl, fun w' hSw => by go_simp⟩) ?_
  try simp only [Act.put, pA, pB, pC]
  refine tkA (i := 32) (oi := ⟨some 119, _, _, _, _, _⟩) (v := (.bool false)) rfl (Or.inl ⟨by rfl, fun w' hSw => by go_simp⟩) ?_
  try simp only [Act.put, pA, pB, pC]
  refine wpAnyH_done (by kernel_rfl) ?_ _
  obtain ⟨hn, hm, hen, hk1, hk8, hn66, hsum, hq6, hN1, htn1, hpp9, htn, hsm, hv3, hh1, hh3⟩ := HNUM.out
  clear HNUM
  clear hHeld HCM te6 tsq tD1 tD0 tD00 tmo tmw tr0 tmn HML HMY
  as_aux_lemma =>
   have hC0 : 0 < C := hC1
   have hkk0 : 0 < kk := hk1
   have HCC := hide (fun W h1 => K.copyChain_any (x : Int) (y : Int) (q : Int) (kk : Int) A n c F W (by omega) h1)
   have HCB := hide (fun W h1 => copyInts_own Q m e B W (by omega) h1)
   have HSN := hide (fun A' C' c' e' W h1 h2 => K.Sent_ok x y q kk n m vv A' C' c' e' F B W HOK.out hv3 h1 h2)
   have hub : ∀ j, IsBit (K.sentF x y q n F m B vv j) := fun j => by rw [K.sentF_code]; exact K.codeF_bit _ _ _ _ _ _ _ _
   obtain ⟨U, hU⟩ : ∃ z, K.sentF x y q n F m B vv = z := ⟨_, rfl⟩
   simp only [hU] at HSN hub
   have HUB := hide hub
   have HUE := hide hU
   clear hU hub
   go_upto_region 8 with fail
   refine wp_region_held_drew (S := fun w' => w'.cell? ⟨b4, 0, none⟩ = some (.int .i64 (x : Int)) ∧ w'.cell? ⟨b4, 1, none⟩ = some (.int .i64 (y : Int)) ∧ w'.cell? ⟨b4, 2, none⟩ = some (.int .i64 (q : Int)) ∧ w'.cell? ⟨b4, 3, none⟩ = some (.slice A n c) ∧ w'.cell? ⟨b4, 4, none⟩ = some (.int .i64 (kk : Int)) ∧ w'.cell? ⟨b1, 5, none⟩ = some (.int .i64 (vv : Int))) (by kernel_rfl) ⟨HC.out.at_ 0, HC.out.at_ 1, HC.out.at_ 2, HC.out.at_ 3, HC.out.at_ 4, HX.out.at_ 5⟩ (fun hHeld => ?_)
   obtain ⟨w_1081, hw_1081⟩ : ∃ q : World, q = w_1072.drew := ⟨_, rfl⟩
   rw [← hw_1081] at hHeld ⊢
   have hc_1081 : Below w_1072.heap.size w_1072 w_1081 := by rw [hw_1081]; exact (Below.refl _ _).drew
   clear hw_1081
   replace HFF := hide (HFF.out.below hc_1081)
   replace HTT := hide (HTT.out.below hc_1081)
   replace HSS := hide (HSS.out.below hc_1081)
   replace HMM := hide (HMM.out.below hc_1081)
   replace HEE := hide (HEE.out.below hc_1081)
   replace HQB := hide (HQB.out.below hc_1081)
   replace HX := hide (HX.out.below hc_1081)
   replace HC := hide (HC.out.below hc_1081)
   replace HB := hide (HB.out.trans (hc_1081.mono HB.out.size))
   clear hc_1081
   refine tkA (i := 0) (oi := ⟨some 121, _, _, _, _, _⟩) (v := ?_) rfl (Or.inl ⟨by rfl, ?_⟩) ?_
   rotate_left
   · (intro w' hSw; (try dsimp only at hSw); go_simp <;> (with_reducible rfl))
   try simp only [Act.put, pA, pB, pC]
   refine tkA (i := 2) (oi := ⟨some 123, _, _, _, _, _⟩) (v := ?_) rfl (Or.inl ⟨by rfl, ?_⟩) ?_
   rotate_left
   · (intro w' hSw; (try dsimp only at hSw); go_simp <;> (with_reducible rfl))
   try simp only [Act.put, pA, pB, pC]
   refine tkA (i := 4) (oi := ⟨some 125, _, _, _, _, _⟩) (v := ?_) rfl (Or.inl ⟨by rfl, ?_⟩) ?_
   rotate_left
   · (intro w' hSw; (try dsimp only at hSw); go_simp <;> (with_reducible rfl))
   try simp only [Act.put, pA, pB, pC]
   refine tkA (i := 5) (oi := ⟨some 126, _, _, _, _, _⟩) (v := ?_) rfl (Or.inl ⟨by rfl, ?_⟩) ?_
   rotate_left
   · (intro w' hSw; (try dsimp only at hSw); go_simp <;> (with_reducible rfl))
   try simp only [Act.put, pA, pB, pC]
   refine wpAnyH_ready (rs := [1]) (by kernel_rfl) (by simp) ?_
   refine AllReadyH.cons (o := ⟨some 122, _, _, _, _, _⟩) rfl (fun K' hK => ?_) AllReadyH.nil
   go_simp
   go_at_call 13
   refine (HCC.out _ HFF.out).mono ?_
   rintro e_ w_1082 ⟨Ac, ec1, rfl, hec, hic, hb_1082⟩
   replace HFF := hide (HFF.out.below hb_1082)
   replace HTT := hide (HTT.out.below hb_1082)
   replace HSS := hide (HSS.out.below hb_1082)
   replace HMM := hide (HMM.out.below hb_1082)
   replace HEE := hide (HEE.out.below hb_1082)
   replace HQB := hide (HQB.out.below hb_1082)
   replace HX := hide (HX.out.below hb_1082)
   replace HC := hide (HC.out.below hb_1082)
   replace HB := hide (HB.out.trans (hb_1082.mono HB.out.size))
   clear hb_1082
   have HIC := hide (hic.weak (Nat.zero_le _))
   go_wp2_with fail
   refine hK.out _ _ ⟨HC.out.at_ 0, HC.out.at_ 1, HC.out.at_ 2, HC.out.at_ 3, HC.out.at_ 4, HX.out.at_ 5⟩ (fun hHeld => ?_)
   clear hK K'
   try simp only [Act.put, pA, pB, pC]
   refine wpAnyH_ready (rs := [3]) (by kernel_rfl) (by simp) ?_
   refine AllReadyH.cons (o := ⟨some 124, _, _, _, _, _⟩) rfl (fun K' hK => ?_) AllReadyH.nil
   go_simp
   go_at_call 14
   refine (HCB.out _ HQB.out).mono ?_
   rintro e_ w_1083 ⟨yb, rfl, ho, hb_1083⟩
   obtain ⟨Ab, eb1, rfl, -, hib⟩ := ho.form
   replace HFF := hide (HFF.out.below hb_1083)
   replace HTT := hide (HTT.out.below hb_1083)
   replace HSS := hide (HSS.out.below hb_1083)
   replace HMM := hide (HMM.out.below hb_1083)
   replace HEE := hide (HEE.out.below hb_1083)
   replace HQB := hide (HQB.out.below hb_1083)
   replace HX := hide (HX.out.below hb_1083)
   replace HC := hide (HC.out.below hb_1083)
   replace HIC := hide (HIC.out.below hb_1083)
   replace HB := hide (HB.out.trans (hb_1083.mono HB.out.size))
   clear hb_1083
   have HIB := hide (hib.weak (Nat.zero_le _))
   go_wp2_with fail
   refine hK.out _ _ ⟨HC.out.at_ 0, HC.out.at_ 1, HC.out.at_ 2, HC.out.at_ 3, HC.out.at_ 4, HX.out.at_ 5⟩ (fun hHeld => ?_)
   clear hK K'
   try simp only [Act.put, pA, pB, pC]
   refine wpAnyH_ready (rs := [6]) (by kernel_rfl) (by simp) ?_
   refine AllReadyH.cons (o := ⟨some 127, _, _, _, _, _⟩) rfl (fun K' hK => ?_) AllReadyH.nil
   go_simp
   go_at_call 12
   refine (HSN.out Ac Ab ec1 eb1 _ HIC.out HIB.out).mono ?_
   rintro e_ w_1084 ⟨As, es1, rfl, his, hb_1084⟩
   replace HFF := hide (HFF.out.below hb_1084)
   replace HTT := hide (HTT.out.below hb_1084)
   replace HSS := hide (HSS.out.below hb_1084)
   replace HMM := hide (HMM.out.below hb_1084)
   replace HEE := hide (HEE.out.below hb_1084)
   replace HQB := hide (HQB.out.below hb_1084)
   replace HX := hide (HX.out.below hb_1084)
   replace HC := hide (HC.out.below hb_1084)
   replace HIC := hide (HIC.out.below hb_1084)
   replace HIB := hide (HIB.out.below hb_1084)
   replace HB := hide (HB.out.trans (hb_1084.mono HB.out.size))
   clear hb_1084
   have HIS := hide (his.weak (Nat.zero_le _))
   clear HIC
   clear HIB
   go_wp2_with fail
   refine hK.out _ _ ⟨HC.out.at_ 0, HC.out.at_ 1, HC.out.at_ 2, HC.out.at_ 3, HC.out.at_ 4, HX.out.at_ 5⟩ (fun hHeld => ?_)
   clear hK K'
   try simp only [Act.put, pA, pB, pC]
   refine tkA (i := 7) (oi := ⟨some 120, _, _, _, _, _⟩) (v := ?_) rfl (Or.inl ⟨by rfl, ?_⟩) ?_
   rotate_left
   · (intro w' hSw; (try dsimp only at hSw); go_simp <;> (with_reducible rfl))
   try simp only [Act.put, pA, pB, pC]
   refine tkA (i := 8) (oi := ⟨some 128, _, _, _, _, _⟩) (v := ?_) rfl (Or.inl ⟨by rfl, ?_⟩) ?_
   rotate_left
   · (intro w' hSw; (try dsimp only at hSw); go_simp <;> (with_reducible rfl))
   try simp only [Act.put, pA, pB, pC]
   refine tkA (i := 9) (oi := ⟨some 129, _, _, _, _, _⟩) (v := ?_) rfl (Or.inl ⟨by rfl, ?_⟩) ?_
   rotate_left
   · (intro w' hSw; (try dsimp only at hSw); go_simp <;> (with_reducible rfl))
   try simp only [Act.put, pA, pB, pC]
   refine tkA (i := 10) (oi := ⟨some 6, _, _, _, _, _⟩) (v := ?_) rfl (Or.inl ⟨by rfl, ?_⟩) ?_
   rotate_left
   · (intro w' hSw; (try dsimp only at hSw); go_simp <;> (with_reducible rfl))
   try simp only [Act.put, pA, pB, pC]
   refine tkA (i := 11) (oi := ⟨some 7, _, _, _, _, _⟩) (v := ?_) rfl (Or.inl ⟨by rfl, ?_⟩) ?_
   rotate_left
   · (intro w' hSw; (try dsimp only at hSw); go_simp <;> (with_reducible rfl))
   try simp only [Act.put, pA, pB, pC]
   refine wpAnyH_done (by kernel_rfl) ?_ _
   clear hHeld HCB HSN
   as_aux_lemma =>
    have t00 : ((0 : Int) != 0) = false := by decide
    have tkk : ((kk : Int) != (kk : Int)) = false := by simp
    have HBE := hide (fun W h => K.bitsErrR_any As kk es1 U W (by omega) h)
    rw [K.bitsErrR_of hkk0 (by omega) fun j _ => HUB.out j] at HBE
    obtain ⟨y7, y8⟩ := (⟨HC.out.at_ 4, HC.out.lt⟩ : _ ∧ _)
    go_wp2_with fail
    clear y7 y8
    refine (HBE.out _ HIS.out).mono ?_
    rintro e_ v19 ⟨rfl, q19, hq19⟩
    have hb19 : Below w_1084.heap.size w_1084 v19 := by rw [hq19]; exact Go.below_drewN (Below.refl _ _) _
    clear hq19
    replace HFF := hide (HFF.out.below hb19)
    replace HTT := hide (HTT.out.below hb19)
    replace HSS := hide (HSS.out.below hb19)
    replace HMM := hide (HMM.out.below hb19)
    replace HEE := hide (HEE.out.below hb19)
    replace HQB := hide (HQB.out.below hb19)
    replace HX := hide (HX.out.below hb19)
    replace HC := hide (HC.out.below hb19)
    replace HIS := hide (HIS.out.below hb19)
    replace HB := hide (HB.out.trans (hb19.mono HB.out.size))
    clear hb19
    clear HBE
    have HCO := hide (fun W (h1 : IntsAt W 0 TA tn T) (h2 : IntsAt W 0 SA (pp + 1) S) => copyOk ((pp : Int) + 1) TA SA tn tc (pp + 1) sd T S W (by omega) (by omega) htn1 (by omega) h1 h2)
    have HCU := hide (fun W h => copyInts_own As kk es1 U W (by omega) h)
    have HSC := hide (fun (A B C : Option Addr) (c d r : Nat) W h1 h2 h3 => scrOk A B C tn c pp d kk r T S U W (by omega) (by omega) (by omega) HRZ.out (bitE_ok hkk0 (by omega) fun j _ => HUB.out j) h1 h2 h3)
    have hvb : ∀ j, IsBit (xor1 (itS (pp + 1) tn T S j 0) (U j)) := fun j => xor1_bit _ _
    have HKB := hide (fun j => (HRE.out.it j).bits 0 (by omega))
    obtain ⟨key, hkey⟩ : ∃ z, (fun j => itS (pp + 1) tn T S j 0) = z := ⟨_, rfl⟩
    have hkeyj := fun j => congrFun hkey j
    simp only [hkeyj] at HKB HSC hvb
    have HKEY := hide hkey
    obtain ⟨V, hV⟩ : ∃ z, (fun j => xor1 (key j) (U j)) = z := ⟨_, rfl⟩
    have hVj := fun j => congrFun hV j
    simp only [hVj] at HSC hvb
    have HVB := hide hvb
    have HVE := hide hVj
    clear hkeyj hkey hV hVj hvb
    obtain ⟨y9, y10, y11, y12, y13, y14⟩ := (⟨HC.out.at_ 4, HC.out.lt, HX.out.at_ 6, HX.out.at_ 7, HX.out.at_ 8, HX.out.lt⟩ : _ ∧ _ ∧ _ ∧ _ ∧ _ ∧ _)
    go_wp2_with fail
    clear y9 y10 y11 y12 y13 y14
    refine (HCO.out _ HTT.out HSS.out).mono ?_
    rintro e_ v20 ⟨ga, fa, gb, fb, rfl, ht1, hs1, hb20⟩
    replace HFF := hide (HFF.out.below hb20)
    replace HTT := hide (HTT.out.below hb20)
    replace HSS := hide (HSS.out.below hb20)
    replace HMM := hide (HMM.out.below hb20)
    replace HEE := hide (HEE.out.below hb20)
    replace HQB := hide (HQB.out.below hb20)
    replace HX := hide (HX.out.below hb20)
    replace HC := hide (HC.out.below hb20)
    replace HIS := hide (HIS.out.below hb20)
    replace HB := hide (HB.out.trans (hb20.mono HB.out.size))
    clear hb20
    have HCT := hide ht1
    clear ht1
    have HCS := hide hs1
    clear hs1
    go_wp2_with fail
    refine (HCU.out _ HIS.out).mono ?_
    rintro e_ v21 ⟨yu, rfl, ho, hb21⟩
    obtain ⟨Au, eu, rfl, -, hiu⟩ := ho.form
    replace HFF := hide (HFF.out.below hb21)
    replace HTT := hide (HTT.out.below hb21)
    replace HSS := hide (HSS.out.below hb21)
    replace HMM := hide (HMM.out.below hb21)
    replace HEE := hide (HEE.out.below hb21)
    replace HQB := hide (HQB.out.below hb21)
    replace HX := hide (HX.out.below hb21)
    replace HC := hide (HC.out.below hb21)
    replace HIS := hide (HIS.out.below hb21)
    replace HCT := hide (HCT.out.below hb21)
    replace HCS := hide (HCS.out.below hb21)
    replace HB := hide (HB.out.trans (hb21.mono HB.out.size))
    clear hb21
    have HIU := hide (hiu.weak (Nat.zero_le _))
    clear ho hiu HCU
    go_wp2_with fail
    refine (HSC.out _ _ Au fa fb eu _ HCT.out HCS.out HIU.out).mono ?_
    rintro e_ v22 ⟨gv, rfl, hvv, hb22⟩
    replace HFF := hide (HFF.out.below hb22)
    replace HTT := hide (HTT.out.below hb22)
    replace HSS := hide (HSS.out.below hb22)
    replace HMM := hide (HMM.out.below hb22)
    replace HEE := hide (HEE.out.below hb22)
    replace HQB := hide (HQB.out.below hb22)
    replace HX := hide (HX.out.below hb22)
    replace HC := hide (HC.out.below hb22)
    replace HIS := hide (HIS.out.below hb22)
    replace HCT := hide (HCT.out.below hb22)
    replace HCS := hide (HCS.out.below hb22)
    replace HIU := hide (HIU.out.below hb22)
    replace HB := hide (HB.out.trans (hb22.mono HB.out.size))
    clear hb22
    have HIV := hide hvv
    clear hvv
    clear HCT HCS HIU
    clear HSC
    go_wp2_with fail
    have HBE := hide (fun W h => BitsErr_any (some ⟨gv, 0, none⟩) kk kk V W (by omega) h)
    rw [bitE_ok hkk0 (by omega) fun j _ => HVB.out j] at HBE
    refine (HBE.out _ HIV.out).mono ?_
    rintro e_ v23 ⟨rfl, q23, hq23⟩
    have hb23 : Below v22.heap.size v22 v23 := by rw [hq23]; exact Go.below_drewN (Below.refl _ _) _
    clear hq23
    replace HFF := hide (HFF.out.below hb23)
    replace HTT := hide (HTT.out.below hb23)
    replace HSS := hide (HSS.out.below hb23)
    replace HMM := hide (HMM.out.below hb23)
    replace HEE := hide (HEE.out.below hb23)
    replace HQB := hide (HQB.out.below hb23)
    replace HX := hide (HX.out.below hb23)
    replace HC := hide (HC.out.below hb23)
    replace HIS := hide (HIS.out.below hb23)
    replace HIV := hide (HIV.out.below hb23)
    replace HB := hide (HB.out.trans (hb23.mono HB.out.size))
    clear hb23
    clear HBE
    have HCV := hide (fun W h => copyInts_own (some ⟨gv, 0, none⟩) kk kk V W (by omega) h)
    have HMR := hide (fun q f W hf hf9 hi => (Modulated_right h q C kk f V W hh1 hh3 HKC.out (by omega) hf hf9 hi (modE_ok hh1 hh3 HKC.out hkk0 (by omega) fun j _ => HVB.out j)).mono (R' := fun e w' => ∃ v, e = .returned (.tuple #[v, .int .i64 0]) ∧ OwnGaus w' W.heap.size v C (ptF h V) ∧ Below W.heap.size W w') fun _ _ h => h)
    have HPW := hide (fun j (hj : j < C) => (show (ptF h V j).Within 100000000 by obtain ⟨a, b⟩ := ptF_le hh1 hh3 (C := C) (fun q _ => HVB.out q) hj; exact ⟨by omega, by omega⟩))
    have HPS := hide (pts_right (C := C) hh1 hh3 ⟨hC0, by omega⟩ fun q _ => HVB.out q)
    have HLP := hide (plane_in HCQ.out HPW.out hm1 (by omega) hq1 (by omega))
    have HRIN := hide (fun G ne (E : Nat → Gau) (hg : 1 ≤ G ∧ G ≤ 10000000) => lnk_right (k := 2 * (h : Int)) (g := G) (c := h) (C := C) (ne := ne) (F := V) (E := E) (ord_ok hh1 hh3) hg hh1 hh3 ⟨hC0, by omega⟩ fun q _ => HVB.out q)
    have HSGN := hide (fun G ne (E : Nat → Gau) (hg : 1 ≤ G ∧ G ≤ 10000000) j (hj : j < C * (2 * h)) => (sign_bop (g := G) (c := h) (C := C) (F := V) (R := lnkR G (ptF h V) ne E) hg hh1 hh3 (fun q _ => HVB.out q) (lnk_near hg.1) hj).2)
    have HPBD := hide (fun j (hj : j < C) => ptF_le hh1 hh3 (C := C) (fun q _ => HVB.out q) hj)
    obtain ⟨P, hP⟩ : ∃ z, ptF h V = z := ⟨_, rfl⟩
    simp only [hP] at HMR HPW HPS HLP HRIN HSGN HPBD
    clear hP
    obtain ⟨y15, y16⟩ := (⟨HC.out.at_ 4, HC.out.lt⟩ : _ ∧ _)
    go_upto_region 14 with fail
    clear y15 y16
    refine wp_region_held_drew (S := fun w' => w'.cell? ⟨b1, 9, none⟩ = some (.int .i64 (2 * (h : Int)))) (by kernel_rfl) (HX.out.at_ 9) (fun hHeld => ?_)
    obtain ⟨w_1141, hw_1141⟩ : ∃ q : World, q = v23.drew := ⟨_, rfl⟩
    rw [← hw_1141] at hHeld ⊢
    have hc_1141 : Below v23.heap.size v23 w_1141 := by rw [hw_1141]; exact (Below.refl _ _).drew
    clear hw_1141
    replace HFF := hide (HFF.out.below hc_1141)
    replace HTT := hide (HTT.out.below hc_1141)
    replace HSS := hide (HSS.out.below hc_1141)
    replace HMM := hide (HMM.out.below hc_1141)
    replace HEE := hide (HEE.out.below hc_1141)
    replace HQB := hide (HQB.out.below hc_1141)
    replace HX := hide (HX.out.below hc_1141)
    replace HC := hide (HC.out.below hc_1141)
    replace HIS := hide (HIS.out.below hc_1141)
    replace HIV := hide (HIV.out.below hc_1141)
    replace HB := hide (HB.out.trans (hc_1141.mono HB.out.size))
    clear hc_1141
    refine tkA (i := 0) (oi := ⟨some 168, _, _, _, _, _⟩) (v := ?_) rfl (Or.inl ⟨by rfl, ?_⟩) ?_
    rotate_left
    · (intro w' hSw; (try dsimp only at hSw); go_simp <;> (with_reducible rfl))
    try simp only [Act.put, pA, pB, pC]
    refine tkA (i := 1) (oi := ⟨some 169, _, _, _, _, _⟩) (v := ?_) rfl (Or.inl ⟨by rfl, ?_⟩) ?_
    rotate_left
    · (intro w' hSw; (try dsimp only at hSw); go_simp <;> (with_reducible rfl))
    try simp only [Act.put, pA, pB, pC]
    refine tkA (i := 2) (oi := ⟨some 170, _, _, _, _, _⟩) (v := ?_) rfl (Or.inl ⟨by rfl, ?_⟩) ?_
    rotate_left
    · (intro w' hSw; (try dsimp only at hSw); go_simp <;> (with_reducible rfl))
    try simp only [Act.put, pA, pB, pC]
    refine wpAnyH_ready (rs := [3]) (by kernel_rfl) (by simp) ?_
    refine AllReadyH.cons (o := ⟨some 171, _, _, _, _, _⟩) rfl (fun K' hK => ?_) AllReadyH.nil
    go_simp
    go_at_call 14
    refine (HCV.out _ HIV.out).mono ?_
    rintro e_ w_1142 ⟨yv, rfl, ho, hb_1142⟩
    obtain ⟨gw, fw, rfl, hfw, hfw9⟩ := own_form ho hkk0
    replace HFF := hide (HFF.out.below hb_1142)
    replace HTT := hide (HTT.out.below hb_1142)
    replace HSS := hide (HSS.out.below hb_1142)
    replace HMM := hide (HMM.out.below hb_1142)
    replace HEE := hide (HEE.out.below hb_1142)
    replace HQB := hide (HQB.out.below hb_1142)
    replace HX := hide (HX.out.below hb_1142)
    replace HC := hide (HC.out.below hb_1142)
    replace HIS := hide (HIS.out.below hb_1142)
    replace HIV := hide (HIV.out.below hb_1142)
    replace HB := hide (HB.out.trans (hb_1142.mono HB.out.size))
    clear hb_1142
    have HIW := hide (ho.atG (Nat.zero_le _))
    clear ho
    go_wp2_with fail
    refine hK.out _ _ (HX.out.at_ 9) (fun hHeld => ?_)
    clear hK K'
    try simp only [Act.put, pA, pB, pC]
    refine wpAnyH_ready (rs := [4]) (by kernel_rfl) (by simp) ?_
    refine AllReadyH.cons (o := ⟨some 172, _, _, _, _, _⟩) rfl (fun K' hK => ?_) AllReadyH.nil
    go_simp
    go_at_call 19
    refine (HMR.out gw fw _ hfw hfw9 HIW.out).mono ?_
    rintro e_ w_1143 ⟨yp, rfl, ho, hb_1143⟩
    obtain ⟨Ap, cp, rfl, -, hgp⟩ := ownGaus_form ho
    replace HFF := hide (HFF.out.below hb_1143)
    replace HTT := hide (HTT.out.below hb_1143)
    replace HSS := hide (HSS.out.below hb_1143)
    replace HMM := hide (HMM.out.below hb_1143)
    replace HEE := hide (HEE.out.below hb_1143)
    replace HQB := hide (HQB.out.below hb_1143)
    replace HX := hide (HX.out.below hb_1143)
    replace HC := hide (HC.out.below hb_1143)
    replace HIS := hide (HIS.out.below hb_1143)
    replace HIV := hide (HIV.out.below hb_1143)
    replace HIW := hide (HIW.out.below hb_1143)
    replace HB := hide (HB.out.trans (hb_1143.mono HB.out.size))
    clear hb_1143
    have HPP := hide (hgp.weak (lo' := 0) (Nat.zero_le _))
    clear ho hgp hfw hfw9
    clear HIW
    go_wp2_with fail
    refine hK.out _ _ (HX.out.at_ 9) (fun hHeld => ?_)
    clear hK K'
    try simp only [Act.put, pA, pB, pC]
    refine tkA (i := 5) (oi := ⟨some 167, _, _, _, _, _⟩) (v := ?_) rfl (Or.inl ⟨by rfl, ?_⟩) ?_
    rotate_left
    · (intro w' hSw; (try dsimp only at hSw); go_simp <;> (with_reducible rfl))
    try simp only [Act.put, pA, pB, pC]
    refine tkA (i := 6) (oi := ⟨some 173, _, _, _, _, _⟩) (v := ?_) rfl (Or.inl ⟨by rfl, ?_⟩) ?_
    rotate_left
    · (intro w' hSw; (try dsimp only at hSw); go_simp <;> (with_reducible rfl))
    try simp only [Act.put, pA, pB, pC]
    refine tkA (i := 7) (oi := ⟨some 174, _, _, _, _, _⟩) (v := ?_) rfl (Or.inl ⟨by rfl, ?_⟩) ?_
    rotate_left
    · (intro w' hSw; (try dsimp only at hSw); go_simp <;> (with_reducible rfl))
    try simp only [Act.put, pA, pB, pC]
    refine tkA (i := 8) (oi := ⟨some 10, _, _, _, _, _⟩) (v := ?_) rfl (Or.inl ⟨by rfl, ?_⟩) ?_
    rotate_left
    · (intro w' hSw; (try dsimp only at hSw); go_simp <;> (with_reducible rfl))
    try simp only [Act.put, pA, pB, pC]
    refine tkA (i := 9) (oi := ⟨some 11, _, _, _, _, _⟩) (v := ?_) rfl (Or.inl ⟨by rfl, ?_⟩) ?_
    rotate_left
    · (intro w' hSw; (try dsimp only at hSw); go_simp <;> (with_reducible rfl))
    try simp only [Act.put, pA, pB, pC]
    refine wpAnyH_done (by kernel_rfl) ?_ _
    clear hHeld HCV HMR
    as_aux_lemma =>
     have tCC : ((C : Int) != (C : Int)) = false := by simp
     have hh0 : ¬ (h : Int) = 0 := by omega
     have hh00 : ¬ h = 0 := by omega
     have h2h : ¬ 2 * (h : Int) = 0 := by omega
     have HSE := hide (fun W hi => SymbolsErrR_any Ap C cp P W (by omega) hi)
     simp only [HPS.out] at HSE
     obtain ⟨y17, y18, y19, y20⟩ := (⟨HC.out.at_ 4, HC.out.lt, HX.out.at_ 9, HX.out.lt⟩ : _ ∧ _ ∧ _ ∧ _)
     go_wp2_with fail
     clear y17 y18 y19 y20
     obtain ⟨y21, y22, y23, y24⟩ := (⟨HC.out.at_ 4, HC.out.lt, HX.out.at_ 9, HX.out.lt⟩ : _ ∧ _ ∧ _ ∧ _)
     refine (HSE.out _ HPP.out).mono ?_
     rintro e_ v25 ⟨rfl, hb25⟩
     replace HFF := hide (HFF.out.below hb25)
     replace HTT := hide (HTT.out.below hb25)
     replace HSS := hide (HSS.out.below hb25)
     replace HMM := hide (HMM.out.below hb25)
     replace HEE := hide (HEE.out.below hb25)
     replace HQB := hide (HQB.out.below hb25)
     replace HX := hide (HX.out.below hb25)
     replace HC := hide (HC.out.below hb25)
     replace HIS := hide (HIS.out.below hb25)
     replace HIV := hide (HIV.out.below hb25)
     replace HPP := hide (HPP.out.below hb25)
     replace HB := hide (HB.out.trans (hb25.mono HB.out.size))
     clear hb25
     clear HSE y21 y22 y23 y24
     obtain ⟨y25, y26, y27, y28⟩ := (⟨HC.out.at_ 4, HC.out.lt, HX.out.at_ 9, HX.out.lt⟩ : _ ∧ _ ∧ _ ∧ _)
     have HCP := hide (fun W hi => copyGaus_own Ap C cp P W (by omega) hi)
     have HLY := hide (fun Ag cg W hi => Layered_right mn qq Ag C cg P W hm1 (by omega) hq1 (by omega) HCQ.out (insideB_iff.2 HPW.out) hi)
     go_upto_region 17 with fail
     clear y25 y26 y27 y28
     refine wp_region_held_drew (S := fun w' => w'.cell? ⟨b1, 10, none⟩ = some (.slice (some ⟨mb, mo, none⟩) mn mc)) (by kernel_rfl) (HX.out.at_ 10) (fun hHeld => ?_)
     obtain ⟨w_1161, hw_1161⟩ : ∃ q : World, q = v25.drew := ⟨_, rfl⟩
     rw [← hw_1161] at hHeld ⊢
     have hc_1161 : Below v25.heap.size v25 w_1161 := by rw [hw_1161]; exact (Below.refl _ _).drew
     clear hw_1161
     replace HFF := hide (HFF.out.below hc_1161)
     replace HTT := hide (HTT.out.below hc_1161)
     replace HSS := hide (HSS.out.below hc_1161)
     replace HMM := hide (HMM.out.below hc_1161)
     replace HEE := hide (HEE.out.below hc_1161)
     replace HQB := hide (HQB.out.below hc_1161)
     replace HX := hide (HX.out.below hc_1161)
     replace HC := hide (HC.out.below hc_1161)
     replace HIS := hide (HIS.out.below hc_1161)
     replace HIV := hide (HIV.out.below hc_1161)
     replace HPP := hide (HPP.out.below hc_1161)
     replace HB := hide (HB.out.trans (hc_1161.mono HB.out.size))
     clear hc_1161
     refine tkA (i := 0) (oi := ⟨some 193, _, _, _, _, _⟩) (v := ?_) rfl (Or.inl ⟨by rfl, ?_⟩) ?_
     rotate_left
     · (intro w' hSw; (try dsimp only at hSw); go_simp <;> (with_reducible rfl))
     try simp only [Act.put, pA, pB, pC]
     refine tkA (i := 1) (oi := ⟨some 194, _, _, _, _, _⟩) (v := ?_) rfl (Or.inl ⟨by rfl, ?_⟩) ?_
     rotate_left
     · (intro w' hSw; (try dsimp only at hSw); go_simp <;> (with_reducible rfl))
     try simp only [Act.put, pA, pB, pC]
     refine tkA (i := 2) (oi := ⟨some 195, _, _, _, _, _⟩) (v := ?_) rfl (Or.inl ⟨by rfl, ?_⟩) ?_
     rotate_left
     · (intro w' hSw; (try dsimp only at hSw); go_simp <;> (with_reducible rfl))
     try simp only [Act.put, pA, pB, pC]
     refine tkA (i := 3) (oi := ⟨some 196, _, _, _, _, _⟩) (v := ?_) rfl (Or.inl ⟨by rfl, ?_⟩) ?_
     rotate_left
     · (intro w' hSw; (try dsimp only at hSw); go_simp <;> (with_reducible rfl))
     try simp only [Act.put, pA, pB, pC]
     refine wpAnyH_ready (rs := [4]) (by kernel_rfl) (by simp) ?_
     refine AllReadyH.cons (o := ⟨some 197, _, _, _, _, _⟩) rfl (fun K' hK => ?_) AllReadyH.nil
     go_simp
     go_at_call 22
     refine (HCP.out _ HPP.out).mono ?_
     rintro e_ w_1162 ⟨yg, rfl, ho, hb_1162⟩
     obtain ⟨Ag, cg, rfl, -, hgp⟩ := ownGaus_form ho
     replace HFF := hide (HFF.out.below hb_1162)
     replace HTT := hide (HTT.out.below hb_1162)
     replace HSS := hide (HSS.out.below hb_1162)
     replace HMM := hide (HMM.out.below hb_1162)
     replace HEE := hide (HEE.out.below hb_1162)
     replace HQB := hide (HQB.out.below hb_1162)
     replace HX := hide (HX.out.below hb_1162)
     replace HC := hide (HC.out.below hb_1162)
     replace HIS := hide (HIS.out.below hb_1162)
     replace HIV := hide (HIV.out.below hb_1162)
     replace HPP := hide (HPP.out.below hb_1162)
     replace HB := hide (HB.out.trans (hb_1162.mono HB.out.size))
     clear hb_1162
     have HGP := hide (hgp.weak (lo' := 0) (Nat.zero_le _))
     go_wp2_with fail
     refine hK.out _ _ (HX.out.at_ 10) (fun hHeld => ?_)
     clear hK K'
     try simp only [Act.put, pA, pB, pC]
     refine wpAnyH_ready (rs := [5]) (by kernel_rfl) (by simp) ?_
     refine AllReadyH.cons (o := ⟨some 198, _, _, _, _, _⟩) rfl (fun K' hK => ?_) AllReadyH.nil
     go_simp
     go_at_call 21
     refine (HLY.out Ag cg _ HGP.out).mono ?_
     rintro e_ w_1163 ⟨yl, VL, rfl, ho, hb_1163⟩
     obtain ⟨Al, cl, rfl, hll⟩ := ownP_form ho
     replace HFF := hide (HFF.out.below hb_1163)
     replace HTT := hide (HTT.out.below hb_1163)
     replace HSS := hide (HSS.out.below hb_1163)
     replace HMM := hide (HMM.out.below hb_1163)
     replace HEE := hide (HEE.out.below hb_1163)
     replace HQB := hide (HQB.out.below hb_1163)
     replace HX := hide (HX.out.below hb_1163)
     replace HC := hide (HC.out.below hb_1163)
     replace HIS := hide (HIS.out.below hb_1163)
     replace HIV := hide (HIV.out.below hb_1163)
     replace HPP := hide (HPP.out.below hb_1163)
     replace HGP := hide (HGP.out.below hb_1163)
     replace HB := hide (HB.out.trans (hb_1163.mono HB.out.size))
     clear hb_1163
     have HLL := hide (hll)
     clear HGP
     go_wp2_with fail
     refine hK.out _ _ (HX.out.at_ 10) (fun hHeld => ?_)
     clear hK K'
     try simp only [Act.put, pA, pB, pC]
     refine tkA (i := 6) (oi := ⟨some 192, _, _, _, _, _⟩) (v := ?_) rfl (Or.inl ⟨by rfl, ?_⟩) ?_
     rotate_left
     · (intro w' hSw; (try dsimp only at hSw); go_simp <;> (with_reducible rfl))
     try simp only [Act.put, pA, pB, pC]
     refine tkA (i := 7) (oi := ⟨some 199, _, _, _, _, _⟩) (v := ?_) rfl (Or.inl ⟨by rfl, ?_⟩) ?_
     rotate_left
     · (intro w' hSw; (try dsimp only at hSw); go_simp <;> (with_reducible rfl))
     try simp only [Act.put, pA, pB, pC]
     refine tkA (i := 8) (oi := ⟨some 200, _, _, _, _, _⟩) (v := ?_) rfl (Or.inl ⟨by rfl, ?_⟩) ?_
     rotate_left
     · (intro w' hSw; (try dsimp only at hSw); go_simp <;> (with_reducible rfl))
     try simp only [Act.put, pA, pB, pC]
     refine tkA (i := 9) (oi := ⟨some 12, _, _, _, _, _⟩) (v := ?_) rfl (Or.inl ⟨by rfl, ?_⟩) ?_
     rotate_left
     · (intro w' hSw; (try dsimp only at hSw); go_simp <;> (with_reducible rfl))
     try simp only [Act.put, pA, pB, pC]
     refine tkA (i := 10) (oi := ⟨some 13, _, _, _, _, _⟩) (v := ?_) rfl (Or.inl ⟨by rfl, ?_⟩) ?_
     rotate_left
     · (intro w' hSw; (try dsimp only at hSw); go_simp <;> (with_reducible rfl))
     try simp only [Act.put, pA, pB, pC]
     refine wpAnyH_done (by kernel_rfl) ?_ _
     clear hHeld HCP HLY td tdw hh0 hh00 h2h
     as_aux_lemma =>
      have tmm : ((mn : Int) != (mn : Int)) = false := by simp
      have HLE := hide (fun W hi => LayersErrR_any Al mn cl (fun _ => qq) (fun i t => P (t * mn + i)) W (by omega) (fun _ _ => by omega) hi)
      simp only [HLP.out] at HLE
      have HML := hide (fun i (hi : i < mn) => (show ML i ≤ 100000 by have h5 := HOK6.out.len i hi; rw [← HSQ.out] at h5; omega))
      have HCM := hide (fun W hi => copyAll_any (some ⟨mb, mo, none⟩) mn mc ML X W (by omega) HML.out hi)
      have HCL := hide (fun W hi => copyAll_any Al mn cl (fun _ => qq) (fun i t => P (t * mn + i)) W (by omega) (fun _ _ => by omega) hi)
      have HAP := hide (fun A C c d W h h2 => AppliedC_any A C mn mn c d ML (fun _ => qq) X (fun i t => P (t * mn + i)) W (by omega) (by omega) HML.out (fun _ _ => by omega) h h2)
      have hac := appE_cases (X := X) HR6.out HLP.out HSQ.out
      have heq := fun h => lnk_back (L := ML) (X := X) (P := P) (q := qq) (d := mn) (by omega) HSQ.out h
      simp only [← HSQ.out] at HAP
      have hec := fun (hl : laysE mn (fun _ => qq) (fun r c => gsum X (fun i t => P (t * mn + i)) r c mn) = 0) => eqE_cases (X := X) HR6.out hl HSQ.out hmn
      have hel := fun (hl : laysE mn (fun _ => qq) (fun r c => gsum X (fun i t => P (t * mn + i)) r c mn) = 0) he => lnk_lays (L := ML) (X := X) hl he
      obtain ⟨F1, hF1⟩ : ∃ z, (fun r c => gsum X (fun i t => P (t * mn + i)) r c mn) = z := ⟨_, rfl⟩
      simp only [hF1] at HAP hac hec hel heq
      obtain ⟨e1, h1⟩ : ∃ z, appE mn ML X mn (fun _ => qq) (fun i t => P (t * mn + i)) = z := ⟨_, rfl⟩
      simp only [h1] at HAP hac
      have HAC := hide hac
      have HEC := hide hec
      have HEL := hide hel
      have HEQ := hide heq
      clear hF1 h1 hac hec hel heq
      obtain ⟨y29, y30⟩ := (⟨HX.out.at_ 10, HX.out.lt⟩ : _ ∧ _)
      go_wp2_with fail
      clear y29 y30
      obtain ⟨y31, y32⟩ := (⟨HX.out.at_ 10, HX.out.lt⟩ : _ ∧ _)
      refine (HLE.out _ HLL.out).mono ?_
      rintro e_ v27 ⟨rfl, hb27⟩
      replace HFF := hide (HFF.out.below hb27)
      replace HTT := hide (HTT.out.below hb27)
      replace HSS := hide (HSS.out.below hb27)
      replace HMM := hide (HMM.out.below hb27)
      replace HEE := hide (HEE.out.below hb27)
      replace HQB := hide (HQB.out.below hb27)
      replace HX := hide (HX.out.below hb27)
      replace HC := hide (HC.out.below hb27)
      replace HIS := hide (HIS.out.below hb27)
      replace HIV := hide (HIV.out.below hb27)
      replace HPP := hide (HPP.out.below hb27)
      replace HLL := hide (HLL.out.below hb27)
      replace HB := hide (HB.out.trans (hb27.mono HB.out.size))
      clear hb27
      clear HLE y31 y32
      obtain ⟨y33, y34⟩ := (⟨HX.out.at_ 10, HX.out.lt⟩ : _ ∧ _)
      go_wp2_with fail
      clear y33 y34
      refine (HCM.out _ HMM.out).mono ?_
      rintro e_ v28 ⟨y_a, rfl, ho, hb28⟩
      obtain ⟨A_a, c_a, rfl, -, -, hm_⟩ := ho.form
      replace HFF := hide (HFF.out.below hb28)
      replace HTT := hide (HTT.out.below hb28)
      replace HSS := hide (HSS.out.below hb28)
      replace HMM := hide (HMM.out.below hb28)
      replace HEE := hide (HEE.out.below hb28)
      replace HQB := hide (HQB.out.below hb28)
      replace HX := hide (HX.out.below hb28)
      replace HC := hide (HC.out.below hb28)
      replace HIS := hide (HIS.out.below hb28)
      replace HIV := hide (HIV.out.below hb28)
      replace HPP := hide (HPP.out.below hb28)
      replace HLL := hide (HLL.out.below hb28)
      replace HB := hide (HB.out.trans (hb28.mono HB.out.size))
      clear hb28
      have HM_a := hide (hm_.weak (Nat.zero_le _))
      clear hm_ ho
      go_wp2_with fail
      refine (HCL.out _ HLL.out).mono ?_
      rintro e_ v29 ⟨y_b, rfl, ho, hb29⟩
      obtain ⟨A_b, c_b, rfl, -, -, hm_⟩ := ho.form
      replace HFF := hide (HFF.out.below hb29)
      replace HTT := hide (HTT.out.below hb29)
      replace HSS := hide (HSS.out.below hb29)
      replace HMM := hide (HMM.out.below hb29)
      replace HEE := hide (HEE.out.below hb29)
      replace HQB := hide (HQB.out.below hb29)
      replace HX := hide (HX.out.below hb29)
      replace HC := hide (HC.out.below hb29)
      replace HIS := hide (HIS.out.below hb29)
      replace HIV := hide (HIV.out.below hb29)
      replace HPP := hide (HPP.out.below hb29)
      replace HLL := hide (HLL.out.below hb29)
      replace HM_a := hide (HM_a.out.below hb29)
      replace HB := hide (HB.out.trans (hb29.mono HB.out.size))
      clear hb29
      have HM_b := hide (hm_.weak (Nat.zero_le _))
      clear hm_ ho
      go_wp2_with fail
      refine (HAP.out A_a A_b c_a c_b _ HM_a.out HM_b.out).mono ?_
      rintro e_ v30 ⟨yx, rfl, ⟨Ax, Nx, cx, rfl, hNx, hmx⟩, hb30⟩
      replace HFF := hide (HFF.out.below hb30)
      replace HTT := hide (HTT.out.below hb30)
      replace HSS := hide (HSS.out.below hb30)
      replace HMM := hide (HMM.out.below hb30)
      replace HEE := hide (HEE.out.below hb30)
      replace HQB := hide (HQB.out.below hb30)
      replace HX := hide (HX.out.below hb30)
      replace HC := hide (HC.out.below hb30)
      replace HIS := hide (HIS.out.below hb30)
      replace HIV := hide (HIV.out.below hb30)
      replace HPP := hide (HPP.out.below hb30)
      replace HLL := hide (HLL.out.below hb30)
      replace HM_a := hide (HM_a.out.below hb30)
      replace HM_b := hide (HM_b.out.below hb30)
      replace HB := hide (HB.out.trans (hb30.mono HB.out.size))
      clear hb30
      have HMX := hide hmx
      have HNX := hide hNx
      clear hmx hNx HAP HCL
      clear HM_a HM_b
      rcases HAC.out with rfl | ⟨rfl, hlx⟩
      · skip
        clear HAC HNX HEC HEL HEQ
        go_wp2_with fail
        go_ret
        exact ⟨rfl, HB.out⟩
      have hnx : Nx = mn := HNX.out.trans (if_pos rfl)
      obtain rfl : mn = Nx := hnx.symm
      clear HNX HAC hnx
      have HLX := hide hlx
      have HLE := hide (fun W hi => LayersErrR_any Ax mn cx (fun _ => qq) F1 W (by omega) (fun _ _ => by omega) hi)
      simp only [hlx] at HLE
      clear hlx
      go_wp2_with fail
      refine (HLE.out _ HMX.out).mono ?_
      rintro e_ v31 ⟨rfl, hb31⟩
      replace HFF := hide (HFF.out.below hb31)
      replace HTT := hide (HTT.out.below hb31)
      replace HSS := hide (HSS.out.below hb31)
      replace HMM := hide (HMM.out.below hb31)
      replace HEE := hide (HEE.out.below hb31)
      replace HQB := hide (HQB.out.below hb31)
      replace HX := hide (HX.out.below hb31)
      replace HC := hide (HC.out.below hb31)
      replace HIS := hide (HIS.out.below hb31)
      replace HIV := hide (HIV.out.below hb31)
      replace HPP := hide (HPP.out.below hb31)
      replace HLL := hide (HLL.out.below hb31)
      replace HMX := hide (HMX.out.below hb31)
      replace HB := hide (HB.out.trans (hb31.mono HB.out.size))
      clear hb31
      clear HLE
      have HEZ := hide (fun A C c d W h h2 => Equalized_any A C mn mn c d ML (fun _ => qq) X F1 W (by omega) (by omega) HML.out (fun _ _ => by omega) h h2)
      have HCX := hide (fun W hi => copyAll_any Ax mn cx (fun _ => qq) F1 W (by omega) (fun _ _ => by omega) hi)
      have hec := HEC.out HLX.out
      have hel := HEL.out HLX.out
      obtain ⟨e2, h2⟩ : ∃ z, eqE mn ML X mn (fun _ => qq) F1 = z := ⟨_, rfl⟩
      obtain ⟨G, hG⟩ : ∃ z, eqG mn ML X mn (fun _ => qq) F1 = z := ⟨_, rfl⟩
      have heq := HEQ.out
      simp only [h2, hG] at HEZ hec hel heq
      have HEC2 := hide hec
      have HEL2 := hide hel
      have HEQ2 := hide heq
      clear h2 hG hec hel heq HEC HEL HEQ
      obtain ⟨y35, y36⟩ := (⟨HX.out.at_ 10, HX.out.lt⟩ : _ ∧ _)
      go_wp2_with fail
      clear y35 y36
      refine (HCM.out _ HMM.out).mono ?_
      rintro e_ v32 ⟨y_c, rfl, ho, hb32⟩
      obtain ⟨A_c, c_c, rfl, -, -, hm_⟩ := ho.form
      replace HFF := hide (HFF.out.below hb32)
      replace HTT := hide (HTT.out.below hb32)
      replace HSS := hide (HSS.out.below hb32)
      replace HMM := hide (HMM.out.below hb32)
      replace HEE := hide (HEE.out.below hb32)
      replace HQB := hide (HQB.out.below hb32)
      replace HX := hide (HX.out.below hb32)
      replace HC := hide (HC.out.below hb32)
      replace HIS := hide (HIS.out.below hb32)
      replace HIV := hide (HIV.out.below hb32)
      replace HPP := hide (HPP.out.below hb32)
      replace HLL := hide (HLL.out.below hb32)
      replace HMX := hide (HMX.out.below hb32)
      replace HB := hide (HB.out.trans (hb32.mono HB.out.size))
      clear hb32
      have HM_c := hide (hm_.weak (Nat.zero_le _))
      clear hm_ ho
      go_wp2_with fail
      refine (HCX.out _ HMX.out).mono ?_
      rintro e_ v33 ⟨y_d, rfl, ho, hb33⟩
      obtain ⟨A_d, c_d, rfl, -, -, hm_⟩ := ho.form
      replace HFF := hide (HFF.out.below hb33)
      replace HTT := hide (HTT.out.below hb33)
      replace HSS := hide (HSS.out.below hb33)
      replace HMM := hide (HMM.out.below hb33)
      replace HEE := hide (HEE.out.below hb33)
      replace HQB := hide (HQB.out.below hb33)
      replace HX := hide (HX.out.below hb33)
      replace HC := hide (HC.out.below hb33)
      replace HIS := hide (HIS.out.below hb33)
      replace HIV := hide (HIV.out.below hb33)
      replace HPP := hide (HPP.out.below hb33)
      replace HLL := hide (HLL.out.below hb33)
      replace HMX := hide (HMX.out.below hb33)
      replace HM_c := hide (HM_c.out.below hb33)
      replace HB := hide (HB.out.trans (hb33.mono HB.out.size))
      clear hb33
      have HM_d := hide (hm_.weak (Nat.zero_le _))
      clear hm_ ho
      go_wp2_with fail
      refine (HEZ.out A_c A_d c_c c_d _ HM_c.out HM_d.out).mono ?_
      rintro e_ v34 ⟨yy, rfl, hg, hb34⟩
      obtain ⟨Ay, Ny, cy, rfl, hNy, hmy⟩ := hg.got
      replace HFF := hide (HFF.out.below hb34)
      replace HTT := hide (HTT.out.below hb34)
      replace HSS := hide (HSS.out.below hb34)
      replace HMM := hide (HMM.out.below hb34)
      replace HEE := hide (HEE.out.below hb34)
      replace HQB := hide (HQB.out.below hb34)
      replace HX := hide (HX.out.below hb34)
      replace HC := hide (HC.out.below hb34)
      replace HIS := hide (HIS.out.below hb34)
      replace HIV := hide (HIV.out.below hb34)
      replace HPP := hide (HPP.out.below hb34)
      replace HLL := hide (HLL.out.below hb34)
      replace HMX := hide (HMX.out.below hb34)
      replace HM_c := hide (HM_c.out.below hb34)
      replace HM_d := hide (HM_d.out.below hb34)
      replace HB := hide (HB.out.trans (hb34.mono HB.out.size))
      clear hb34
      have HNY := hide hNy
      have HMY := hide hmy
      clear hNy hmy hg HEZ HCX HCM
      clear HM_c HM_d
      by_cases he2 : e2 = 0
      case neg =>
       rcases HEC2.out with h9 | h9 | h9
       · exact absurd h9 he2
       · subst h9
         clear HEC2 HEL2 HEQ2 HNY he2
         go_wp2_with fail
         go_ret
         exact ⟨rfl, HB.out⟩
       · subst h9
         clear HEC2 HEL2 HEQ2 HNY he2
         go_wp2_with fail
         go_ret
         exact ⟨rfl, HB.out⟩
      have hny : Ny = mn := HNY.out.trans (if_pos he2)
      obtain rfl : mn = Ny := hny.symm
      clear HNY HEC2 hny
      obtain ⟨hg17, hback⟩ := HEQ2.out he2
      have hly := HEL2.out he2
      subst he2
      clear HEQ2 HEL2
      have HLY := hide hly
      have HBK := hide hback
      have hg1 := hg17.1
      have hg7 := hg17.2
      have HWG := hide (fun W => within_any G 1 10000000 W)
      simp only [withinB_yes hg17] at HWG
      clear hly hback hg17
      obtain ⟨F2, hF2⟩ : ∃ z, (fun r c => gsum (eqF mn X (detV mn ML X)) F1 r c mn) = z := ⟨_, rfl⟩
      have hF2j := fun r c => congrFun (congrFun hF2 r) c
      simp only [hF2] at HMY HLY
      simp only [hF2j] at HBK
      clear hF2 hF2j
      have HLE := hide (fun W hi => LayersErrR_any Ay mn cy (fun _ => qq) F2 W (by omega) (fun _ _ => by omega) hi)
      simp only [HLY.out] at HLE
      go_wp2_with fail
      refine (HLE.out _ HMY.out).mono ?_
      rintro e_ v35 ⟨rfl, hb35⟩
      replace HFF := hide (HFF.out.below hb35)
      replace HTT := hide (HTT.out.below hb35)
      replace HSS := hide (HSS.out.below hb35)
      replace HMM := hide (HMM.out.below hb35)
      replace HEE := hide (HEE.out.below hb35)
      replace HQB := hide (HQB.out.below hb35)
      replace HX := hide (HX.out.below hb35)
      replace HC := hide (HC.out.below hb35)
      replace HIS := hide (HIS.out.below hb35)
      replace HIV := hide (HIV.out.below hb35)
      replace HPP := hide (HPP.out.below hb35)
      replace HLL := hide (HLL.out.below hb35)
      replace HMX := hide (HMX.out.below hb35)
      replace HMY := hide (HMY.out.below hb35)
      replace HB := hide (HB.out.trans (hb35.mono HB.out.size))
      clear hb35
      go_wp2_with fail
      clear HLE
      refine (HWG.out _).mono ?_
      rintro e_ v_ ⟨rfl, rfl⟩
      go_wp2_with fail
      clear HWG
      have HCY := hide (fun W hi => copyAll_any Ay mn cy (fun _ => qq) F2 W (by omega) (fun _ _ => by omega) hi)
      have HUN := hide (fun A c W hi => unl_ok A mn c qq F2 W (by omega) (by omega) HLY.out hi)
      refine (HCY.out _ HMY.out).mono ?_
      rintro e_ v36 ⟨y_e, rfl, ho, hb36⟩
      obtain ⟨A_e, c_e, rfl, -, -, hm_⟩ := ho.form
      replace HFF := hide (HFF.out.below hb36)
      replace HTT := hide (HTT.out.below hb36)
      replace HSS := hide (HSS.out.below hb36)
      replace HMM := hide (HMM.out.below hb36)
      replace HEE := hide (HEE.out.below hb36)
      replace HQB := hide (HQB.out.below hb36)
      replace HX := hide (HX.out.below hb36)
      replace HC := hide (HC.out.below hb36)
      replace HIS := hide (HIS.out.below hb36)
      replace HIV := hide (HIV.out.below hb36)
      replace HPP := hide (HPP.out.below hb36)
      replace HLL := hide (HLL.out.below hb36)
      replace HMX := hide (HMX.out.below hb36)
      replace HMY := hide (HMY.out.below hb36)
      replace HB := hide (HB.out.trans (hb36.mono HB.out.size))
      clear hb36
      have HM_e := hide (hm_.weak (Nat.zero_le _))
      clear hm_ ho
      go_wp2_with fail
      refine (HUN.out A_e c_e _ HM_e.out).mono ?_
      rintro e_ v37 ⟨yr, rfl, hu, hb37⟩
      obtain ⟨Ar2, cr2, rfl, hgr⟩ : ∃ A c, yr = .slice A C c ∧ GausAt v37 0 A C (fun j => ⟨G * (P j).re, G * (P j).im⟩) := unl_own HCQ.out hm1 HBK.out hu
      replace HFF := hide (HFF.out.below hb37)
      replace HTT := hide (HTT.out.below hb37)
      replace HSS := hide (HSS.out.below hb37)
      replace HMM := hide (HMM.out.below hb37)
      replace HEE := hide (HEE.out.below hb37)
      replace HQB := hide (HQB.out.below hb37)
      replace HX := hide (HX.out.below hb37)
      replace HC := hide (HC.out.below hb37)
      replace HIS := hide (HIS.out.below hb37)
      replace HIV := hide (HIV.out.below hb37)
      replace HPP := hide (HPP.out.below hb37)
      replace HLL := hide (HLL.out.below hb37)
      replace HMX := hide (HMX.out.below hb37)
      replace HMY := hide (HMY.out.below hb37)
      replace HM_e := hide (HM_e.out.below hb37)
      replace HB := hide (HB.out.trans (hb37.mono HB.out.size))
      clear hb37
      have HRV := hide hgr
      clear hu hgr HUN HCY HBK
      clear HM_e HMY HMX HLL
      clear HLX HLY
      go_wp2_with fail
      as_aux_lemma =>
       refine (copyGaus_own Ar2 C cr2 (fun j => ⟨G * (P j).re, G * (P j).im⟩) _ (by omega) HRV.out).mono ?_
       rintro e_ vq ⟨yq, rfl, hol, hbq⟩
       obtain ⟨gl, cl2, rfl⟩ := hol.some_ hC0
       have HO := hide (hol.congr (G := fillL G P en E 0) fun q _ => (if_neg (Nat.not_lt_zero q)).symm)
       have HW := hide hbq
       clear hol hbq
       clear HRV
       go_upto_block 0 with fail
       go_cut [22, 23] (fun _ _ wc => Hid (OwnGaus wc v37.heap.size (.slice (some ⟨gl, 0, none⟩) C cl2) C (lnkR G P en E)) ∧ Hid (Below v37.heap.size v37 wc))
       case first =>
        go_wp2_with fail
        go_loopw [22] (fun i wr => ∃ j : Nat, j ≤ C ∧ i = .int .i64 (j : Int) ∧ Hid (OwnGaus wr v37.heap.size (.slice (some ⟨gl, 0, none⟩) C cl2) C (fillL G P en E j)) ∧ Hid (Below v37.heap.size v37 wr)) (fun i _ => C - (Go.RowKit.intOf i).toNat)
        case atStart => exact ⟨0, Nat.zero_le _, rfl, HO, HW⟩
        case round =>
         clear HO HW HB
         obtain ⟨j, hj, rfl, HO, HW⟩ := hrel
         obtain ⟨wA, rfl⟩ : ∃ x : World, x = wr := ⟨_, rfl⟩
         have HXc := hide (HX.out.below HW.out)
         by_cases hlt : j < C
         case neg =>
          obtain rfl : C = j := by omega
          have hltz : ¬ (C : Int) < (C : Int) := by omega
          have HOe := hide (HO.out.congr fun q hq => fill_last (.inl rfl) q hq)
          clear HO HXc
          go_wp2_with fail
          go_meet
          case rel => exact ⟨HOe, HW⟩
         have hltz : (j : Int) < (C : Int) := by omega
         by_cases ten0 : en = 0
         case pos =>
          have henz : ¬ (0 : Int) < (en : Int) := by omega
          have HOe := hide (HO.out.congr fun q hq => fill_last (.inr ten0) q hq)
          clear HO ten0
          obtain ⟨y37, y38⟩ := (⟨HXc.out.at_ 11, HXc.out.lt⟩ : _ ∧ _)
          go_wp2_with fail
          go_meet
          case rel => exact ⟨HOe, HW⟩
         as_aux_lemma =>
          have henz : (0 : Int) < (en : Int) := by omega
          have hen1 : 0 < en := by omega
          have ten : ¬ (en : Int) = 0 := by omega
          have HEc := hide (HEE.out.below HW.out)
          obtain ⟨ix, hix⟩ : ∃ z, j % en = z := ⟨_, rfl⟩
          have hixl : ix < en := by rw [← hix]; exact Nat.mod_lt _ hen1
          have hixz : (ix : Int) < (en : Int) := by omega
          have hix9 : ix ≤ 40 := by rw [← hix]; exact Nat.le_trans (Nat.mod_le _ _) (by omega)
          have tme : (j : Int).tmod (en : Int) = (ix : Int) := by rw [← hix, Int.tmod_eq_emod_of_nonneg (by omega)]; rfl
          have tmw : IntKind.i64.wrap (ix : Int) = (ix : Int) := IntWalk.i64_in _ (by omega)
          obtain ⟨eb, eo, rfl, -, -, -, -⟩ := HEc.out ix hixl
          have HEJ := hide (fun W1 (h : GausAt W1 0 (some ⟨eb, eo, none⟩) en E) => gausC h hixl)
          have hr := lnkR_at (G := G) (P := P) (E := E) (j := j) ten0
          rw [hix] at hr
          obtain ⟨p7a, p7b⟩ := HPBD.out j hlt
          have HOC := hide (fun W (h : OwnGaus W v37.heap.size (.slice (some ⟨gl, 0, none⟩) C cl2) C (fillL G P en E j)) => fillL_cells h hlt)
          obtain ⟨pr, hpr⟩ : ∃ z, (P j).re = z := ⟨_, rfl⟩
          obtain ⟨pi, hpi⟩ : ∃ z, (P j).im = z := ⟨_, rfl⟩
          obtain ⟨x, hx⟩ : ∃ z, E ix = z := ⟨_, rfl⟩
          simp only [hpr, hpi] at HOC p7a p7b hr
          simp only [hx] at HEJ hr
          clear hpr hpi hx hix
          have HM1 := hide (fun W => mod_any x.re (2 * G - 1) W (by omega) (by omega))
          have HM2 := hide (fun W => mod_any x.im (2 * G - 1) W (by omega) (by omega))
          obtain ⟨-, k2⟩ := err_in (g := G) (e := x.re) hg1
          obtain ⟨-, k4⟩ := err_in (g := G) (e := x.im) hg1
          obtain ⟨k1, -⟩ := err_in (g := G) (e := x.re) hg1
          obtain ⟨k3, -⟩ := err_in (g := G) (e := x.im) hg1
          obtain ⟨m1, hm1_⟩ : ∃ z, x.re % (2 * G - 1) = z := ⟨_, rfl⟩
          obtain ⟨m2, hm2_⟩ : ∃ z, x.im % (2 * G - 1) = z := ⟨_, rfl⟩
          simp only [hm1_] at HM1 k1 k2 hr
          simp only [hm2_] at HM2 k3 k4 hr
          clear hm1_ hm2_
          have q0 : IntKind.i64.wrap (2 * G) = 2 * G := IntWalk.i64_in _ (by omega)
          have q1_ : IntKind.i64.wrap (2 * G - 1) = 2 * G - 1 := IntWalk.i64_in _ (by omega)
          have q2 : IntKind.i64.wrap (m1 - G) = m1 - G := IntWalk.i64_in _ (by omega)
          have q4 : IntKind.i64.wrap (m2 - G) = m2 - G := IntWalk.i64_in _ (by omega)
          obtain ⟨ra, hra⟩ : ∃ z, m1 - G + 1 = z := ⟨_, rfl⟩
          obtain ⟨rb, hrb⟩ : ∃ z, m2 - G + 1 = z := ⟨_, rfl⟩
          rw [hra, hrb] at hr
          rw [hra] at k2
          rw [hrb] at k4
          have q3 : IntKind.i64.wrap (m1 - G + 1) = ra := by rw [hra]; exact IntWalk.i64_in _ (by omega)
          have q5 : IntKind.i64.wrap (m2 - G + 1) = rb := by rw [hrb]; exact IntWalk.i64_in _ (by omega)
          have l1 := gl_le (g := G) ⟨hg1, hg7⟩ p7a
          have l2 := gl_le (g := G) ⟨hg1, hg7⟩ p7b
          obtain ⟨u1, hu1⟩ : ∃ z, G * pr = z := ⟨_, rfl⟩
          obtain ⟨u2, hu2⟩ : ∃ z, G * pi = z := ⟨_, rfl⟩
          simp only [hu1, hu2] at HOC hr
          rw [hu1] at l1
          rw [hu2] at l2
          have HGA := hide (fun W => gaddS_any ⟨u1, u2⟩ ⟨ra, rb⟩ 9000000000 W ⟨by show -9000000000 ≤ u1 + ra ∧ u1 + ra ≤ 9000000000; omega, by show -9000000000 ≤ u2 + rb ∧ u2 + rb ≤ 9000000000; omega⟩ (by decide))
          simp only [Gau.plus] at HGA
          obtain ⟨sr, hsr⟩ : ∃ z, u1 + ra = z := ⟨_, rfl⟩
          obtain ⟨si, hsi⟩ : ∃ z, u2 + rb = z := ⟨_, rfl⟩
          simp only [hsr, hsi] at HGA hr
          have HPUT := hide (fun W (h : OwnGaus W v37.heap.size (.slice (some ⟨gl, 0, none⟩) C cl2) C (fillL G P en E j)) => h.put j ⟨sr, si⟩)
          simp only [fillL_put hr] at HPUT
          have hBA := HW.out.size
          have hglB := (HO.out.lt).1
          clear hr hra hrb hu1 hu2 hsr hsi k1 k2 k3 k4 l1 l2 p7a p7b HPBD HRIN HSGN
          obtain ⟨y39, y40⟩ := (⟨HXc.out.at_ 11, HXc.out.lt⟩ : _ ∧ _)
          go_upto_region 35 with fail
          clear y39 y40
          refine wp_region_held_drew (S := fun w' => w'.cell? ⟨b1, 11, none⟩ = some (.slice (some ⟨eb, eo, none⟩) en ec) ∧ w'.cell? ⟨eb, eo + ix * 2, none⟩ = some (.int .i64 x.re) ∧ w'.cell? ⟨eb, eo + ix * 2 + 1, none⟩ = some (.int .i64 x.im)) (by kernel_rfl) ⟨HXc.out.at_ 11, (HEJ.out _ HEc.out).1, (HEJ.out _ HEc.out).2.1⟩ (fun hHeld => ?_)
          obtain ⟨w_1281, hw_1281⟩ : ∃ q : World, q = wA.drew := ⟨_, rfl⟩
          rw [← hw_1281] at hHeld ⊢
          have hc_1281 : Below wA.heap.size wA w_1281 := by rw [hw_1281]; exact (Below.refl _ _).drew
          clear hw_1281
          replace HXc := hide (HXc.out.below hc_1281)
          replace HEc := hide (HEc.out.below hc_1281)
          replace HO := hide (HO.out.below hc_1281)
          replace HW := hide (HW.out.trans (hc_1281.mono hBA))
          replace hBA := Nat.le_trans hBA hc_1281.size
          clear hc_1281
          refine tkA (i := 0) (oi := ⟨some 296, _, _, _, _, _⟩) (v := ?_) rfl (Or.inl ⟨by rfl, ?_⟩) ?_
          rotate_left
          · (intro w' hSw; (try dsimp only at hSw); go_simp <;> (with_reducible rfl))
          try simp only [Act.put, pA, pB, pC]
          refine tkA (i := 1) (oi := ⟨some 297, _, _, _, _, _⟩) (v := ?_) rfl (Or.inl ⟨by rfl, ?_⟩) ?_
          rotate_left
          · (intro w' hSw; (try dsimp only at hSw); go_simp <;> (with_reducible rfl))
          try simp only [Act.put, pA, pB, pC]
          refine tkA (i := 2) (oi := ⟨some 298, _, _, _, _, _⟩) (v := ?_) rfl (Or.inl ⟨by rfl, ?_⟩) ?_
          rotate_left
          · (intro w' hSw; (try dsimp only at hSw); go_simp <;> (with_reducible rfl))
          try simp only [Act.put, pA, pB, pC]
          refine tkA (i := 3) (oi := ⟨some 299, _, _, _, _, _⟩) (v := ?_) rfl (Or.inl ⟨by rfl, ?_⟩) ?_
          rotate_left
          · (intro w' hSw; (try dsimp only at hSw); go_simp <;> (with_reducible rfl))
          try simp only [Act.put, pA, pB, pC]
          refine tkA (i := 4) (oi := ⟨some 300, _, _, _, _, _⟩) (v := ?_) rfl (Or.inl ⟨by rfl, ?_⟩) ?_
          rotate_left
          · (intro w' hSw; (try dsimp only at hSw); go_simp <;> (with_reducible rfl))
          try simp only [Act.put, pA, pB, pC]
          refine tkA (i := 5) (oi := ⟨some 301, _, _, _, _, _⟩) (v := ?_) rfl (Or.inl ⟨by rfl, ?_⟩) ?_
          rotate_left
          · (intro w' hSw; (try dsimp only at hSw); go_simp <;> (with_reducible rfl))
          try simp only [Act.put, pA, pB, pC]
          refine tkA (i := 6) (oi := ⟨some 302, _, _, _, _, _⟩) (v := ?_) rfl (Or.inl ⟨by rfl, ?_⟩) ?_
          rotate_left
          · (intro w' hSw; (try dsimp only at hSw); go_simp <;> (with_reducible rfl))
          try simp only [Act.put, pA, pB, pC]
          refine tkA (i := 7) (oi := ⟨some 303, _, _, _, _, _⟩) (v := ?_) rfl (Or.inl ⟨by rfl, ?_⟩) ?_
          rotate_left
          · (intro w' hSw; (try dsimp only at hSw); go_simp <;> (with_reducible rfl))
          try simp only [Act.put, pA, pB, pC]
          refine tkA (i := 8) (oi := ⟨some 304, _, _, _, _, _⟩) (v := ?_) rfl (Or.inl ⟨by rfl, ?_⟩) ?_
          rotate_left
          · (intro w' hSw; (try dsimp only at hSw); go_simp <;> (with_reducible rfl))
          try simp only [Act.put, pA, pB, pC]
          refine wpAnyH_ready (rs := [9]) (by kernel_rfl) (by simp) ?_
          refine AllReadyH.cons (o := ⟨some 23, _, _, _, _, _⟩) rfl (fun K' hK => ?_) AllReadyH.nil
          go_simp
          obtain ⟨gd, hgd⟩ : ∃ q, w_1281.heap.size = q := ⟨_, rfl⟩
          have hl_e : eb < gd := by rw [← hgd]; exact gausLt HEc.out hen1
          have hl_x : b1 < gd := by rw [← hgd]; exact HXc.out.lt
          have hl_o : gl < gd := by rw [← hgd]; exact (HO.out.lt).2
          have hl_w : v37.heap.size ≤ gd := by rw [← hgd]; exact hBA
          obtain ⟨w_1282, hw_1282⟩ : ∃ q : World, q = w_1281.alloc (.cells #[.int .i64 0, .int .i64 0] 62) := ⟨_, rfl⟩
          try rw [← hw_1282]
          have HD := hide (show Box w_1282 gd 62 #[.int .i64 0, .int .i64 0] by rw [hw_1282]; exact Box.made hgd.symm)
          have hc_1282 : Below w_1281.heap.size w_1281 w_1282 := by rw [hw_1282]; exact (Below.refl _ _).alloc (Nat.le_refl _) _
          clear hw_1282
          replace HXc := hide (HXc.out.below hc_1282)
          replace HEc := hide (HEc.out.below hc_1282)
          replace HO := hide (HO.out.below hc_1282)
          replace HW := hide (HW.out.trans (hc_1282.mono hBA))
          replace hBA := Nat.le_trans hBA hc_1282.size
          clear hc_1282
          try simp only [hgd]
          clear hgd
          refine hK.out _ _ ⟨HXc.out.at_ 11, (HEJ.out _ HEc.out).1, (HEJ.out _ HEc.out).2.1⟩ (fun hHeld => ?_)
          clear hK K'
          try simp only [Act.put, pA, pB, pC]
          refine wpAnyH_ready (rs := [10]) (by kernel_rfl) (by simp) ?_
          refine AllReadyH.cons (o := ⟨none, _, _, _, _, _⟩) rfl (fun K' hK => ?_) AllReadyH.nil
          obtain ⟨z0, z1, k0, k1, hlz⟩ := HD.out.t2
          go_simp
          clear z0 z1 k0 k1 hlz
          replace HXc := hide ((HXc.out.other (p := ⟨gd, 0, none⟩) (by show b1 ≠ gd; omega) (.int .i64 x.re)).other (p := ⟨gd, 1, none⟩) (by show b1 ≠ gd; omega) (.int .i64 x.im))
          replace HEc := hide (gausOther (gausOther (p := gd) (f := 0) HEc.out hl_e (.int .i64 x.re)) (p := gd) (f := 1) hl_e (.int .i64 x.im))
          replace HO := hide ((HO.out.other (k := gd) 0 (.int .i64 x.re) (by show some gl ≠ some gd; simp; omega)).other (k := gd) 1 (.int .i64 x.im) (by show some gl ≠ some gd; simp; omega))
          replace HD := hide (HD.out.t2put (.int .i64 x.re) (.int .i64 x.im))
          replace HW := hide ((HW.out.setCell (p := ⟨gd, 0, none⟩) hl_w (.int .i64 x.re)).setCell (p := ⟨gd, 1, none⟩) hl_w (.int .i64 x.im))
          obtain ⟨w_1283, hw_1283⟩ : ∃ q : World, (w_1282.setCell ⟨gd, 0, none⟩ (.int .i64 x.re)).setCell ⟨gd, 1, none⟩ (.int .i64 x.im) = q := ⟨_, rfl⟩
          rw [hw_1283] at HXc HEc HO HD HW ⊢
          replace hBA := HW.out.size
          clear hw_1283
          refine hK.out _ _ ⟨HXc.out.at_ 11, (HEJ.out _ HEc.out).1, (HEJ.out _ HEc.out).2.1⟩ (fun hHeld => ?_)
          clear hK K'
          try simp only [Act.put, pA, pB, pC]
          refine wpAnyH_done (by kernel_rfl) ?_ _
          clear hHeld HEJ HXc HEc tme tmw
          go_upto_region 36 with fail
          refine wp_region_held_drew (S := fun w' => w'.cell? ⟨gd, 0, none⟩ = some (.int .i64 x.re) ∧ w'.cell? ⟨gd, 1, none⟩ = some (.int .i64 x.im)) (by kernel_rfl) ⟨HD.out.t2.1, HD.out.t2.2.1⟩ (fun hHeld => ?_)
          obtain ⟨w_1284, hw_1284⟩ : ∃ q : World, q = w_1283.drew := ⟨_, rfl⟩
          rw [← hw_1284] at hHeld ⊢
          have hc_1284 : Below w_1283.heap.size w_1283 w_1284 := by rw [hw_1284]; exact (Below.refl _ _).drew
          clear hw_1284
          replace HO := hide (HO.out.below hc_1284)
          replace HD := hide (HD.out.below hc_1284)
          replace HW := hide (HW.out.trans (hc_1284.mono hBA))
          replace hBA := Nat.le_trans hBA hc_1284.size
          clear hc_1284
          refine tkA (i := 0) (oi := ⟨some 305, _, _, _, _, _⟩) (v := ?_) rfl (Or.inl ⟨by rfl, ?_⟩) ?_
          rotate_left
          · (intro w' hSw; (try dsimp only at hSw); go_simp <;> (with_reducible rfl))
          try simp only [Act.put, pA, pB, pC]
          refine tkA (i := 1) (oi := ⟨some 306, _, _, _, _, _⟩) (v := ?_) rfl (Or.inl ⟨by rfl, ?_⟩) ?_
          rotate_left
          · (intro w' hSw; (try dsimp only at hSw); go_simp <;> (with_reducible rfl))
          try simp only [Act.put, pA, pB, pC]
          refine tkA (i := 2) (oi := ⟨some 307, _, _, _, _, _⟩) (v := ?_) rfl (Or.inl ⟨by rfl, ?_⟩) ?_
          rotate_left
          · (intro w' hSw; (try dsimp only at hSw); go_simp <;> (with_reducible rfl))
          try simp only [Act.put, pA, pB, pC]
          refine tkA (i := 3) (oi := ⟨some 308, _, _, _, _, _⟩) (v := ?_) rfl (Or.inl ⟨by rfl, ?_⟩) ?_
          rotate_left
          · (intro w' hSw; (try dsimp only at hSw); go_simp <;> (with_reducible rfl))
          try simp only [Act.put, pA, pB, pC]
          refine tkA (i := 4) (oi := ⟨some 309, _, _, _, _, _⟩) (v := ?_) rfl (Or.inl ⟨by rfl, ?_⟩) ?_
          rotate_left
          · (intro w' hSw; (try dsimp only at hSw); go_simp <;> (with_reducible rfl))
          try simp only [Act.put, pA, pB, pC]
          refine tkA (i := 6) (oi := ⟨some 311, _, _, _, _, _⟩) (v := ?_) rfl (Or.inl ⟨by rfl, ?_⟩) ?_
          rotate_left
          · (intro w' hSw; (try dsimp only at hSw); go_simp <;> (with_reducible rfl))
          try simp only [Act.put, pA, pB, pC]
          refine tkA (i := 7) (oi := ⟨some 312, _, _, _, _, _⟩) (v := ?_) rfl (Or.inl ⟨by rfl, ?_⟩) ?_
          rotate_left
          · (intro w' hSw; (try dsimp only at hSw); go_simp <;> (with_reducible rfl))
          try simp only [Act.put, pA, pB, pC]
          refine tkA (i := 8) (oi := ⟨some 313, _, _, _, _, _⟩) (v := ?_) rfl (Or.inl ⟨by rfl, ?_⟩) ?_
          rotate_left
          · (intro w' hSw; (try dsimp only at hSw); go_simp <;> (with_reducible rfl))
          try simp only [Act.put, pA, pB, pC]
          refine tkA (i := 9) (oi := ⟨some 314, _, _, _, _, _⟩) (v := ?_) rfl (Or.inl ⟨by rfl, ?_⟩) ?_
          rotate_left
          · (intro w' hSw; (try dsimp only at hSw); go_simp <;> (with_reducible rfl))
          try simp only [Act.put, pA, pB, pC]
          refine tkA (i := 10) (oi := ⟨some 315, _, _, _, _, _⟩) (v := ?_) rfl (Or.inl ⟨by rfl, ?_⟩) ?_
          rotate_left
          · (intro w' hSw; (try dsimp only at hSw); go_simp <;> (with_reducible rfl))
          try simp only [Act.put, pA, pB, pC]
          refine tkA (i := 12) (oi := ⟨some 317, _, _, _, _, _⟩) (v := ?_) rfl (Or.inl ⟨by rfl, ?_⟩) ?_
          rotate_left
          · (intro w' hSw; (try dsimp only at hSw); go_simp <;> (with_reducible rfl))
          try simp only [Act.put, pA, pB, pC]
          refine tkA (i := 15) (oi := ⟨some 320, _, _, _, _, _⟩) (v := ?_) rfl (Or.inl ⟨by rfl, ?_⟩) ?_
          rotate_left
          · (intro w' hSw; (try dsimp only at hSw); go_simp <;> (with_reducible rfl))
          try simp only [Act.put, pA, pB, pC]
          refine tkA (i := 16) (oi := ⟨some 321, _, _, _, _, _⟩) (v := ?_) rfl (Or.inl ⟨by rfl, ?_⟩) ?_
          rotate_left
          · (intro w' hSw; (try dsimp only at hSw); go_simp <;> (with_reducible rfl))
          try simp only [Act.put, pA, pB, pC]
          refine tkA (i := 17) (oi := ⟨some 322, _, _, _, _, _⟩) (v := ?_) rfl (Or.inl ⟨by rfl, ?_⟩) ?_
          rotate_left
          · (intro w' hSw; (try dsimp only at hSw); go_simp <;> (with_reducible rfl))
          try simp only [Act.put, pA, pB, pC]
          refine tkA (i := 18) (oi := ⟨some 323, _, _, _, _, _⟩) (v := ?_) rfl (Or.inl ⟨by rfl, ?_⟩) ?_
          rotate_left
          · (intro w' hSw; (try dsimp only at hSw); go_simp <;> (with_reducible rfl))
          try simp only [Act.put, pA, pB, pC]
          refine tkA (i := 19) (oi := ⟨some 324, _, _, _, _, _⟩) (v := ?_) rfl (Or.inl ⟨by rfl, ?_⟩) ?_
          rotate_left
          · (intro w' hSw; (try dsimp only at hSw); go_simp <;> (with_reducible rfl))
          try simp only [Act.put, pA, pB, pC]
          refine tkA (i := 21) (oi := ⟨some 326, _, _, _, _, _⟩) (v := ?_) rfl (Or.inl ⟨by rfl, ?_⟩) ?_
          rotate_left
          · (intro w' hSw; (try dsimp only at hSw); go_simp <;> (with_reducible rfl))
          try simp only [Act.put, pA, pB, pC]
          refine wpAnyH_ready (rs := [5, 11]) (by kernel_rfl) (by simp) ?_
          refine AllReadyH.cons (o := ⟨some 310, _, _, _, _, _⟩) rfl (fun K' hK => ?_) (AllReadyH.cons (o := ⟨some 316, _, _, _, _, _⟩) rfl (fun K' hK => ?_) AllReadyH.nil)
          · skip
            obtain ⟨c0, c1⟩ := HOC.out _ HO.out
            have hlo9 := (HO.out.lt).2
            go_simp
            clear c0 c1 hlo9
            refine hK.out _ _ ⟨HD.out.t2.1, HD.out.t2.2.1⟩ (fun hHeld => ?_)
            clear hK K'
            try simp only [Act.put, pA, pB, pC]
            refine wpAnyH_ready (rs := [11]) (by kernel_rfl) (by simp) ?_
            refine AllReadyH.cons (o := ⟨some 316, _, _, _, _, _⟩) rfl (fun K' hK => ?_) AllReadyH.nil
            go_simp
            go_at_call 30
            refine (HM1.out _).mono ?_
            rintro e_ v_ ⟨rfl, rfl⟩
            go_wp2_with fail
            refine hK.out _ _ ⟨HD.out.t2.1, HD.out.t2.2.1⟩ (fun hHeld => ?_)
            clear hK K'
            try simp only [Act.put, pA, pB, pC]
            refine tkA (i := 13) (oi := ⟨some 318, _, _, _, _, _⟩) (v := ?_) rfl (Or.inl ⟨by rfl, ?_⟩) ?_
            rotate_left
            · (intro w' hSw; (try dsimp only at hSw); go_simp <;> (with_reducible rfl))
            try simp only [Act.put, pA, pB, pC]
            refine tkA (i := 14) (oi := ⟨some 319, _, _, _, _, _⟩) (v := ?_) rfl (Or.inl ⟨by rfl, ?_⟩) ?_
            rotate_left
            · (intro w' hSw; (try dsimp only at hSw); go_simp <;> (with_reducible rfl))
            try simp only [Act.put, pA, pB, pC]
            refine wpAnyH_ready (rs := [20]) (by kernel_rfl) (by simp) ?_
            refine AllReadyH.cons (o := ⟨some 325, _, _, _, _, _⟩) rfl (fun K' hK => ?_) AllReadyH.nil
            go_simp
            go_at_call 30
            refine (HM2.out _).mono ?_
            rintro e_ v_ ⟨rfl, rfl⟩
            go_wp2_with fail
            refine hK.out _ _ ⟨HD.out.t2.1, HD.out.t2.2.1⟩ (fun hHeld => ?_)
            clear hK K'
            try simp only [Act.put, pA, pB, pC]
            refine tkA (i := 22) (oi := ⟨some 327, _, _, _, _, _⟩) (v := ?_) rfl (Or.inl ⟨by rfl, ?_⟩) ?_
            rotate_left
            · (intro w' hSw; (try dsimp only at hSw); go_simp <;> (with_reducible rfl))
            try simp only [Act.put, pA, pB, pC]
            refine tkA (i := 23) (oi := ⟨some 328, _, _, _, _, _⟩) (v := ?_) rfl (Or.inl ⟨by rfl, ?_⟩) ?_
            rotate_left
            · (intro w' hSw; (try dsimp only at hSw); go_simp <;> (with_reducible rfl))
            try simp only [Act.put, pA, pB, pC]
            refine tkA (i := 24) (oi := ⟨some 329, _, _, _, _, _⟩) (v := ?_) rfl (Or.inl ⟨by rfl, ?_⟩) ?_
            rotate_left
            · (intro w' hSw; (try dsimp only at hSw); go_simp <;> (with_reducible rfl))
            try simp only [Act.put, pA, pB, pC]
            refine wpAnyH_ready (rs := [25]) (by kernel_rfl) (by simp) ?_
            refine AllReadyH.cons (o := ⟨some 330, _, _, _, _, _⟩) rfl (fun K' hK => ?_) AllReadyH.nil
            go_simp
            go_at_call 29
            refine (HGA.out _).mono ?_
            rintro e_ w_1285 ⟨rfl, hb_1285⟩
            replace HO := hide (HO.out.below hb_1285)
            replace HD := hide (HD.out.below hb_1285)
            replace HW := hide (HW.out.trans (hb_1285.mono hBA))
            replace hBA := Nat.le_trans hBA hb_1285.size
            clear hb_1285
            go_wp2_with fail
            refine hK.out _ _ ⟨HD.out.t2.1, HD.out.t2.2.1⟩ (fun hHeld => ?_)
            clear hK K'
            try simp only [Act.put, pA, pB, pC]
            refine tkA (i := 26) (oi := ⟨some 331, _, _, _, _, _⟩) (v := ?_) rfl (Or.inl ⟨by rfl, ?_⟩) ?_
            rotate_left
            · (intro w' hSw; (try dsimp only at hSw); go_simp <;> (with_reducible rfl))
            try simp only [Act.put, pA, pB, pC]
            refine wpAnyH_ready (rs := [27]) (by kernel_rfl) (by simp) ?_
            refine AllReadyH.cons (o := ⟨none, _, _, _, _, _⟩) rfl (fun K' hK => ?_) AllReadyH.nil
            obtain ⟨f1, f2⟩ := HO.out.frozen2 j
            obtain ⟨c0, c1⟩ := HOC.out _ HO.out
            have hlo9 := (HO.out.lt).2
            go_simp
            clear f1 f2 c0 c1 hlo9
            have HO2 := hide (HPUT.out _ HO.out)
            replace HW := hide ((HW.out.setCell (p := ⟨gl, j * 2, none⟩) hglB (.int .i64 sr)).setCell (p := ⟨gl, j * 2 + 1, none⟩) hglB (.int .i64 si))
            replace HD := hide ((HD.out.other (p := ⟨gl, j * 2, none⟩) (by show gd ≠ gl; omega) (.int .i64 sr)).other (p := ⟨gl, j * 2 + 1, none⟩) (by show gd ≠ gl; omega) (.int .i64 si))
            obtain ⟨w_1286, hw_1286⟩ : ∃ q : World, (w_1285.setCell ⟨gl, j * 2, none⟩ (.int .i64 sr)).setCell ⟨gl, j * 2 + 1, none⟩ (.int .i64 si) = q := ⟨_, rfl⟩
            rw [hw_1286] at HO2 HD HW ⊢
            clear hw_1286 HO
            refine hK.out _ _ ⟨HD.out.t2.1, HD.out.t2.2.1⟩ (fun hHeld => ?_)
            clear hK K'
            try simp only [Act.put, pA, pB, pC]
            refine wpAnyH_done (by kernel_rfl) ?_ _
            clear hHeld HOC HPUT HD
            go_wp2_with fail
            go_roundw
            case rel => exact ⟨j + 1, by omega, by go_num, HO2, HW⟩
            case measure => simp [Go.RowKit.intOf]; omega
          · skip
            go_simp
            go_at_call 30
            refine (HM1.out _).mono ?_
            rintro e_ v_ ⟨rfl, rfl⟩
            go_wp2_with fail
            refine hK.out _ _ ⟨HD.out.t2.1, HD.out.t2.2.1⟩ (fun hHeld => ?_)
            clear hK K'
            try simp only [Act.put, pA, pB, pC]
            refine tkA (i := 13) (oi := ⟨some 318, _, _, _, _, _⟩) (v := ?_) rfl (Or.inl ⟨by rfl, ?_⟩) ?_
            rotate_left
            · (intro w' hSw; (try dsimp only at hSw); go_simp <;> (with_reducible rfl))
            try simp only [Act.put, pA, pB, pC]
            refine tkA (i := 14) (oi := ⟨some 319, _, _, _, _, _⟩) (v := ?_) rfl (Or.inl ⟨by rfl, ?_⟩) ?_
            rotate_left
            · (intro w' hSw; (try dsimp only at hSw); go_simp <;> (with_reducible rfl))
            try simp only [Act.put, pA, pB, pC]
            refine wpAnyH_ready (rs := [5, 20]) (by kernel_rfl) (by simp) ?_
            refine AllReadyH.cons (o := ⟨some 310, _, _, _, _, _⟩) rfl (fun K' hK => ?_) (AllReadyH.cons (o := ⟨some 325, _, _, _, _, _⟩) rfl (fun K' hK => ?_) AllReadyH.nil)
            · skip
              obtain ⟨c0, c1⟩ := HOC.out _ HO.out
              have hlo9 := (HO.out.lt).2
              go_simp
              clear c0 c1 hlo9
              refine hK.out _ _ ⟨HD.out.t2.1, HD.out.t2.2.1⟩ (fun hHeld => ?_)
              clear hK K'
              try simp only [Act.put, pA, pB, pC]
              refine wpAnyH_ready (rs := [20]) (by kernel_rfl) (by simp) ?_
              refine AllReadyH.cons (o := ⟨some 325, _, _, _, _, _⟩) rfl (fun K' hK => ?_) AllReadyH.nil
              go_simp
              go_at_call 30
              refine (HM2.out _).mono ?_
              rintro e_ v_ ⟨rfl, rfl⟩
              go_wp2_with fail
              refine hK.out _ _ ⟨HD.out.t2.1, HD.out.t2.2.1⟩ (fun hHeld => ?_)
              clear hK K'
              try simp only [Act.put, pA, pB, pC]
              refine tkA (i := 22) (oi := ⟨some 327, _, _, _, _, _⟩) (v := ?_) rfl (Or.inl ⟨by rfl, ?_⟩) ?_
              rotate_left
              · (intro w' hSw; (try dsimp only at hSw); go_simp <;> (with_reducible rfl))
              try simp only [Act.put, pA, pB, pC]
              refine tkA (i := 23) (oi := ⟨some 328, _, _, _, _, _⟩) (v := ?_) rfl (Or.inl ⟨by rfl, ?_⟩) ?_
              rotate_left
              · (intro w' hSw; (try dsimp only at hSw); go_simp <;> (with_reducible rfl))
              try simp only [Act.put, pA, pB, pC]
              refine tkA (i := 24) (oi := ⟨some 329, _, _, _, _, _⟩) (v := ?_) rfl (Or.inl ⟨by rfl, ?_⟩) ?_
              rotate_left
              · (intro w' hSw; (try dsimp only at hSw); go_simp <;> (with_reducible rfl))
              try simp only [Act.put, pA, pB, pC]
              refine wpAnyH_ready (rs := [25]) (by kernel_rfl) (by simp) ?_
              refine AllReadyH.cons (o := ⟨some 330, _, _, _, _, _⟩) rfl (fun K' hK => ?_) AllReadyH.nil
              go_simp
              go_at_call 29
              refine (HGA.out _).mono ?_
              rintro e_ w_1287 ⟨rfl, hb_1287⟩
              replace HO := hide (HO.out.below hb_1287)
              replace HD := hide (HD.out.below hb_1287)
              replace HW := hide (HW.out.trans (hb_1287.mono hBA))
              replace hBA := Nat.le_trans hBA hb_1287.size
              clear hb_1287
              go_wp2_with fail
              refine hK.out _ _ ⟨HD.out.t2.1, HD.out.t2.2.1⟩ (fun hHeld => ?_)
              clear hK K'
              try simp only [Act.put, pA, pB, pC]
              refine tkA (i := 26) (oi := ⟨some 331, _, _, _, _, _⟩) (v := ?_) rfl (Or.inl ⟨by rfl, ?_⟩) ?_
              rotate_left
              · (intro w' hSw; (try dsimp only at hSw); go_simp <;> (with_reducible rfl))
              try simp only [Act.put, pA, pB, pC]
              refine wpAnyH_ready (rs := [27]) (by kernel_rfl) (by simp) ?_
              refine AllReadyH.cons (o := ⟨none, _, _, _, _, _⟩) rfl (fun K' hK => ?_) AllReadyH.nil
              obtain ⟨f1, f2⟩ := HO.out.frozen2 j
              obtain ⟨c0, c1⟩ := HOC.out _ HO.out
              have hlo9 := (HO.out.lt).2
              go_simp
              clear f1 f2 c0 c1 hlo9
              have HO2 := hide (HPUT.out _ HO.out)
              replace HW := hide ((HW.out.setCell (p := ⟨gl, j * 2, none⟩) hglB (.int .i64 sr)).setCell (p := ⟨gl, j * 2 + 1, none⟩) hglB (.int .i64 si))
              replace HD := hide ((HD.out.other (p := ⟨gl, j * 2, none⟩) (by show gd ≠ gl; omega) (.int .i64 sr)).other (p := ⟨gl, j * 2 + 1, none⟩) (by show gd ≠ gl; omega) (.int .i64 si))
              obtain ⟨w_1288, hw_1288⟩ : ∃ q : World, (w_1287.setCell ⟨gl, j * 2, none⟩ (.int .i64 sr)).setCell ⟨gl, j * 2 + 1, none⟩ (.int .i64 si) = q := ⟨_, rfl⟩
              rw [hw_1288] at HO2 HD HW ⊢
              clear hw_1288 HO
              refine hK.out _ _ ⟨HD.out.t2.1, HD.out.t2.2.1⟩ (fun hHeld => ?_)
              clear hK K'
              try simp only [Act.put, pA, pB, pC]
              refine wpAnyH_done (by kernel_rfl) ?_ _
              clear hHeld HOC HPUT HD
              go_wp2_with fail
              go_roundw
              case rel => exact ⟨j + 1, by omega, by go_num, HO2, HW⟩
              case measure => simp [Go.RowKit.intOf]; omega
            · skip
              go_simp
              go_at_call 30
              refine (HM2.out _).mono ?_
              rintro e_ v_ ⟨rfl, rfl⟩
              go_wp2_with fail
              refine hK.out _ _ ⟨HD.out.t2.1, HD.out.t2.2.1⟩ (fun hHeld => ?_)
              clear hK K'
              try simp only [Act.put, pA, pB, pC]
              refine tkA (i := 22) (oi := ⟨some 327, _, _, _, _, _⟩) (v := ?_) rfl (Or.inl ⟨by rfl, ?_⟩) ?_
              rotate_left
              · (intro w' hSw; (try dsimp only at hSw); go_simp <;> (with_reducible rfl))
              try simp only [Act.put, pA, pB, pC]
              refine tkA (i := 23) (oi := ⟨some 328, _, _, _, _, _⟩) (v := ?_) rfl (Or.inl ⟨by rfl, ?_⟩) ?_
              rotate_left
              · (intro w' hSw; (try dsimp only at hSw); go_simp <;> (with_reducible rfl))
              try simp only [Act.put, pA, pB, pC]
              refine tkA (i := 24) (oi := ⟨some 329, _, _, _, _, _⟩) (v := ?_) rfl (Or.inl ⟨by rfl, ?_⟩) ?_
              rotate_left
              · (intro w' hSw; (try dsimp only at hSw); go_simp <;> (with_reducible rfl))
              try simp only [Act.put, pA, pB, pC]
              refine wpAnyH_ready (rs := [5]) (by kernel_rfl) (by simp) ?_
              refine AllReadyH.cons (o := ⟨some 310, _, _, _, _, _⟩) rfl (fun K' hK => ?_) AllReadyH.nil
              obtain ⟨c0, c1⟩ := HOC.out _ HO.out
              have hlo9 := (HO.out.lt).2
              go_simp
              clear c0 c1 hlo9
              refine hK.out _ _ ⟨HD.out.t2.1, HD.out.t2.2.1⟩ (fun hHeld => ?_)
              clear hK K'
              try simp only [Act.put, pA, pB, pC]
              refine wpAnyH_ready (rs := [25]) (by kernel_rfl) (by simp) ?_
              refine AllReadyH.cons (o := ⟨some 330, _, _, _, _, _⟩) rfl (fun K' hK => ?_) AllReadyH.nil
              go_simp
              go_at_call 29
              refine (HGA.out _).mono ?_
              rintro e_ w_1289 ⟨rfl, hb_1289⟩
              replace HO := hide (HO.out.below hb_1289)
              replace HD := hide (HD.out.below hb_1289)
              replace HW := hide (HW.out.trans (hb_1289.mono hBA))
              replace hBA := Nat.le_trans hBA hb_1289.size
              clear hb_1289
              go_wp2_with fail
              refine hK.out _ _ ⟨HD.out.t2.1, HD.out.t2.2.1⟩ (fun hHeld => ?_)
              clear hK K'
              try simp only [Act.put, pA, pB, pC]
              refine tkA (i := 26) (oi := ⟨some 331, _, _, _, _, _⟩) (v := ?_) rfl (Or.inl ⟨by rfl, ?_⟩) ?_
              rotate_left
              · (intro w' hSw; (try dsimp only at hSw); go_simp <;> (with_reducible rfl))
              try simp only [Act.put, pA, pB, pC]
              refine wpAnyH_ready (rs := [27]) (by kernel_rfl) (by simp) ?_
              refine AllReadyH.cons (o := ⟨none, _, _, _, _, _⟩) rfl (fun K' hK => ?_) AllReadyH.nil
              obtain ⟨f1, f2⟩ := HO.out.frozen2 j
              obtain ⟨c0, c1⟩ := HOC.out _ HO.out
              have hlo9 := (HO.out.lt).2
              go_simp
              clear f1 f2 c0 c1 hlo9
              have HO2 := hide (HPUT.out _ HO.out)
              replace HW := hide ((HW.out.setCell (p := ⟨gl, j * 2, none⟩) hglB (.int .i64 sr)).setCell (p := ⟨gl, j * 2 + 1, none⟩) hglB (.int .i64 si))
              replace HD := hide ((HD.out.other (p := ⟨gl, j * 2, none⟩) (by show gd ≠ gl; omega) (.int .i64 sr)).other (p := ⟨gl, j * 2 + 1, none⟩) (by show gd ≠ gl; omega) (.int .i64 si))
              obtain ⟨w_1290, hw_1290⟩ : ∃ q : World, (w_1289.setCell ⟨gl, j * 2, none⟩ (.int .i64 sr)).setCell ⟨gl, j * 2 + 1, none⟩ (.int .i64 si) = q := ⟨_, rfl⟩
              rw [hw_1290] at HO2 HD HW ⊢
              clear hw_1290 HO
              refine hK.out _ _ ⟨HD.out.t2.1, HD.out.t2.2.1⟩ (fun hHeld => ?_)
              clear hK K'
              try simp only [Act.put, pA, pB, pC]
              refine wpAnyH_done (by kernel_rfl) ?_ _
              clear hHeld HOC HPUT HD
              go_wp2_with fail
              go_roundw
              case rel => exact ⟨j + 1, by omega, by go_num, HO2, HW⟩
              case measure => simp [Go.RowKit.intOf]; omega
       case rest =>
        as_aux_lemma =>
         obtain ⟨w5, rfl⟩ : ∃ x : World, x = wc := ⟨_, rfl⟩
         clear HO HW
         obtain ⟨HO, HW⟩ := hcut
         have hbc := HW.out
         replace HFF := hide (HFF.out.below hbc)
         replace HTT := hide (HTT.out.below hbc)
         replace HSS := hide (HSS.out.below hbc)
         replace HMM := hide (HMM.out.below hbc)
         replace HEE := hide (HEE.out.below hbc)
         replace HQB := hide (HQB.out.below hbc)
         replace HX := hide (HX.out.below hbc)
         replace HC := hide (HC.out.below hbc)
         replace HIS := hide (HIS.out.below hbc)
         replace HIV := hide (HIV.out.below hbc)
         replace HPP := hide (HPP.out.below hbc)
         replace HB := hide (HB.out.trans (hbc.mono HB.out.size))
         clear hbc
         have HRL := hide (HO.out.gaus.weak (lo' := 0) (Nat.zero_le _))
         have hG17 : 1 ≤ G ∧ G ≤ 10000000 := ⟨hg1, hg7⟩
         have hrin := HRIN.out G en E hG17
         have hsgn := HSGN.out G en E hG17
         obtain ⟨RR, hRR⟩ : ∃ z, lnkR G P en E = z := ⟨_, rfl⟩
         simp only [hRR] at HRL hrin hsgn
         clear HO HW HRIN HSGN hRR
         have HRIN := hide hrin
         have HSGN := hide hsgn
         clear hrin hsgn
         as_aux_lemma =>
          obtain ⟨y41, y42⟩ := (⟨HX.out.at_ 9, HX.out.lt⟩ : _ ∧ _)
          go_upto_region 38 with fail
          clear y41 y42
          obtain ⟨v39, hv39⟩ : ∃ z : World, z = (w5.alloc (.cells #[.int .i64 (2 * (h : Int)), .int .i64 G, .slice (some ⟨gl, 0, none⟩) C cl2] 66)) := ⟨_, rfl⟩
          try rw [← hv39]
          have HZ := hide (show Box v39 (w5.heap.size) 66 #[.int .i64 (2 * (h : Int)), .int .i64 G, .slice (some ⟨gl, 0, none⟩) C cl2] by rw [hv39]; exact Box.made rfl)
          have hb39 : Below w5.heap.size w5 v39 := by rw [hv39]; (repeat (first | (with_reducible exact Below.refl _ _) | (with_reducible refine Go.below_drewN ?_ _) | (with_reducible refine Below.drew ?_) | (with_reducible refine Below.alloc ?_ (by first | exact Nat.le_refl _ | (simp; done) | (simp; omega) | omega) _) | (with_reducible refine Below.setCell ?_ (by first | exact Nat.le_refl _ | (simp; done) | (simp; omega) | omega) _)))
          clear hv39
          replace HFF := hide (HFF.out.below hb39)
          replace HTT := hide (HTT.out.below hb39)
          replace HSS := hide (HSS.out.below hb39)
          replace HMM := hide (HMM.out.below hb39)
          replace HEE := hide (HEE.out.below hb39)
          replace HQB := hide (HQB.out.below hb39)
          replace HX := hide (HX.out.below hb39)
          replace HC := hide (HC.out.below hb39)
          replace HIS := hide (HIS.out.below hb39)
          replace HIV := hide (HIV.out.below hb39)
          replace HPP := hide (HPP.out.below hb39)
          replace HRL := hide (HRL.out.below hb39)
          replace HB := hide (HB.out.trans (hb39.mono HB.out.size))
          clear hb39
          obtain ⟨b39, eb39⟩ : ∃ z, w5.heap.size = z := ⟨_, rfl⟩
          simp only [eb39] at HZ
          try simp only [eb39]
          clear eb39
          have HRVE := hide (fun W hi => ReceivedErrR_any (2 * (h : Int)) G (some ⟨gl, 0, none⟩) C cl2 RR W (by omega) hi)
          simp only [HRIN.out] at HRVE
          have HCRV := hide (fun W hi => CopyReceived_any (2 * (h : Int)) G (some ⟨gl, 0, none⟩) C cl2 RR W (by omega) hi)
          have HSF := hide (fun A d W hi => Soft_right G h A C d RR W hh1 hh3 (by omega) hi HRIN.out)
          obtain ⟨Z, hZ⟩ : ∃ z, bopF h (fun p => softP p G h) RR = z := ⟨_, rfl⟩
          have hsgn := HSGN.out
          simp only [hZ] at HSF hsgn
          simp only [← HKC.out] at HSF hsgn
          clear HSGN hZ
          have HSGN := hide hsgn
          clear hsgn
          obtain ⟨y43, y44, y45, y46⟩ := (⟨HZ.out.at_ 0, HZ.out.at_ 1, HZ.out.at_ 2, HZ.out.lt⟩ : _ ∧ _ ∧ _ ∧ _)
          go_wp2_with fail
          clear y43 y44 y45 y46
          refine (HRVE.out _ HRL.out).mono ?_
          rintro e_ v40 ⟨rfl, hb40⟩
          replace HFF := hide (HFF.out.below hb40)
          replace HTT := hide (HTT.out.below hb40)
          replace HSS := hide (HSS.out.below hb40)
          replace HMM := hide (HMM.out.below hb40)
          replace HEE := hide (HEE.out.below hb40)
          replace HQB := hide (HQB.out.below hb40)
          replace HX := hide (HX.out.below hb40)
          replace HC := hide (HC.out.below hb40)
          replace HIS := hide (HIS.out.below hb40)
          replace HIV := hide (HIV.out.below hb40)
          replace HPP := hide (HPP.out.below hb40)
          replace HRL := hide (HRL.out.below hb40)
          replace HZ := hide (HZ.out.below hb40)
          replace HB := hide (HB.out.trans (hb40.mono HB.out.size))
          clear hb40
          clear HRVE
          obtain ⟨y47, y48, y49, y50⟩ := (⟨HZ.out.at_ 0, HZ.out.at_ 1, HZ.out.at_ 2, HZ.out.lt⟩ : _ ∧ _ ∧ _ ∧ _)
          go_wp2_with fail
          clear y47 y48 y49 y50
          refine (HCRV.out _ HRL.out).mono ?_
          rintro e_ v41 ⟨Az, cz, rfl, ho, hb41⟩
          replace HFF := hide (HFF.out.below hb41)
          replace HTT := hide (HTT.out.below hb41)
          replace HSS := hide (HSS.out.below hb41)
          replace HMM := hide (HMM.out.below hb41)
          replace HEE := hide (HEE.out.below hb41)
          replace HQB := hide (HQB.out.below hb41)
          replace HX := hide (HX.out.below hb41)
          replace HC := hide (HC.out.below hb41)
          replace HIS := hide (HIS.out.below hb41)
          replace HIV := hide (HIV.out.below hb41)
          replace HPP := hide (HPP.out.below hb41)
          replace HRL := hide (HRL.out.below hb41)
          replace HZ := hide (HZ.out.below hb41)
          replace HB := hide (HB.out.trans (hb41.mono HB.out.size))
          clear hb41
          have HGZ := hide (ho.gaus.weak (lo' := 0) (Nat.zero_le _))
          clear ho HCRV
          go_wp2_with fail
          refine (HSF.out Az cz _ HGZ.out).mono ?_
          rintro e_ v42 ⟨yz, rfl, ho, hb42⟩
          obtain ⟨Asf, csf, rfl, -, hh⟩ := ho.form
          replace HFF := hide (HFF.out.below hb42)
          replace HTT := hide (HTT.out.below hb42)
          replace HSS := hide (HSS.out.below hb42)
          replace HMM := hide (HMM.out.below hb42)
          replace HEE := hide (HEE.out.below hb42)
          replace HQB := hide (HQB.out.below hb42)
          replace HX := hide (HX.out.below hb42)
          replace HC := hide (HC.out.below hb42)
          replace HIS := hide (HIS.out.below hb42)
          replace HIV := hide (HIV.out.below hb42)
          replace HPP := hide (HPP.out.below hb42)
          replace HRL := hide (HRL.out.below hb42)
          replace HZ := hide (HZ.out.below hb42)
          replace HGZ := hide (HGZ.out.below hb42)
          replace HB := hide (HB.out.trans (hb42.mono HB.out.size))
          clear hb42
          have HSO := hide (hh.weak (Nat.zero_le _))
          clear ho hh HSF
          clear HGZ HRL HZ
          have HCO := hide (fun W (h1 : IntsAt W 0 TA tn T) (h2 : IntsAt W 0 SA (pp + 1) S) => copyOk ((pp : Int) + 1) TA SA tn tc (pp + 1) sd T S W (by omega) (by omega) htn1 (by omega) h1 h2)
          have HSQS := hide (fun (A B : Option Addr) (c d : Nat) W h1 h2 => seqOk A B tn c pp d kk T S W (by omega) (by omega) hkk0 (by omega) HRZ.out h1 h2)
          simp only [HKEY.out] at HSQS
          go_upto_region 41 with fail
          refine wp_region_held_drew (S := fun w' => w'.cell? ⟨b1, 6, none⟩ = some (.int .i64 ((pp : Int) + 1)) ∧ w'.cell? ⟨b1, 7, none⟩ = some (.slice TA tn tc) ∧ w'.cell? ⟨b1, 8, none⟩ = some (.slice SA (pp + 1) sd) ∧ w'.cell? ⟨b4, 4, none⟩ = some (.int .i64 (kk : Int))) (by kernel_rfl) ⟨HX.out.at_ 6, HX.out.at_ 7, HX.out.at_ 8, HC.out.at_ 4⟩ (fun hHeld => ?_)
          obtain ⟨w_1331, hw_1331⟩ : ∃ q : World, q = v42.drew := ⟨_, rfl⟩
          rw [← hw_1331] at hHeld ⊢
          have hc_1331 : Below v42.heap.size v42 w_1331 := by rw [hw_1331]; exact (Below.refl _ _).drew
          clear hw_1331
          replace HFF := hide (HFF.out.below hc_1331)
          replace HTT := hide (HTT.out.below hc_1331)
          replace HSS := hide (HSS.out.below hc_1331)
          replace HMM := hide (HMM.out.below hc_1331)
          replace HEE := hide (HEE.out.below hc_1331)
          replace HQB := hide (HQB.out.below hc_1331)
          replace HX := hide (HX.out.below hc_1331)
          replace HC := hide (HC.out.below hc_1331)
          replace HIS := hide (HIS.out.below hc_1331)
          replace HIV := hide (HIV.out.below hc_1331)
          replace HPP := hide (HPP.out.below hc_1331)
          replace HSO := hide (HSO.out.below hc_1331)
          replace HB := hide (HB.out.trans (hc_1331.mono HB.out.size))
          clear hc_1331
          refine tkA (i := 0) (oi := ⟨some 347, _, _, _, _, _⟩) (v := ?_) rfl (Or.inl ⟨by rfl, ?_⟩) ?_
          rotate_left
          · (intro w' hSw; (try dsimp only at hSw); go_simp <;> (with_reducible rfl))
          try simp only [Act.put, pA, pB, pC]
          refine tkA (i := 1) (oi := ⟨some 348, _, _, _, _, _⟩) (v := ?_) rfl (Or.inl ⟨by rfl, ?_⟩) ?_
          rotate_left
          · (intro w' hSw; (try dsimp only at hSw); go_simp <;> (with_reducible rfl))
          try simp only [Act.put, pA, pB, pC]
          refine tkA (i := 3) (oi := ⟨some 350, _, _, _, _, _⟩) (v := ?_) rfl (Or.inl ⟨by rfl, ?_⟩) ?_
          rotate_left
          · (intro w' hSw; (try dsimp only at hSw); go_simp <;> (with_reducible rfl))
          try simp only [Act.put, pA, pB, pC]
          refine tkA (i := 4) (oi := ⟨some 351, _, _, _, _, _⟩) (v := ?_) rfl (Or.inl ⟨by rfl, ?_⟩) ?_
          rotate_left
          · (intro w' hSw; (try dsimp only at hSw); go_simp <;> (with_reducible rfl))
          try simp only [Act.put, pA, pB, pC]
          refine wpAnyH_ready (rs := [2]) (by kernel_rfl) (by simp) ?_
          refine AllReadyH.cons (o := ⟨some 349, _, _, _, _, _⟩) rfl (fun K' hK => ?_) AllReadyH.nil
          go_simp
          go_at_call 17
          refine (HCO.out _ HTT.out HSS.out).mono ?_
          rintro e_ w_1332 ⟨ga2, fa2, gb2, fb2, rfl, ht1, hs1, hb_1332⟩
          replace HFF := hide (HFF.out.below hb_1332)
          replace HTT := hide (HTT.out.below hb_1332)
          replace HSS := hide (HSS.out.below hb_1332)
          replace HMM := hide (HMM.out.below hb_1332)
          replace HEE := hide (HEE.out.below hb_1332)
          replace HQB := hide (HQB.out.below hb_1332)
          replace HX := hide (HX.out.below hb_1332)
          replace HC := hide (HC.out.below hb_1332)
          replace HIS := hide (HIS.out.below hb_1332)
          replace HIV := hide (HIV.out.below hb_1332)
          replace HPP := hide (HPP.out.below hb_1332)
          replace HSO := hide (HSO.out.below hb_1332)
          replace HB := hide (HB.out.trans (hb_1332.mono HB.out.size))
          clear hb_1332
          have HCT := hide (ht1)
          have HCS := hide (hs1)
          go_wp2_with fail
          refine hK.out _ _ ⟨HX.out.at_ 6, HX.out.at_ 7, HX.out.at_ 8, HC.out.at_ 4⟩ (fun hHeld => ?_)
          clear hK K'
          try simp only [Act.put, pA, pB, pC]
          refine wpAnyH_ready (rs := [5]) (by kernel_rfl) (by simp) ?_
          refine AllReadyH.cons (o := ⟨some 352, _, _, _, _, _⟩) rfl (fun K' hK => ?_) AllReadyH.nil
          go_simp
          go_at_call 34
          refine (HSQS.out _ _ fa2 fb2 _ HCT.out HCS.out).mono ?_
          rintro e_ w_1333 ⟨gk, rfl, hky, hb_1333⟩
          replace HFF := hide (HFF.out.below hb_1333)
          replace HTT := hide (HTT.out.below hb_1333)
          replace HSS := hide (HSS.out.below hb_1333)
          replace HMM := hide (HMM.out.below hb_1333)
          replace HEE := hide (HEE.out.below hb_1333)
          replace HQB := hide (HQB.out.below hb_1333)
          replace HX := hide (HX.out.below hb_1333)
          replace HC := hide (HC.out.below hb_1333)
          replace HIS := hide (HIS.out.below hb_1333)
          replace HIV := hide (HIV.out.below hb_1333)
          replace HPP := hide (HPP.out.below hb_1333)
          replace HSO := hide (HSO.out.below hb_1333)
          replace HCT := hide (HCT.out.below hb_1333)
          replace HCS := hide (HCS.out.below hb_1333)
          replace HB := hide (HB.out.trans (hb_1333.mono HB.out.size))
          clear hb_1333
          have HKY := hide hky
          clear hky HCT HCS
          go_wp2_with fail
          refine hK.out _ _ ⟨HX.out.at_ 6, HX.out.at_ 7, HX.out.at_ 8, HC.out.at_ 4⟩ (fun hHeld => ?_)
          clear hK K'
          try simp only [Act.put, pA, pB, pC]
          refine tkA (i := 6) (oi := ⟨some 346, _, _, _, _, _⟩) (v := ?_) rfl (Or.inl ⟨by rfl, ?_⟩) ?_
          rotate_left
          · (intro w' hSw; (try dsimp only at hSw); go_simp <;> (with_reducible rfl))
          try simp only [Act.put, pA, pB, pC]
          refine tkA (i := 7) (oi := ⟨some 353, _, _, _, _, _⟩) (v := ?_) rfl (Or.inl ⟨by rfl, ?_⟩) ?_
          rotate_left
          · (intro w' hSw; (try dsimp only at hSw); go_simp <;> (with_reducible rfl))
          try simp only [Act.put, pA, pB, pC]
          refine tkA (i := 8) (oi := ⟨some 354, _, _, _, _, _⟩) (v := ?_) rfl (Or.inl ⟨by rfl, ?_⟩) ?_
          rotate_left
          · (intro w' hSw; (try dsimp only at hSw); go_simp <;> (with_reducible rfl))
          try simp only [Act.put, pA, pB, pC]
          refine tkA (i := 9) (oi := ⟨some 27, _, _, _, _, _⟩) (v := ?_) rfl (Or.inl ⟨by rfl, ?_⟩) ?_
          rotate_left
          · (intro w' hSw; (try dsimp only at hSw); go_simp <;> (with_reducible rfl))
          try simp only [Act.put, pA, pB, pC]
          refine tkA (i := 10) (oi := ⟨some 28, _, _, _, _, _⟩) (v := ?_) rfl (Or.inl ⟨by rfl, ?_⟩) ?_
          rotate_left
          · (intro w' hSw; (try dsimp only at hSw); go_simp <;> (with_reducible rfl))
          try simp only [Act.put, pA, pB, pC]
          refine wpAnyH_done (by kernel_rfl) ?_ _
          clear hHeld HCO HSQS
          as_aux_lemma =>
           have HAB := hide (fun W hi => areBitsB_any (some ⟨gk, 0, none⟩) kk kk key W (by omega) hi)
           simp only [bitsB_iff.2 fun j _ => HKB.out j] at HAB
           obtain ⟨y51, y52⟩ := (⟨HC.out.at_ 4, HC.out.lt⟩ : _ ∧ _)
           go_wp2_with fail
           clear y51 y52
           refine (HAB.out _ HKY.out).mono ?_
           rintro e_ v44 ⟨rfl, q44, hq44⟩
           have hb44 : Below w_1333.heap.size w_1333 v44 := by rw [hq44]; exact Go.below_drewN (Below.refl _ _) _
           clear hq44
           replace HFF := hide (HFF.out.below hb44)
           replace HTT := hide (HTT.out.below hb44)
           replace HSS := hide (HSS.out.below hb44)
           replace HMM := hide (HMM.out.below hb44)
           replace HEE := hide (HEE.out.below hb44)
           replace HQB := hide (HQB.out.below hb44)
           replace HX := hide (HX.out.below hb44)
           replace HC := hide (HC.out.below hb44)
           replace HIS := hide (HIS.out.below hb44)
           replace HIV := hide (HIV.out.below hb44)
           replace HPP := hide (HPP.out.below hb44)
           replace HSO := hide (HSO.out.below hb44)
           replace HKY := hide (HKY.out.below hb44)
           replace HB := hide (HB.out.trans (hb44.mono HB.out.size))
           clear hb44
           clear HAB
           go_wp2_with fail
           go_loopw [29, 30] (fun v i wr => ∃ j : Nat, j ≤ kk ∧ i = .int .i64 (j : Int) ∧ Hid (OwnInts wr v44.heap.size v j (ownL key Z)) ∧ Hid (Below v44.heap.size v44 wr)) (fun _ i _ => kk - (Go.RowKit.intOf i).toNat)
           case atStart => exact ⟨0, Nat.zero_le _, rfl, hide (OwnInts.nil_ _ _ _), hide (Below.refl _ _)⟩
           case round =>
            obtain ⟨j, hj, rfl, HO, HW⟩ := hrel
            obtain ⟨wA, rfl⟩ : ∃ x : World, x = wr := ⟨_, rfl⟩
            obtain ⟨Ao, co, rfl, -, hoo⟩ := HO.out.form
            have HCc := hide (HC.out.below HW.out)
            by_cases hlt : j < kk
            case pos =>
             as_aux_lemma =>
              have hltz : (j : Int) < (kk : Int) := by omega
              have hkb := HKB.out j
              have hsg := HSGN.out j hlt
              clear hoo
              have HSo := hide (HSO.out.below HW.out)
              have HKc := hide (HKY.out.below HW.out)
              obtain ⟨sb, so, rfl, -, -, -⟩ := HSo.out j hlt
              have HK1 := hide (fun W1 (h : IntsAt W1 0 (some ⟨sb, so, none⟩) kk Z) => intsAt_cellK h hlt)
              have HK2 := hide (fun W1 (h : IntsAt W1 0 (some ⟨gk, 0, none⟩) kk key) => intsAt_cellK h hlt)
              have hown : ownL key Z j = (1 - 2 * key j) * min 1000 (max (-1000) (Z j)) := rfl
              obtain ⟨z, hz⟩ : ∃ z, Z j = z := ⟨_, rfl⟩
              obtain ⟨b, hb⟩ : ∃ z, key j = z := ⟨_, rfl⟩
              simp only [hz] at HK1 hown
              simp only [hb] at HK2 hown hkb
              clear hz hb hsg
              have hbb : 0 ≤ b ∧ b ≤ 1 := by rcases hkb with h | h <;> omega
              have q1 : IntKind.i64.wrap (2 * b) = 2 * b := IntWalk.i64_in _ (by omega)
              have q2 : IntKind.i64.wrap (1 - 2 * b) = 1 - 2 * b := IntWalk.i64_in _ (by omega)
              have hBA := HW.out.size
              skip
              obtain ⟨r, hr⟩ : ∃ q, min 1000 (max (-1000) z) = q := ⟨_, rfl⟩
              have hr9 : -1000 ≤ r ∧ r ≤ 1000 := by omega
              rw [hr] at hown
              have hyb : -1000 ≤ (1 - 2 * b) * r ∧ (1 - 2 * b) * r ≤ 1000 := by rcases hkb with h | h <;> subst h <;> omega
              obtain ⟨y, hy⟩ : ∃ q, (1 - 2 * b) * r = q := ⟨_, rfl⟩
              rw [hy] at hown hyb
              have q3 : IntKind.i64.wrap ((1 - 2 * b) * r) = y := by rw [hy]; exact IntWalk.i64_in _ (by omega)
              have HNXT := hide (fun q (hq : q < j + 1) => (show (if q < j then ownL key Z q else y) = ownL key Z q from by
               by_cases e : q < j
               · exact if_pos e
               · rw [if_neg e, show q = j by omega]; exact hown.symm))
              clear hown hy hkb hyb hr9
              obtain ⟨y53, y54⟩ := (⟨HCc.out.at_ 4, HCc.out.lt⟩ : _ ∧ _)
              go_upto_region 48 with fail
              clear y53 y54
              refine wp_region_held_drew (S := fun w' => w'.cell? ⟨sb, so + j, none⟩ = some (.int .i64 z) ∧ w'.cell? ⟨gk, j, none⟩ = some (.int .i64 b)) (by kernel_rfl) ⟨HK1.out _ HSo.out, by have := HK2.out _ HKc.out; rw [Nat.zero_add] at this; exact this⟩ (fun hHeld => ?_)
              obtain ⟨w_1351, hw_1351⟩ : ∃ q : World, q = wA.drew := ⟨_, rfl⟩
              rw [← hw_1351] at hHeld ⊢
              have hc_1351 : Below wA.heap.size wA w_1351 := by rw [hw_1351]; exact (Below.refl _ _).drew
              clear hw_1351
              replace HSo := hide (HSo.out.below hc_1351)
              replace HKc := hide (HKc.out.below hc_1351)
              replace HO := hide (HO.out.below hc_1351)
              replace HW := hide (HW.out.trans (hc_1351.mono hBA))
              replace hBA := Nat.le_trans hBA hc_1351.size
              clear hc_1351
              refine tkA (i := 0) (oi := ⟨some 386, _, _, _, _, _⟩) (v := ?_) rfl (Or.inl ⟨by rfl, ?_⟩) ?_
              rotate_left
              · (intro w' hSw; (try dsimp only at hSw); go_simp <;> (with_reducible rfl))
              try simp only [Act.put, pA, pB, pC]
              refine tkA (i := 1) (oi := ⟨some 387, _, _, _, _, _⟩) (v := ?_) rfl (Or.inl ⟨by rfl, ?_⟩) ?_
              rotate_left
              · (intro w' hSw; (try dsimp only at hSw); go_simp <;> (with_reducible rfl))
              try simp only [Act.put, pA, pB, pC]
              refine tkA (i := 2) (oi := ⟨some 388, _, _, _, _, _⟩) (v := ?_) rfl (Or.inl ⟨by rfl, ?_⟩) ?_
              rotate_left
              · (intro w' hSw; (try dsimp only at hSw); go_simp <;> (with_reducible rfl))
              try simp only [Act.put, pA, pB, pC]
              refine tkA (i := 3) (oi := ⟨some 389, _, _, _, _, _⟩) (v := ?_) rfl (Or.inl ⟨by rfl, ?_⟩) ?_
              rotate_left
              · (intro w' hSw; (try dsimp only at hSw); go_simp <;> (with_reducible rfl))
              try simp only [Act.put, pA, pB, pC]
              refine tkA (i := 4) (oi := ⟨some 390, _, _, _, _, _⟩) (v := ?_) rfl (Or.inl ⟨by rfl, ?_⟩) ?_
              rotate_left
              · (intro w' hSw; (try dsimp only at hSw); go_simp <;> (with_reducible rfl))
              try simp only [Act.put, pA, pB, pC]
              refine tkA (i := 5) (oi := ⟨some 391, _, _, _, _, _⟩) (v := ?_) rfl (Or.inl ⟨by rfl, ?_⟩) ?_
              rotate_left
              · (intro w' hSw; (try dsimp only at hSw); go_simp <;> (with_reducible rfl))
              try simp only [Act.put, pA, pB, pC]
              refine tkA (i := 6) (oi := ⟨some 392, _, _, _, _, _⟩) (v := ?_) rfl (Or.inl ⟨by rfl, ?_⟩) ?_
              rotate_left
              · (intro w' hSw; (try dsimp only at hSw); go_simp <;> (with_reducible rfl))
              try simp only [Act.put, pA, pB, pC]
              refine tkA (i := 7) (oi := ⟨some 393, _, _, _, _, _⟩) (v := ?_) rfl (Or.inl ⟨by rfl, ?_⟩) ?_
              rotate_left
              · (intro w' hSw; (try dsimp only at hSw); go_simp <;> (with_reducible rfl))
              try simp only [Act.put, pA, pB, pC]
              refine tkA (i := 8) (oi := ⟨some 394, _, _, _, _, _⟩) (v := ?_) rfl (Or.inl ⟨by rfl, ?_⟩) ?_
              rotate_left
              · (intro w' hSw; (try dsimp only at hSw); go_simp <;> (with_reducible rfl))
              try simp only [Act.put, pA, pB, pC]
              refine tkA (i := 9) (oi := ⟨some 395, _, _, _, _, _⟩) (v := ?_) rfl (Or.inl ⟨by rfl, ?_⟩) ?_
              rotate_left
              · (intro w' hSw; (try dsimp only at hSw); go_simp <;> (with_reducible rfl))
              try simp only [Act.put, pA, pB, pC]
              refine tkA (i := 10) (oi := ⟨some 396, _, _, _, _, _⟩) (v := ?_) rfl (Or.inl ⟨by rfl, ?_⟩) ?_
              rotate_left
              · (intro w' hSw; (try dsimp only at hSw); go_simp <;> (with_reducible rfl))
              try simp only [Act.put, pA, pB, pC]
              refine tkA (i := 11) (oi := ⟨some 397, _, _, _, _, _⟩) (v := (.int .i64 (max (-1000) z))) rfl (Or.inl ⟨by rfl, fun w' hSw => by go_simp⟩) ?_
              try simp only [Act.put, pA, pB, pC]
              refine tkA (i := 12) (oi := ⟨some 398, _, _, _, _, _⟩) (v := (.int .i64 r)) rfl (Or.inl ⟨by rfl, fun w' hSw => by go_simp <;> rw [hr]⟩) ?_
              try simp only [Act.put, pA, pB, pC]
              refine tkA (i := 13) (oi := ⟨some 399, _, _, _, _, _⟩) (v := (.int .i64 y)) rfl (Or.inl ⟨by rfl, fun w' hSw => by go_simp⟩) ?_
              try simp only [Act.put, pA, pB, pC]
              refine wpAnyH_ready (rs := [14]) (by kernel_rfl) (by simp) ?_
              refine AllReadyH.cons (o := ⟨some 400, _, _, _, _, _⟩) rfl (fun K' hK => ?_) AllReadyH.nil
              go_simp
              obtain ⟨g9, hg9⟩ : ∃ z, w_1351.heap.size = z := ⟨_, rfl⟩
              obtain ⟨w_1352, hw_1352⟩ : ∃ z : World, z = w_1351.alloc (.cells #[.int .i64 y] 3) := ⟨_, rfl⟩
              try rw [← hw_1352]
              have HP9 := hide (show Box w_1352 g9 3 #[.int .i64 y] by rw [hw_1352]; exact Box.made hg9.symm)
              have hc_1352 : Below w_1351.heap.size w_1351 w_1352 := by rw [hw_1352]; exact (Below.refl _ _).alloc (Nat.le_refl _) _
              clear hw_1352
              replace HSo := hide (HSo.out.below hc_1352)
              replace HKc := hide (HKc.out.below hc_1352)
              replace HO := hide (HO.out.below hc_1352)
              replace HW := hide (HW.out.trans (hc_1352.mono hBA))
              replace hBA := Nat.le_trans hBA hc_1352.size
              clear hc_1352
              try simp only [hg9]
              clear hg9
              refine hK.out _ _ ⟨HK1.out _ HSo.out, by have := HK2.out _ HKc.out; rw [Nat.zero_add] at this; exact this⟩ (fun hHeld => ?_)
              clear hK K'
              try simp only [Act.put, pA, pB, pC]
              refine wpAnyH_ready (rs := [15]) (by kernel_rfl) (by simp) ?_
              refine AllReadyH.cons (o := ⟨some 401, _, _, _, _, _⟩) rfl (fun K' hK => ?_) AllReadyH.nil
              refine step_append_oneI _ rfl (.tmp 386) (.tmp 400) rfl v44.heap.size (.slice Ao j co) j _ rfl HO.out g9 1 y rfl HP9.out (by omega) hBA ?_
              intro v9 w_1353 ho9 hb9
              obtain ⟨A9, c9, rfl, -, -⟩ := ho9.form
              have HO2 := hide (ho9.congr fun q hq => HNXT.out q hq)
              replace HW := hide (HW.out.trans hb9)
              replace HSo := hide (HSO.out.below HW.out)
              replace HKc := hide (HKY.out.below HW.out)
              clear ho9 hb9 HO HP9
              refine hK.out _ _ ⟨HK1.out _ HSo.out, by have := HK2.out _ HKc.out; rw [Nat.zero_add] at this; exact this⟩ (fun hHeld => ?_)
              clear hK K'
              try simp only [Act.put, pA, pB, pC]
              refine tkA (i := 16) (oi := ⟨some 29, _, _, _, _, _⟩) (v := ?_) rfl (Or.inl ⟨by rfl, ?_⟩) ?_
              rotate_left
              · (intro w' hSw; (try dsimp only at hSw); go_simp <;> (with_reducible rfl))
              try simp only [Act.put, pA, pB, pC]
              refine wpAnyH_done (by kernel_rfl) ?_ _
              clear hHeld HK1 HK2 HSo HKc HNXT
              go_wp2_with fail
              go_roundw
              case rel => exact ⟨j + 1, by omega, by go_num, HO2, HW⟩
              case measure => simp [Go.RowKit.intOf]; omega
            obtain rfl : kk = j := by omega
            have hltz : ¬ (kk : Int) < (kk : Int) := by omega
            have HOW := hide (hoo.weak (Nat.zero_le _))
            obtain ⟨y55, y56⟩ := (⟨HCc.out.at_ 4, HCc.out.lt⟩ : _ ∧ _)
            clear hoo HO
            replace HFF := hide (HFF.out.below HW.out)
            replace HTT := hide (HTT.out.below HW.out)
            replace HSS := hide (HSS.out.below HW.out)
            replace HMM := hide (HMM.out.below HW.out)
            replace HEE := hide (HEE.out.below HW.out)
            replace HQB := hide (HQB.out.below HW.out)
            replace HX := hide (HX.out.below HW.out)
            replace HC := hide (HC.out.below HW.out)
            replace HIS := hide (HIS.out.below HW.out)
            replace HIV := hide (HIV.out.below HW.out)
            replace HPP := hide (HPP.out.below HW.out)
            replace HSO := hide (HSO.out.below HW.out)
            replace HKY := hide (HKY.out.below HW.out)
            replace HB := hide (HB.out.trans (HW.out.mono HB.out.size))
            clear HW
            go_upto_region 49 with fail
            clear y55 y56 HCc
            as_aux_lemma =>
             have htl := fun j (hj : j < kk) => own_tells (k := key) (Z := Z) (j := j) (s := U j) (HKB.out j) (HUB.out j) (fun h => (HSGN.out j hj).1 ((HVE.out j).symm.trans h)) (fun h => (HSGN.out j hj).2 ((HVE.out j).symm.trans h))
             rw [← HUE.out] at htl
             obtain ⟨hs1, hs2⟩ := lnk_tells (N := N) HNQ.out.symm hkN (by omega) htl
             have HLN := hide (fun W => K.length_any q A n c W (by omega))
             have hN2 : (2 : Int) ^ q = (N : Int) := by rw [← HNQ.out]; simp
             simp only [hN2] at HLN
             have HGT := hide (fun W hi => K.Gathered_ok Ao kk co vv N (ownL key Z) W (by omega) (by omega) hv3 (by omega) (by omega) (fun j hj => by have := (htl j hj).2; omega) hi)
             have HSZ := hide (fun g W hi => K.sumsErrR_any (some ⟨g, 0, none⟩) N N (K.gatherF vv N (ownL key Z) kk) W (by omega) hi)
             simp only [K.sizedErr_ok (n := N) (cnt := 200) (m := 1000000000) (by omega) (by omega) hs2] at HSZ
             have HRCV := hide (fun A' C' c' e' W h0 h1 hi hj => K.Recovered_ok x y q kk n m A' C' c' e' F B (K.gatherF vv N (ownL key Z) kk) W HOK.out h0 h1 (by rw [HNQ.out]; exact hs1) (by rw [HNQ.out]; exact hs2) hi hj)
             simp only [HNQ.out] at HRCV
             obtain ⟨GG, hGG⟩ : ∃ z, K.gatherF vv N (ownL key Z) kk = z := ⟨_, rfl⟩
             simp only [hGG] at HGT HSZ HRCV
             clear htl hs1 hs2 hN2 hGG HKB HSGN HUB
             refine wp_region_held_drew (S := fun w' => w'.cell? ⟨b1, 5, none⟩ = some (.int .i64 (vv : Int)) ∧ w'.cell? ⟨b4, 2, none⟩ = some (.int .i64 (q : Int)) ∧ w'.cell? ⟨b4, 3, none⟩ = some (.slice A n c)) (by kernel_rfl) ⟨HX.out.at_ 5, HC.out.at_ 2, HC.out.at_ 3⟩ (fun hHeld => ?_)
             obtain ⟨w_1361, hw_1361⟩ : ∃ q : World, q = wA.drew := ⟨_, rfl⟩
             rw [← hw_1361] at hHeld ⊢
             have hc_1361 : Below wA.heap.size wA w_1361 := by rw [hw_1361]; exact (Below.refl _ _).drew
             clear hw_1361
             replace HFF := hide (HFF.out.below hc_1361)
             replace HTT := hide (HTT.out.below hc_1361)
             replace HSS := hide (HSS.out.below hc_1361)
             replace HMM := hide (HMM.out.below hc_1361)
             replace HEE := hide (HEE.out.below hc_1361)
             replace HQB := hide (HQB.out.below hc_1361)
             replace HX := hide (HX.out.below hc_1361)
             replace HC := hide (HC.out.below hc_1361)
             replace HIS := hide (HIS.out.below hc_1361)
             replace HIV := hide (HIV.out.below hc_1361)
             replace HPP := hide (HPP.out.below hc_1361)
             replace HSO := hide (HSO.out.below hc_1361)
             replace HKY := hide (HKY.out.below hc_1361)
             replace HOW := hide (HOW.out.below hc_1361)
             replace HB := hide (HB.out.trans (hc_1361.mono HB.out.size))
             clear hc_1361
             refine tkA (i := 0) (oi := ⟨some 403, _, _, _, _, _⟩) (v := ?_) rfl (Or.inl ⟨by rfl, ?_⟩) ?_
             rotate_left
             · (intro w' hSw; (try dsimp only at hSw); go_simp <;> (with_reducible rfl))
             try simp only [Act.put, pA, pB, pC]
             refine tkA (i := 1) (oi := ⟨some 404, _, _, _, _, _⟩) (v := ?_) rfl (Or.inl ⟨by rfl, ?_⟩) ?_
             rotate_left
             · (intro w' hSw; (try dsimp only at hSw); go_simp <;> (with_reducible rfl))
             try simp only [Act.put, pA, pB, pC]
             refine tkA (i := 2) (oi := ⟨some 405, _, _, _, _, _⟩) (v := ?_) rfl (Or.inl ⟨by rfl, ?_⟩) ?_
             rotate_left
             · (intro w' hSw; (try dsimp only at hSw); go_simp <;> (with_reducible rfl))
             try simp only [Act.put, pA, pB, pC]
             refine tkA (i := 3) (oi := ⟨some 406, _, _, _, _, _⟩) (v := ?_) rfl (Or.inl ⟨by rfl, ?_⟩) ?_
             rotate_left
             · (intro w' hSw; (try dsimp only at hSw); go_simp <;> (with_reducible rfl))
             try simp only [Act.put, pA, pB, pC]
             refine tkA (i := 4) (oi := ⟨some 407, _, _, _, _, _⟩) (v := ?_) rfl (Or.inl ⟨by rfl, ?_⟩) ?_
             rotate_left
             · (intro w' hSw; (try dsimp only at hSw); go_simp <;> (with_reducible rfl))
             try simp only [Act.put, pA, pB, pC]
             refine wpAnyH_ready (rs := [5]) (by kernel_rfl) (by simp) ?_
             refine AllReadyH.cons (o := ⟨some 408, _, _, _, _, _⟩) rfl (fun K' hK => ?_) AllReadyH.nil
             go_simp
             go_at_call 7
             refine (HLN.out _).mono ?_
             rintro e_ w_1362 ⟨rfl, hb_1362⟩
             replace HFF := hide (HFF.out.below hb_1362)
             replace HTT := hide (HTT.out.below hb_1362)
             replace HSS := hide (HSS.out.below hb_1362)
             replace HMM := hide (HMM.out.below hb_1362)
             replace HEE := hide (HEE.out.below hb_1362)
             replace HQB := hide (HQB.out.below hb_1362)
             replace HX := hide (HX.out.below hb_1362)
             replace HC := hide (HC.out.below hb_1362)
             replace HIS := hide (HIS.out.below hb_1362)
             replace HIV := hide (HIV.out.below hb_1362)
             replace HPP := hide (HPP.out.below hb_1362)
             replace HSO := hide (HSO.out.below hb_1362)
             replace HKY := hide (HKY.out.below hb_1362)
             replace HOW := hide (HOW.out.below hb_1362)
             replace HB := hide (HB.out.trans (hb_1362.mono HB.out.size))
             clear hb_1362
             go_wp2_with fail
             refine hK.out _ _ ⟨HX.out.at_ 5, HC.out.at_ 2, HC.out.at_ 3⟩ (fun hHeld => ?_)
             clear hK K'
             try simp only [Act.put, pA, pB, pC]
             refine wpAnyH_ready (rs := [6]) (by kernel_rfl) (by simp) ?_
             refine AllReadyH.cons (o := ⟨some 409, _, _, _, _, _⟩) rfl (fun K' hK => ?_) AllReadyH.nil
             go_simp
             go_at_call 36
             refine (HGT.out _ HOW.out).mono ?_
             rintro e_ w_1363 ⟨gq, rfl, hgi, hb_1363⟩
             replace HFF := hide (HFF.out.below hb_1363)
             replace HTT := hide (HTT.out.below hb_1363)
             replace HSS := hide (HSS.out.below hb_1363)
             replace HMM := hide (HMM.out.below hb_1363)
             replace HEE := hide (HEE.out.below hb_1363)
             replace HQB := hide (HQB.out.below hb_1363)
             replace HX := hide (HX.out.below hb_1363)
             replace HC := hide (HC.out.below hb_1363)
             replace HIS := hide (HIS.out.below hb_1363)
             replace HIV := hide (HIV.out.below hb_1363)
             replace HPP := hide (HPP.out.below hb_1363)
             replace HSO := hide (HSO.out.below hb_1363)
             replace HKY := hide (HKY.out.below hb_1363)
             replace HOW := hide (HOW.out.below hb_1363)
             replace HB := hide (HB.out.trans (hb_1363.mono HB.out.size))
             clear hb_1363
             have HGI := hide (hgi.weak (Nat.zero_le _))
             go_wp2_with fail
             refine hK.out _ _ ⟨HX.out.at_ 5, HC.out.at_ 2, HC.out.at_ 3⟩ (fun hHeld => ?_)
             clear hK K'
             try simp only [Act.put, pA, pB, pC]
             refine tkA (i := 7) (oi := ⟨some 402, _, _, _, _, _⟩) (v := ?_) rfl (Or.inl ⟨by rfl, ?_⟩) ?_
             rotate_left
             · (intro w' hSw; (try dsimp only at hSw); go_simp <;> (with_reducible rfl))
             try simp only [Act.put, pA, pB, pC]
             refine tkA (i := 8) (oi := ⟨some 410, _, _, _, _, _⟩) (v := ?_) rfl (Or.inl ⟨by rfl, ?_⟩) ?_
             rotate_left
             · (intro w' hSw; (try dsimp only at hSw); go_simp <;> (with_reducible rfl))
             try simp only [Act.put, pA, pB, pC]
             refine tkA (i := 9) (oi := ⟨some 411, _, _, _, _, _⟩) (v := ?_) rfl (Or.inl ⟨by rfl, ?_⟩) ?_
             rotate_left
             · (intro w' hSw; (try dsimp only at hSw); go_simp <;> (with_reducible rfl))
             try simp only [Act.put, pA, pB, pC]
             refine tkA (i := 10) (oi := ⟨some 31, _, _, _, _, _⟩) (v := ?_) rfl (Or.inl ⟨by rfl, ?_⟩) ?_
             rotate_left
             · (intro w' hSw; (try dsimp only at hSw); go_simp <;> (with_reducible rfl))
             try simp only [Act.put, pA, pB, pC]
             refine tkA (i := 11) (oi := ⟨some 32, _, _, _, _, _⟩) (v := ?_) rfl (Or.inl ⟨by rfl, ?_⟩) ?_
             rotate_left
             · (intro w' hSw; (try dsimp only at hSw); go_simp <;> (with_reducible rfl))
             try simp only [Act.put, pA, pB, pC]
             refine wpAnyH_done (by kernel_rfl) ?_ _
             clear hHeld HLN HGT
             as_aux_lemma =>
              go_wp2_with fail
              refine (HSZ.out gq _ HGI.out).mono ?_
              rintro e_ v47 ⟨rfl, q47, hq47⟩
              have hb47 : Below w_1363.heap.size w_1363 v47 := by rw [hq47]; exact Go.below_drewN (Below.refl _ _) _
              clear hq47
              replace HFF := hide (HFF.out.below hb47)
              replace HTT := hide (HTT.out.below hb47)
              replace HSS := hide (HSS.out.below hb47)
              replace HMM := hide (HMM.out.below hb47)
              replace HEE := hide (HEE.out.below hb47)
              replace HQB := hide (HQB.out.below hb47)
              replace HX := hide (HX.out.below hb47)
              replace HC := hide (HC.out.below hb47)
              replace HIS := hide (HIS.out.below hb47)
              replace HIV := hide (HIV.out.below hb47)
              replace HPP := hide (HPP.out.below hb47)
              replace HSO := hide (HSO.out.below hb47)
              replace HKY := hide (HKY.out.below hb47)
              replace HOW := hide (HOW.out.below hb47)
              replace HGI := hide (HGI.out.below hb47)
              replace HB := hide (HB.out.trans (hb47.mono HB.out.size))
              clear hb47
              clear HSZ
              obtain ⟨y57, y58, y59, y60, y61, y62⟩ := (⟨HC.out.at_ 0, HC.out.at_ 1, HC.out.at_ 2, HC.out.at_ 3, HC.out.at_ 4, HC.out.lt⟩ : _ ∧ _ ∧ _ ∧ _ ∧ _ ∧ _)
              go_wp2_with fail
              clear y57 y58 y59 y60 y61 y62
              refine (HCC.out _ HFF.out).mono ?_
              rintro e_ v48 ⟨Ay2, cy2, rfl, hcy, hiy, hb48⟩
              replace HFF := hide (HFF.out.below hb48)
              replace HTT := hide (HTT.out.below hb48)
              replace HSS := hide (HSS.out.below hb48)
              replace HMM := hide (HMM.out.below hb48)
              replace HEE := hide (HEE.out.below hb48)
              replace HQB := hide (HQB.out.below hb48)
              replace HX := hide (HX.out.below hb48)
              replace HC := hide (HC.out.below hb48)
              replace HIS := hide (HIS.out.below hb48)
              replace HIV := hide (HIV.out.below hb48)
              replace HPP := hide (HPP.out.below hb48)
              replace HSO := hide (HSO.out.below hb48)
              replace HKY := hide (HKY.out.below hb48)
              replace HOW := hide (HOW.out.below hb48)
              replace HGI := hide (HGI.out.below hb48)
              replace HB := hide (HB.out.trans (hb48.mono HB.out.size))
              clear hb48
              have HIY := hide (hiy.weak (Nat.zero_le _))
              clear hiy
              go_wp2_with fail
              refine (HRCV.out Ay2 (some ⟨gq, 0, none⟩) cy2 N _ (Nat.le_refl _) (by omega) HIY.out HGI.out).mono ?_
              rintro e_ v49 ⟨Ae, ce, rfl, -, -, hie, hb49⟩
              replace HFF := hide (HFF.out.below hb49)
              replace HTT := hide (HTT.out.below hb49)
              replace HSS := hide (HSS.out.below hb49)
              replace HMM := hide (HMM.out.below hb49)
              replace HEE := hide (HEE.out.below hb49)
              replace HQB := hide (HQB.out.below hb49)
              replace HX := hide (HX.out.below hb49)
              replace HC := hide (HC.out.below hb49)
              replace HIS := hide (HIS.out.below hb49)
              replace HIV := hide (HIV.out.below hb49)
              replace HPP := hide (HPP.out.below hb49)
              replace HSO := hide (HSO.out.below hb49)
              replace HKY := hide (HKY.out.below hb49)
              replace HOW := hide (HOW.out.below hb49)
              replace HGI := hide (HGI.out.below hb49)
              replace HIY := hide (HIY.out.below hb49)
              replace HB := hide (HB.out.trans (hb49.mono HB.out.size))
              clear hb49
              have HIE := hide (hie.weak (Nat.zero_le _))
              clear hie HRCV
              go_wp2_with fail
              refine (same_ints (by omega) HIE.out HQB.out (fun _ _ => rfl)).mono ?_
              rintro e_ v50 ⟨rfl, hb50⟩
              replace HFF := hide (HFF.out.below hb50)
              replace HTT := hide (HTT.out.below hb50)
              replace HSS := hide (HSS.out.below hb50)
              replace HMM := hide (HMM.out.below hb50)
              replace HEE := hide (HEE.out.below hb50)
              replace HQB := hide (HQB.out.below hb50)
              replace HX := hide (HX.out.below hb50)
              replace HC := hide (HC.out.below hb50)
              replace HIS := hide (HIS.out.below hb50)
              replace HIV := hide (HIV.out.below hb50)
              replace HPP := hide (HPP.out.below hb50)
              replace HSO := hide (HSO.out.below hb50)
              replace HKY := hide (HKY.out.below hb50)
              replace HOW := hide (HOW.out.below hb50)
              replace HGI := hide (HGI.out.below hb50)
              replace HIY := hide (HIY.out.below hb50)
              replace HIE := hide (HIE.out.below hb50)
              replace HB := hide (HB.out.trans (hb50.mono HB.out.size))
              clear hb50
              go_wp2_with fail
              go_ret
              exact ⟨rfl, HB.out⟩
end Go.Proofs.YtcdplfjegopmdaaGreat
