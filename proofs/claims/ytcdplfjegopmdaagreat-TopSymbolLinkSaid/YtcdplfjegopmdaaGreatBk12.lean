/- Lemmas: S11, S12, S13, S14, S15. -/
import Derived.Deep.RegionHeld3
import Derived.Test.YtcdplfjegopmdaaGreatBk11
set_option linter.unusedVariables false
set_option linter.unusedSimpArgs false
/- cmp.Or of two errors, orderError and Scrambled of the code. -/
namespace Go.Proofs.YtcdplfjegopmdaaGreat
open Go.RowKit Go.Lib
/-- cmp.Or of two numbers in a new block. -/
def orS (a b : Int) : Int := if a = 0 then b else a
set_option maxHeartbeats 1000000 in
theorem orS_two (a b : Int) (g c : Nat) (w : World) (h0 : w.cell? ⟨g, 0, none⟩ = some (.int .i64 a)) (h1 : w.cell? ⟨g, 1, none⟩ = some (.int .i64 b)) :
    Calls Tryz.prog 56 #[.slice (some ⟨g, 0, none⟩) 2 c] w fun e w' => e = .returned (.int .i64 (orS a b)) ∧ w = w' := by
  have H0 := hide h0
  have H1 := hide h1
  clear h0 h1
  go_enter Tryz.func56, Tryz.ntmps56
  go_wp2_with fail
  go_loopw [8] (fun i wr => ∃ k : Nat, k ≤ 2 ∧ i = .int .i64 (k : Int) ∧ Hid (0 < k → a = 0) ∧ Hid (1 < k → b = 0) ∧ w = wr) (fun i _ => 2 - (Go.RowKit.intOf i).toNat)
  case atStart => exact ⟨0, by decide, rfl, hide fun h => absurd h (by decide), hide fun h => absurd h (by decide), rfl⟩
  case round =>
    obtain ⟨k, hk, rfl, HA, HB, rfl⟩ := hrel
    match k, hk with
    | 0, _ =>
      have hc := H0.out
      by_cases ha : a = 0
      · have HQ := hide ha
        subst ha
        go_wp2_with fail
        go_roundw
        case rel => exact ⟨1, by decide, rfl, hide fun _ => by first | rfl | trivial, hide fun h => absurd h (by decide), by first | rfl | trivial⟩
        case measure => simp [Go.RowKit.intOf]
      · have t1 : (a != 0) = true := by simpa using ha
        have HQ := hide (show orS a b = a from if_neg ha)
        clear ha
        go_wp2_with fail
        go_ret
        exact ⟨ret_int HQ.out.symm, rfl⟩
    | 1, _ =>
      have hc := H1.out
      have ha := HA.out (by decide)
      by_cases hb : b = 0
      · have HQ := hide hb
        subst hb
        go_wp2_with fail
        go_roundw
        case rel => exact ⟨2, by decide, rfl, hide fun _ => ha, hide fun _ => by first | rfl | trivial, by first | rfl | trivial⟩
        case measure => simp [Go.RowKit.intOf]
      · have t1 : (b != 0) = true := by simpa using hb
        have HQ := hide (show orS a b = b from if_pos ha)
        clear ha hb
        go_wp2_with fail
        go_ret
        exact ⟨ret_int HQ.out.symm, rfl⟩
    | 2, _ =>
      have HQ := hide (show orS a b = 0 from by rw [show orS a b = b from if_pos (HA.out (by decide)), HB.out (by decide)])
      go_wp2_with fail
      go_ret
      exact ⟨ret_int HQ.out.symm, rfl⟩
def ordE (k : Int) : Int := if k = 2 ∨ k = 4 ∨ k = 6 then 0 else 15
set_option maxHeartbeats 1000000 in
theorem orderError_any (k : Int) (w : World) : Calls Tryz.prog 60 #[.int .i64 k] w fun e w' => e = .returned (.int .i64 (ordE k)) ∧ w = w' := by
  by_cases h2 : k = 2
  · subst h2
    go_enter Tryz.func60, Tryz.ntmps60
    go_wp2_with fail
    go_ret
    exact ⟨rfl, rfl⟩
  by_cases h4 : k = 4
  · subst h4
    go_enter Tryz.func60, Tryz.ntmps60
    go_wp2_with fail
    go_ret
    exact ⟨rfl, rfl⟩
  by_cases h6 : k = 6
  · subst h6
    go_enter Tryz.func60, Tryz.ntmps60
    go_wp2_with fail
    go_ret
    exact ⟨rfl, rfl⟩
  have e : ordE k = 15 := if_neg (by omega)
  rw [e]
  clear e
  have t2 : (k == 2) = false := by simpa using h2
  have t4 : (k == 4) = false := by simpa using h4
  have t6 : (k == 6) = false := by simpa using h6
  go_enter Tryz.func60, Tryz.ntmps60
  go_wp2_with fail
  go_ret
  exact ⟨rfl, rfl⟩
/-- The error of Scrambled. -/
def scrE (L : Int) (n : Nat) (T : Nat → Int) (m : Nat) (S : Nat → Int) (q : Nat) (X : Nat → Int) : Int := orS (regE L n T m S) (bitE q X 400)
/-- The first k bits scrambled. -/
def scrF (m n : Nat) (T S X : Nat → Int) (k j : Nat) : Int := if j < k then xor1 (itS m n T S j 0) (X j) else itS m n T S j 0
theorem scrF_set (m n : Nat) (T S X : Nat → Int) (k : Nat) : setF (scrF m n T S X k) k (xor1 (itS m n T S k 0) (X k)) = scrF m n T S X (k + 1) := by
  funext j
  unfold setF scrF
  by_cases e : j = k
  · subst e; rw [if_pos rfl, if_pos (by omega)]
  · rw [if_neg e]
    by_cases h : j < k
    · rw [if_pos h, if_pos (by omega)]
    · rw [if_neg h, if_neg (by omega)]
set_option maxHeartbeats 8000000 in
set_option maxRecDepth 100000 in
theorem Scrambled_any (L : Int) (A B C : Option Addr) (n c m d q r : Nat) (T S X : Nat → Int) (w : World) (hn : n ≤ 100000) (hm : m ≤ 100000) (hq : q ≤ 100000) (hT : IntsAt w 0 A n T) (hS : IntsAt w 0 B m S) (hX : IntsAt w 0 C q X) :
    Calls Tryz.prog 16 #[.agg #[.int .i64 L, .slice A n c, .slice B m d], .slice C q r] w fun e w' => ∃ v, e = .returned (.tuple #[v, .int .i64 (scrE L n T m S q X)]) ∧ (scrE L n T m S q X = 0 → (∃ g, v = .slice (some ⟨g, 0, none⟩) q q) ∧ OwnInts w' w.heap.size v q (fun j => xor1 (itS m n T S j 0) (X j))) ∧
      (scrE L n T m S q X ≠ 0 → v = .slice none 0 0) ∧ Below w.heap.size w w' := by
  have HI := hide hT
  have HJ := hide hS
  have HK := hide hX
  have HE := hide (show scrE L n T m S q X = orS (regE L n T m S) (bitE q X 400) from rfl)
  have HOK := hide (fun h => regE_ok (L := L) (n := n) (m := m) (T := T) (S := S) h)
  have HCR := hide (fun W (h : IntsAt W 0 A n T) (k : IntsAt W 0 B m S) => CheckRegister_any L A B n c m d T S W hn hm h k)
  have HBE := hide (fun W (h : IntsAt W 0 C q X) => bitsError_any C q r X 400 W hq h)
  have HBZ := hide (fun h : bitE q X 400 = 0 => (show 0 < q ∧ q ≤ 400 ∧ ∀ j, j < q → IsBit (X j) from by
    unfold bitE at h
    by_cases h0 : q = 0
    · rw [if_pos h0] at h; cases h
    rw [if_neg h0] at h
    by_cases h1 : (400 : Int) < (q : Int)
    · rw [if_pos h1] at h; cases h
    rw [if_neg h1] at h
    have hb : bitsB q X = true := by
      cases e : bitsB q X
      · rw [e] at h; exact absurd h (by decide)
      · rfl
    exact ⟨by omega, by omega, fun j hj => bitsB_iff.1 hb j hj⟩))
  obtain ⟨v, hv⟩ : ∃ z, scrE L n T m S q X = z := ⟨_, rfl⟩
  obtain ⟨e1, he1⟩ : ∃ z, regE L n T m S = z := ⟨_, rfl⟩
  obtain ⟨e2, he2⟩ : ∃ z, bitE q X 400 = z := ⟨_, rfl⟩
  rw [hv]
  rw [hv, he1, he2] at HE
  rw [he1] at HCR HOK
  rw [he2] at HBE HBZ
  obtain ⟨I, hI⟩ : ∃ z, itS m n T S = z := ⟨_, rfl⟩
  simp only [hI]
  have HII := hide hI
  clear hT hS hX hv he1 he2 hI
  go_enter Tryz.func16, Tryz.ntmps16
  go_upto_region 1 with fail
  obtain ⟨W, hW⟩ : ∃ q : World, q = w.alloc (.cells #[.int .i64 L, .slice A n c, .slice B m d] 30) := ⟨_, rfl⟩
  try rw [← hW]
  have HX := hide (show Box W w.heap.size 30 #[.int .i64 L, .slice A n c, .slice B m d] by rw [hW]; exact Box.made rfl)
  have HB := hide (show Below w.heap.size w W by rw [hW]; (repeat (first | (with_reducible exact Below.refl _ _) | (with_reducible refine Go.below_drewN ?_ _) | (with_reducible refine Below.drew ?_) | (with_reducible refine Below.alloc ?_ (by first | exact Nat.le_refl _ | (simp; done) | (simp; omega) | omega) _) | (with_reducible refine Below.setCell ?_ (by first | exact Nat.le_refl _ | (simp; done) | (simp; omega) | omega) _))))
  clear hW
  obtain ⟨x0, x1, x2, f0, f1, f2, hlx⟩ := HX.out.r3
  go_wp2_with fail
  clear x0 x1 x2 f0 f1 f2 hlx
  refine (HCR.out _ (HI.out.below HB.out) (HJ.out.below HB.out)).mono ?_
  rintro e w1 ⟨rfl, hb1⟩
  replace HX := hide (HX.out.below hb1)
  replace HB := hide (HB.out.trans (hb1.mono HB.out.size))
  clear hb1 HCR
  go_wp2_with fail
  refine (HBE.out _ (HK.out.below HB.out)).mono ?_
  rintro e w2 ⟨rfl, q', hq'⟩
  replace HX := hide (show Box w2 w.heap.size 30 #[.int .i64 L, .slice A n c, .slice B m d] by rw [hq']; exact HX.out.drewN _)
  replace HB := hide (show Below w.heap.size w w2 by rw [hq']; exact Go.below_drewN HB.out _)
  clear hq' HBE
  go_wp2_with fail
  refine (orS_two e1 e2 w2.heap.size 2 _ ((Box.made rfl).at_ 0) ((Box.made rfl).at_ 1)).mono ?_
  rintro e w3 ⟨rfl, hw3⟩
  rw [← HE.out]
  replace HX := hide (show Box w3 w.heap.size 30 #[.int .i64 L, .slice A n c, .slice B m d] by rw [← hw3]; exact HX.out.alloc _)
  replace HB := hide (show Below w.heap.size w w3 by rw [← hw3]; exact HB.out.alloc HB.out.size _)
  clear hw3
  by_cases hv0 : v = 0
  case neg =>
    have tv : (v != 0) = true := by simpa using hv0
    clear HE HOK HI HJ HK HBZ HII
    go_wp2_with fail
    go_ret2
    exact ⟨_, rfl, fun h => absurd h hv0, fun _ => rfl, HB.out⟩
  subst hv0
  have hz : e1 = 0 ∧ e2 = 0 := by
    have h := HE.out
    unfold orS at h
    by_cases e : e1 = 0
    · rw [if_pos e] at h; exact ⟨e, h.symm⟩
    · rw [if_neg e] at h; exact absurd h.symm e
  obtain ⟨p, rfl, rfl, hok⟩ := HOK.out hz.1
  obtain ⟨hq0, hq4, hXB⟩ := HBZ.out hz.2
  obtain ⟨b, o, rfl⟩ := intsAt_some HI.out hok.some_
  obtain ⟨b2, o2, rfl⟩ := intsAt_some HJ.out (Nat.succ_pos p)
  have HSQ := hide (fun W h1 h2 => sequence_any b o n c b2 o2 p d q T S W hok hq4 h1 h2)
  have HBT := hide (fun j (hj : j < q) => (show bits .xor .i64 (itS (p + 1) n T S j 0) (X j) = xor1 (itS (p + 1) n T S j 0) (X j) from xor1_bits (itS_bit hok.bits j 0 (Nat.succ_pos p)) (hXB j hj)))
  have HSS := hide (scrF_set (p + 1) n T S X)
  have HSZ := hide (show (fun j => itS (p + 1) n T S j 0) = scrF (p + 1) n T S X 0 from by funext j; exact (if_neg (by omega)).symm)
  have HSE := hide (show ∀ j, j < q → scrF (p + 1) n T S X q j = xor1 (itS (p + 1) n T S j 0) (X j) from fun j hj => if_pos hj)
  have HSC := hide (show ∀ k, scrF (p + 1) n T S X k k = itS (p + 1) n T S k 0 from fun k => if_neg (by omega))
  have hI := HII.out
  obtain ⟨U, hU⟩ : ∃ z, scrF (p + 1) n T S X = z := ⟨_, rfl⟩
  simp only [hI, hU] at HSQ HBT HSS HSZ HSE HSC
  have hB0 := HB.out.size
  clear HOK hok HE HBZ hz hXB hI hU HII
  obtain ⟨x0, x1, x2, f0, f1, f2, hlx⟩ := HX.out.r3
  go_wp2_with fail
  clear x0 x1 x2 f0 f1 f2 hlx
  refine (HSQ.out _ (HI.out.below HB.out) (HJ.out.below HB.out)).mono ?_
  rintro e w4 ⟨g, rfl, ho, hb4⟩
  have hg3 : w3.heap.size ≤ g := (ho.row hq0).elim fun g' h => h.elim fun c' h => by
    obtain ⟨e, h, -⟩ := h
    injection e with e1
    injection e1 with e1
    injection e1 with e1
    rw [e1]; exact h
  replace HB := hide (HB.out.trans (hb4.mono HB.out.size))
  have HO := hide (ownS_weak ho hB0)
  rw [HSZ.out] at HO
  clear ho hb4 HSQ HSZ HX HI HJ
  go_wp2_with fail
  go_loopw [25] (fun i wr => ∃ k : Nat, k ≤ q ∧ i = .int .i64 (k : Int) ∧ Hid (OwnInts wr w.heap.size (.slice (some ⟨g, 0, none⟩) q q) q (U k)) ∧ Hid (Below w.heap.size w wr)) (fun i _ => q - (Go.RowKit.intOf i).toNat)
  case atStart => exact ⟨0, Nat.zero_le _, rfl, HO, HB⟩
  case round =>
    clear HO HB
    obtain ⟨k, hk, rfl, HO, HB⟩ := hrel
    obtain ⟨wA, rfl⟩ : ∃ x : World, x = wr := ⟨_, rfl⟩
    by_cases hlt : k < q
    case neg =>
      obtain rfl : q = k := by omega
      have hltz : ¬ (q : Int) < (q : Int) := by omega
      clear HBT HSS HSC
      go_wp2_with fail
      go_ret2
      exact ⟨_, rfl, ⟨⟨g, rfl⟩, HO.out.congr HSE.out⟩, HB.out⟩
    have hltz : (k : Int) < (q : Int) := by omega
    obtain ⟨bl, ol, hbe, -, -, c1⟩ := (HK.out.below HB.out) k hlt
    have c0 := HO.out.cellAt hlt
    rw [HSC.out k] at c0
    have k0 := HO.out.frozen k
    have hx := HBT.out k hlt
    have HO2 := hide (HO.out.set_ k (xor1 (I k 0) (X k)))
    rw [HSS.out k] at HO2
    obtain ⟨y, hy⟩ : ∃ z, xor1 (I k 0) (X k) = z := ⟨_, rfl⟩
    rw [hy] at hx HO2
    have HB2 := hide (HB.out.setCell (p := ⟨g, k, none⟩) (Nat.le_trans hB0 hg3) (.int .i64 y))
    subst hbe
    clear HO HB HBT HSS HSC HSE HK hy
    go_wp2_with fail
    go_roundw
    case rel => exact ⟨k + 1, by omega, by go_num, HO2, HB2⟩
    case measure => simp [Go.RowKit.intOf]; omega
end Go.Proofs.YtcdplfjegopmdaaGreat
/- CopyRegister of the reference. -/
namespace Go.Proofs.YtcdplfjegopmdaaGreat
open Go.RowKit Go.Lib
theorem ownS_far {w : World} {n b : Nat} {v : Value} {F : Nat → Int} (h : OwnInts w (b + 2) v n F) (u0 u1 u2 : Value) :
    OwnInts (((w.setCell ⟨b + 1, 0, none⟩ u0).setCell ⟨b + 1, 1, none⟩ u1).setCell ⟨b + 1, 2, none⟩ u2) (b + 2) v n F := by
  have one : ∀ (w : World) (o : Nat) (u : Value), OwnInts w (b + 2) v n F → OwnInts (w.setCell ⟨b + 1, o, none⟩ u) (b + 2) v n F := fun w o u h => by
    rcases h with ⟨h1, h2⟩
    refine ⟨h1, ?_⟩
    rcases h2 with h2 | ⟨g, cap, cur, e, hb, hg, rest⟩
    · exact .inl h2
    · exact .inr ⟨g, cap, cur, e, hb, (Below.heap_setCell w ⟨b + 1, o, none⟩ u g (by show g ≠ b + 1; omega)).trans hg, rest⟩
  exact one _ _ _ (one _ _ _ (one _ _ _ h))
theorem ownS_block {w : World} {base n c b o : Nat} {F : Nat → Int} (h : OwnInts w base (.slice (some ⟨b, o, none⟩) n c) n F) : base ≤ b ∧ b < w.heap.size := by
  rcases h.2 with ⟨h1, -⟩ | ⟨g, cap, cur, h1, hb, hg, -⟩
  · simp at h1
  · injection h1 with e1; injection e1 with e1; injection e1 with e1; subst e1
    exact ⟨hb, (Array.getElem?_eq_some_iff.1 hg).1⟩
set_option maxHeartbeats 4000000 in
set_option maxRecDepth 100000 in
theorem CopyRegister_any (L : Int) (A B : Option Addr) (n c m d : Nat) (T S : Nat → Int) (w : World) (hn : n ≤ 100000) (hm : m ≤ 100000) (hT : IntsAt w 0 A n T) (hS : IntsAt w 0 B m S) :
    Calls Tryz.prog 17 #[.agg #[.int .i64 L, .slice A n c, .slice B m d]] w fun e w' => ∃ C f D g, e = .returned (.agg #[.int .i64 L, .slice C n f, .slice D m g]) ∧ OwnInts w' w.heap.size (.slice C n f) n T ∧ OwnInts w' w.heap.size (.slice D m g) m S ∧ Below w.heap.size w w' ∧ ∀ b b' o o', C = some ⟨b, o, none⟩ → D = some ⟨b', o', none⟩ → b < b' := by
  have HI := hide hT
  have HJ := hide hS
  have HC1 := hide (fun W (h : IntsAt W 0 A n T) => copyInts_own A n c T W (by omega) h)
  have HC2 := hide (fun W (h : IntsAt W 0 B m S) => copyInts_own B m d S W (by omega) h)
  clear hT hS
  go_enter Tryz.func17, Tryz.ntmps17
  go_upto_region 1 with fail
  obtain ⟨w_1, hw_1⟩ : ∃ q : World, q = ((w.alloc (.cells #[.int .i64 L, .slice A n c, .slice B m d] 30)).alloc (.cells #[.int .i64 0, .slice none 0 0, .slice none 0 0] 30)) := ⟨_, rfl⟩
  try rw [← hw_1]
  have HX0 := hide (show Box w_1 (w.heap.size) 30 #[.int .i64 L, .slice A n c, .slice B m d] by rw [hw_1]; exact (Box.made rfl).alloc _)
  have HX1 := hide (show Box w_1 (w.heap.size + 1) 30 #[.int .i64 0, .slice none 0 0, .slice none 0 0] by rw [hw_1]; exact Box.made (by simp))
  have HB := hide (show Below w.heap.size w w_1 by rw [hw_1]; (repeat (first | (with_reducible exact Below.refl _ _) | (with_reducible refine Go.below_drewN ?_ _) | (with_reducible refine Below.drew ?_) | (with_reducible refine Below.alloc ?_ (by first | exact Nat.le_refl _ | (simp; done) | (simp; omega) | omega) _) | (with_reducible refine Below.setCell ?_ (by first | exact Nat.le_refl _ | (simp; done) | (simp; omega) | omega) _))))
  clear hw_1
  refine wp_region_held_drew (S := fun w' => w'.cell? ⟨w.heap.size, 0, none⟩ = some (.int .i64 L) ∧ w'.cell? ⟨w.heap.size, 1, none⟩ = some (.slice A n c) ∧ w'.cell? ⟨w.heap.size, 2, none⟩ = some (.slice B m d)) (by kernel_rfl) ⟨HX0.out.r3.1, HX0.out.r3.2.1, HX0.out.r3.2.2.1⟩ (fun hHeld => ?_)
  obtain ⟨w_2, hw_2⟩ : ∃ q : World, q = w_1.drew := ⟨_, rfl⟩
  rw [← hw_2] at hHeld ⊢
  have hc_2 : Below w_1.heap.size w_1 w_2 := by rw [hw_2]; exact (Below.refl _ _).drew
  clear hw_2
  replace HX0 := hide (HX0.out.below hc_2)
  replace HX1 := hide (HX1.out.below hc_2)
  replace HB := hide (HB.out.trans (hc_2.mono HB.out.size))
  clear hc_2
  refine wpAnyH_take (i := 0) (oi := ⟨some 3, _, _, _, _, _⟩) (v := ?_) rfl (by kernel_rfl) (by kernel_rfl) (by kernel_rfl) (fun _ _ _ h => h) (Or.inl ⟨by rfl, ?_⟩) (by assumption) ?_
  rotate_left
  · (intro w' hSw; (try dsimp only at hSw); go_simp <;> (with_reducible rfl))
  try simp only [Act.put, List.setIfInBounds_toArray, List.set_cons_zero, List.set_cons_succ]
  refine wpAnyH_take (i := 1) (oi := ⟨some 4, _, _, _, _, _⟩) (v := ?_) rfl (by kernel_rfl) (by kernel_rfl) (by kernel_rfl) (fun _ _ _ h => h) (Or.inl ⟨by rfl, ?_⟩) (by assumption) ?_
  rotate_left
  · (intro w' hSw; (try dsimp only at hSw); go_simp <;> (with_reducible rfl))
  try simp only [Act.put, List.setIfInBounds_toArray, List.set_cons_zero, List.set_cons_succ]
  refine wpAnyH_take (i := 2) (oi := ⟨some 5, _, _, _, _, _⟩) (v := ?_) rfl (by kernel_rfl) (by kernel_rfl) (by kernel_rfl) (fun _ _ _ h => h) (Or.inl ⟨by rfl, ?_⟩) (by assumption) ?_
  rotate_left
  · (intro w' hSw; (try dsimp only at hSw); go_simp <;> (with_reducible rfl))
  try simp only [Act.put, List.setIfInBounds_toArray, List.set_cons_zero, List.set_cons_succ]
  refine wpAnyH_take (i := 3) (oi := ⟨some 6, _, _, _, _, _⟩) (v := ?_) rfl (by kernel_rfl) (by kernel_rfl) (by kernel_rfl) (fun _ _ _ h => h) (Or.inl ⟨by rfl, ?_⟩) (by assumption) ?_
  rotate_left
  · (intro w' hSw; (try dsimp only at hSw); go_simp <;> (with_reducible rfl))
  try simp only [Act.put, List.setIfInBounds_toArray, List.set_cons_zero, List.set_cons_succ]
  refine wpAnyH_take (i := 5) (oi := ⟨some 8, _, _, _, _, _⟩) (v := ?_) rfl (by kernel_rfl) (by kernel_rfl) (by kernel_rfl) (fun _ _ _ h => h) (Or.inl ⟨by rfl, ?_⟩) (by assumption) ?_
  rotate_left
  · (intro w' hSw; (try dsimp only at hSw); go_simp <;> (with_reducible rfl))
  try simp only [Act.put, List.setIfInBounds_toArray, List.set_cons_zero, List.set_cons_succ]
  refine wpAnyH_take (i := 6) (oi := ⟨some 9, _, _, _, _, _⟩) (v := ?_) rfl (by kernel_rfl) (by kernel_rfl) (by kernel_rfl) (fun _ _ _ h => h) (Or.inl ⟨by rfl, ?_⟩) (by assumption) ?_
  rotate_left
  · (intro w' hSw; (try dsimp only at hSw); go_simp <;> (with_reducible rfl))
  try simp only [Act.put, List.setIfInBounds_toArray, List.set_cons_zero, List.set_cons_succ]
  refine wpAnyH_ready (rs := [4]) (by kernel_rfl) (by simp) ?_
  refine AllReadyH.cons (o := ⟨some 7, _, _, _, _, _⟩) rfl (fun K' hK => ?_) AllReadyH.nil
  go_simp
  go_at_call 14
  have hz1 : w.heap.size + 2 ≤ _ := HX1.out.lt
  refine (HC1.out _ (HI.out.below HB.out)).mono ?_
  rintro e_ w_3 ⟨v1, rfl, ho1, hb_3⟩
  replace HX0 := hide (HX0.out.below hb_3)
  replace HX1 := hide (HX1.out.below hb_3)
  replace HB := hide (HB.out.trans (hb_3.mono HB.out.size))
  clear hb_3
  obtain ⟨C, f, rfl, -, -⟩ := ho1.form
  have HO1 := hide (ownS_weak ho1 (base' := w.heap.size + 2) hz1)
  clear ho1 hz1
  go_wp2_with fail
  refine hK.out _ _ ⟨HX0.out.r3.1, HX0.out.r3.2.1, HX0.out.r3.2.2.1⟩ (fun hHeld => ?_)
  clear hK K'
  try simp only [Act.put, List.setIfInBounds_toArray, List.set_cons_zero, List.set_cons_succ]
  refine wpAnyH_ready (rs := [7]) (by kernel_rfl) (by simp) ?_
  refine AllReadyH.cons (o := ⟨some 10, _, _, _, _, _⟩) rfl (fun K' hK => ?_) AllReadyH.nil
  go_simp
  go_at_call 14
  have hz2 : w.heap.size + 2 ≤ _ := HX1.out.lt
  refine (HC2.out _ (HJ.out.below HB.out)).mono ?_
  rintro e_ w_4 ⟨v2, rfl, ho2, hb_4⟩
  have hl1 : ∀ b o, C = some ⟨b, o, none⟩ → b < w_3.heap.size := fun b o e => by subst e; exact (ownS_block HO1.out).2
  replace HX0 := hide (HX0.out.below hb_4)
  replace HX1 := hide (HX1.out.below hb_4)
  replace HO1 := hide (HO1.out.below hb_4)
  replace HB := hide (HB.out.trans (hb_4.mono HB.out.size))
  clear hb_4
  obtain ⟨D, g, rfl, -, -⟩ := ho2.form
  have HO2 := hide (ownS_weak ho2 (base' := w.heap.size + 2) hz2)
  have HNE := hide (show ∀ b b' o o', C = some ⟨b, o, none⟩ → D = some ⟨b', o', none⟩ → b < b' from fun b b' o o' q1 q2 => Nat.lt_of_lt_of_le (m := w_3.heap.size) (hl1 b o q1) (by subst q2; exact (ownS_block ho2).1))
  clear ho2 hz2 hl1
  go_wp2_with fail
  refine hK.out _ _ ⟨HX0.out.r3.1, HX0.out.r3.2.1, HX0.out.r3.2.2.1⟩ (fun hHeld => ?_)
  clear hK K'
  try simp only [Act.put, List.setIfInBounds_toArray, List.set_cons_zero, List.set_cons_succ]
  refine wpAnyH_take (i := 8) (oi := ⟨some 11, _, _, _, _, _⟩) (v := ?_) rfl (by kernel_rfl) (by kernel_rfl) (by kernel_rfl) (fun _ _ _ h => h) (Or.inl ⟨by rfl, ?_⟩) (by assumption) ?_
  rotate_left
  · (intro w' hSw; (try dsimp only at hSw); go_simp <;> (with_reducible rfl))
  try simp only [Act.put, List.setIfInBounds_toArray, List.set_cons_zero, List.set_cons_succ]
  refine wpAnyH_ready (rs := [9]) (by kernel_rfl) (by simp) ?_
  refine AllReadyH.cons (o := ⟨none, _, _, _, _, _⟩) rfl (fun K' hK => ?_) AllReadyH.nil
  obtain ⟨y0, y1, y2, k0, k1, k2, hly⟩ := HX1.out.r3
  go_simp
  clear y0 y1 y2 k0 k1 k2 hly
  replace HX0 := hide (((HX0.out.other (p := ⟨w.heap.size + 1, 0, none⟩) (by show w.heap.size ≠ w.heap.size + 1; omega) (.int .i64 L)).other (p := ⟨w.heap.size + 1, 1, none⟩) (by show w.heap.size ≠ w.heap.size + 1; omega) (.slice C n f)).other (p := ⟨w.heap.size + 1, 2, none⟩) (by show w.heap.size ≠ w.heap.size + 1; omega) (.slice D m g))
  replace HX1 := hide (HX1.out.r3putAll (.int .i64 L) (.slice C n f) (.slice D m g))
  replace HB := hide (((HB.out.setCell (p := ⟨w.heap.size + 1, 0, none⟩) (Nat.le_succ _) (.int .i64 L)).setCell (p := ⟨w.heap.size + 1, 1, none⟩) (Nat.le_succ _) (.slice C n f)).setCell (p := ⟨w.heap.size + 1, 2, none⟩) (Nat.le_succ _) (.slice D m g))
  replace HO1 := hide (ownS_far HO1.out  (.int .i64 L) (.slice C n f) (.slice D m g))
  replace HO2 := hide (ownS_far HO2.out  (.int .i64 L) (.slice C n f) (.slice D m g))
  obtain ⟨w_5, hw_5⟩ : ∃ q : World, (((w_4.setCell ⟨w.heap.size + 1, 0, none⟩ (.int .i64 L)).setCell ⟨w.heap.size + 1, 1, none⟩ (.slice C n f)).setCell ⟨w.heap.size + 1, 2, none⟩ (.slice D m g)) = q := ⟨_, rfl⟩
  rw [hw_5] at HX0 HX1 HB HO1 HO2 ⊢
  clear hw_5
  refine hK.out _ _ ⟨HX0.out.r3.1, HX0.out.r3.2.1, HX0.out.r3.2.2.1⟩ (fun hHeld => ?_)
  clear hK K'
  try simp only [Act.put, List.setIfInBounds_toArray, List.set_cons_zero, List.set_cons_succ]
  refine wpAnyH_done (by kernel_rfl) ?_ _
  clear hHeld
  obtain ⟨y0, y1, y2, k0, k1, k2, hly⟩ := HX1.out.r3
  go_wp2_with fail
  refine bodyPost_ret (v := .agg #[.int .i64 L, .slice C n f, .slice D m g]) ?_ rfl ⟨C, f, D, g, rfl, ownS_weak HO1.out (by omega), ownS_weak HO2.out (by omega), HB.out, HNE.out⟩
  simp [results, Tryz.results17, go_sem, y0, y1, y2]
end Go.Proofs.YtcdplfjegopmdaaGreat
/- pointOf of the code. -/
namespace Go.Proofs.YtcdplfjegopmdaaGreat
open Go.RowKit Go.Lib
theorem levelOf_any (b o c h : Nat) (F : Nat → Int) (w : World) (h1 : 1 ≤ h) (h3 : h ≤ 3) (hc : h ≤ c) (hc9 : c ≤ 9223372036854775807) (hF : ∀ j, j < h → IsBit (F j)) (hI : IntsAt w 0 (some ⟨b, o, none⟩) h F) :
    Calls Tryz.prog 97 #[.slice (some ⟨b, o, none⟩) h c] w fun e w' => e = .returned (.int .i64 (lvl h F)) ∧ Below w.heap.size w w' := by
  match h, h1, h3 with
  | 1, _, _ => exact levelOf1_any b o c F w hc hc9 hF hI
  | 2, _, _ => exact levelOf2_any b o c F w hc hc9 hF hI
  | 3, _, _ => exact levelOf3_any b o c F w hc hc9 hF hI
set_option maxRecDepth 100000 in
theorem wpList_append_oneI {ops : Array Oper} {rest : List Oper} {o : Oper} {a : Act} {Q : Exit → Act → World → Prop} (w : World) (hgd : o.guard = none) (s x : Operand)
    (ho : o.op = .call { callee := .builtin .append, args := #[s, x], argTypes := #[24, 24] })
    (base : Nat) (v : Value) (n : Nat) (F : Nat → Int) (y : Int) (hs : a.eval s = v) (hown : OwnInts w base v n F) (g : Nat) (hx : a.eval x = .slice (some ⟨g, 0, none⟩) 1 1) (hy : w.cell? ⟨g, 0, none⟩ = some (.int .i64 y)) (hn : n ≤ 1000) (hbase : base ≤ w.heap.size)
    (h : ∀ v' w', OwnInts w' base v' (n + 1) (catF n F fun _ => y) → w.grownBy w' v.ownBlock → (v'.ownBlock = v.ownBlock ∨ v'.ownBlock = some w.heap.size) → wpList Tryz.prog ops Q rest (a.put o.dst v') w') : wpList Tryz.prog ops Q (o :: rest) a w := by
  obtain ⟨i0, hi, hz0, hz1, hz2⟩ := info_parts intInfo
  refine wpList_append_own_at w hgd s x 24 ho base 3 i0 (.int .i64 0) 1 8 Tryz.underlying24 hi hz0 hz1 hz2 rfl (by decide) v n _ hs hown ⟨g, 0, none⟩ 1 1 (intCells 1 fun _ => y) hx (by rw [intCells_len])
    (fun j u hu => by
      rw [intCells_get] at hu
      split at hu
      · rename_i hj
        obtain rfl : j = 0 := by omega
        injection hu with hu
        subst hu
        rw [show (⟨g, 0, none⟩ : Addr).add 0 = ⟨g, 0, none⟩ by simp [Addr.add]]
        exact hy
      · cases hu)
    (fun u hu => by
      obtain ⟨j, -, rfl⟩ := List.mem_map.1 hu
      rfl) (by unfold maxLen; omega) (by omega) hbase fun v' w' h1 h2 _ h3 => h v' w' ?_ h2 h3
  rw [intCells_cat] at h1
  exact h1
/-- Two lists of a call's own, in an array of the call's own. -/
structure Two (w : World) (B q : Nat) (vA vB : Value) (nA nB : Nat) (FA FB : Nat → Int) : Prop where
  box : Box w q 116 #[vA, vB]
  a : OwnInts w B vA nA FA
  b : OwnInts w B vB nB FB
  ab : vA.ownBlock = none ∨ vA.ownBlock ≠ vB.ownBlock
  qa : vA.ownBlock ≠ some q
  qb : vB.ownBlock ≠ some q
theorem Two.below {w w' : World} {B q : Nat} {vA vB : Value} {nA nB : Nat} {FA FB : Nat → Int} (h : Two w B q vA vB nA nB FA FB) (hb : Below w.heap.size w w') : Two w' B q vA vB nA nB FA FB :=
  ⟨h.box.below hb, h.a.below hb, h.b.below hb, h.ab, h.qa, h.qb⟩
theorem ownV_other {w : World} {base n q o : Nat} {v : Value} {F : Nat → Int} (h : OwnInts w base v n F) (hq : v.ownBlock ≠ some q) (u : Value) : OwnInts (w.setCell ⟨q, o, none⟩ u) base v n F :=
  ownsRow_setCell_other h (a := ⟨q, o, none⟩) hq u
theorem ownV_at {w w' : World} {base n : Nat} {v v' : Value} {k : Nat} {F : Nat → Int} (h : OwnInts w base v n F) (hk : v.ownBlock = some k) : base ≤ k ∧ k < w.heap.size := World.ownsRow.lt h k hk
theorem Two.appA {w w' : World} {B q : Nat} {vA vB vA' : Value} {nA nB nA' : Nat} {FA FB FA' : Nat → Int} (h : Two w B q vA vB nA nB FA FB) (ha : OwnInts w' B vA' nA' FA') (hg : w.grownBy w' vA.ownBlock) (hat : vA'.ownBlock = vA.ownBlock ∨ vA'.ownBlock = some w.heap.size) : Two (w'.setCell ⟨q, 0, none⟩ vA') B q vA' vB nA' nB FA' FB := by
  have hq := h.box.lt
  have hqa' : vA'.ownBlock ≠ some q := by
    rcases hat with e | e
    · rw [e]; exact h.qa
    · rw [e]; intro e2; injection e2 with e2; omega
  have hb1 : OwnInts w' B vB nB FB := World.ownsRow.kept h.b hg (by
    rcases h.ab with e | e
    · rw [e]
      by_cases e2 : vB.ownBlock = none
      · exact .inl e2
      · exact .inr e2
    · exact .inr (Ne.symm e))
  refine ⟨by have := (show Box w' q 116 #[vA, vB] from (hg.block q hq (fun e => h.qa e.symm)).trans h.box).set_ 0 vA'; simpa using this, ownV_other ha hqa' _, ownV_other hb1 h.qb _, ?_, hqa', h.qb⟩
  rcases hat with e | e
  · rw [e]; exact h.ab
  · right
    rw [e]
    intro e2
    have := (ownV_at (w' := w) (v' := vB) h.b e2.symm).2
    omega
theorem Two.appB {w w' : World} {B q : Nat} {vA vB vB' : Value} {nA nB nB' : Nat} {FA FB FB' : Nat → Int} (h : Two w B q vA vB nA nB FA FB) (hb : OwnInts w' B vB' nB' FB') (hg : w.grownBy w' vB.ownBlock) (hat : vB'.ownBlock = vB.ownBlock ∨ vB'.ownBlock = some w.heap.size) : Two (w'.setCell ⟨q, 1, none⟩ vB') B q vA vB' nA nB' FA FB' := by
  have hq := h.box.lt
  have hqb' : vB'.ownBlock ≠ some q := by
    rcases hat with e | e
    · rw [e]; exact h.qb
    · rw [e]; intro e2; injection e2 with e2; omega
  have ha1 : OwnInts w' B vA nA FA := World.ownsRow.kept h.a hg h.ab
  refine ⟨by have := (show Box w' q 116 #[vA, vB] from (hg.block q hq (fun e => h.qb e.symm)).trans h.box).set_ 1 vB'; simpa using this, ownV_other ha1 h.qa _, ownV_other hb hqb' _, ?_, h.qa, hqb'⟩
  rcases hat with e | e
  · rw [e]; exact h.ab
  · right
    rw [e]
    intro e2
    have := (ownV_at (w' := w) (v' := vA) h.a e2).2
    omega
theorem grown_own_below {w0 w w' : World} {B n : Nat} {v : Value} {F : Nat → Int} (h : Below B w0 w) (ho : OwnInts w B v n F) (hg : w.grownBy w' v.ownBlock) (hs : B ≤ w.heap.size) : Below B w0 w' :=
  h.trans ⟨hg.os, hg.tape, hg.output, hg.size, fun k hk => hg.block k (by omega) (by intro e; have := (ownV_at (w' := w) (v' := v) ho e.symm).1; omega)⟩
end Go.Proofs.YtcdplfjegopmdaaGreat
/- The walk of pointOf of the code. -/
namespace Go.Proofs.YtcdplfjegopmdaaGreat
open Go.RowKit Go.Lib
theorem Box.t2 {w : World} {b : Nat} {t : TypeId} {x y : Value} (h : Box w b t #[x, y]) : w.cell? ⟨b, 0, none⟩ = some x ∧ w.cell? ⟨b, 1, none⟩ = some y ∧ w.frozen? ⟨b, 0, none⟩ = false ∧ w.frozen? ⟨b, 1, none⟩ = false ∧ b < w.heap.size := ⟨h.at_ 0, h.at_ 1, h.free 0, h.free 1, h.lt⟩
theorem Box.t2put {w : World} {b : Nat} {t : TypeId} {x y : Value} (h : Box w b t #[x, y]) (u v : Value) : Box ((w.setCell ⟨b, 0, none⟩ u).setCell ⟨b, 1, none⟩ v) b t #[u, v] := by
  have := (h.set_ 0 u).set_ 1 v
  simpa using this
theorem Two.boxA {w w' : World} {B q : Nat} {vA vB : Value} {nA nB : Nat} {FA FB : Nat → Int} (h : Two w B q vA vB nA nB FA FB) (hg : w.grownBy w' vA.ownBlock) : Box w' q 116 #[vA, vB] := (hg.block q h.box.lt (fun e => h.qa e.symm)).trans h.box
theorem Two.boxB {w w' : World} {B q : Nat} {vA vB : Value} {nA nB : Nat} {FA FB : Nat → Int} (h : Two w B q vA vB nA nB FA FB) (hg : w.grownBy w' vB.ownBlock) : Box w' q 116 #[vA, vB] := (hg.block q h.box.lt (fun e => h.qb e.symm)).trans h.box
theorem box_own {w w' : World} {B b n : Nat} {t : TypeId} {cs : Array Value} {v : Value} {F : Nat → Int} (h : Box w b t cs) (ho : OwnInts w B v n F) (hg : w.grownBy w' v.ownBlock) (hb : b < B) : Box w' b t cs :=
  (hg.block b h.lt (by intro e; have := (ownV_at (w' := w) (v' := v) ho e.symm).1; omega)).trans h
theorem catF_next {n : Nat} {F : Nat → Int} {y : Int} (h : F n = y) (j : Nat) (hj : j < n + 1) : catF n F (fun _ => y) j = F j := by
  unfold catF
  by_cases e : j < n
  · rw [if_pos e]
  · obtain rfl : j = n := by omega
    rw [if_neg e, h]
theorem intsAt_cellK {w : World} {lo b o n k : Nat} {F : Nat → Int} (h : IntsAt w lo (some ⟨b, o, none⟩) n F) (hk : k < n) : w.cell? ⟨b, o + k, none⟩ = some (.int .i64 (F k)) := by
  obtain ⟨b', o', e, -, -, hc⟩ := h k hk
  injection e with e
  injection e with e1 e2
  subst e1; subst e2
  exact hc
theorem own_form {w : World} {B n : Nat} {v : Value} {F : Nat → Int} (h : OwnInts w B v n F) (hn : 0 < n) : ∃ q c, v = .slice (some ⟨q, 0, none⟩) n c ∧ n ≤ c ∧ c ≤ 9223372036854775807 := by
  obtain ⟨q, c, e, -, -⟩ := h.row hn
  subst e
  exact ⟨q, c, rfl, h.cap_any⟩
set_option maxHeartbeats 8000000 in
set_option maxRecDepth 100000 in
theorem pointOf_any (b o c h n : Nat) (F : Nat → Int) (w : World) (hn1 : n ≤ 2 * h) (hn2 : 2 * h ≤ n) (h1 : 1 ≤ h) (h3 : h ≤ 3) (hF : ∀ j, j < n → IsBit (F j)) (hI : IntsAt w 0 (some ⟨b, o, none⟩) n F) :
    Calls Tryz.prog 62 #[.slice (some ⟨b, o, none⟩) n c] w fun e w' => e = .returned (.agg #[.int .i64 (lvl h fun j => F (2 * j)), .int .i64 (lvl h fun j => F (2 * j + 1))]) ∧ Below w.heap.size w w' := by
  have HI := hide hI
  have HFA := hide (show ∀ j, j < h → IsBit ((fun j => F (2 * j)) j) from fun j hj => hF (2 * j) (by omega))
  have HFB := hide (show ∀ j, j < h → IsBit ((fun j => F (2 * j + 1)) j) from fun j hj => hF (2 * j + 1) (by omega))
  have HLA := hide (fun (q r : Nat) W (hr : h ≤ r) (hr9 : r ≤ 9223372036854775807) (k : IntsAt W 0 (some ⟨q, 0, none⟩) h (fun j => F (2 * j))) => levelOf_any q 0 r h _ W h1 h3 hr hr9 HFA.out k)
  have HLB := hide (fun (q r : Nat) W (hr : h ≤ r) (hr9 : r ≤ 9223372036854775807) (k : IntsAt W 0 (some ⟨q, 0, none⟩) h (fun j => F (2 * j + 1))) => levelOf_any q 0 r h _ W h1 h3 hr hr9 HFB.out k)
  have HEA := hide (show ∀ j, (fun j => F (2 * j)) j = F (2 * j) from fun _ => rfl)
  have HEB := hide (show ∀ j, (fun j => F (2 * j + 1)) j = F (2 * j + 1) from fun _ => rfl)
  obtain ⟨FA, hFA⟩ : ∃ z : Nat → Int, (fun j => F (2 * j)) = z := ⟨_, rfl⟩
  obtain ⟨FB, hFB⟩ : ∃ z : Nat → Int, (fun j => F (2 * j + 1)) = z := ⟨_, rfl⟩
  rw [hFA, hFB]
  rw [hFA] at HLA HEA
  rw [hFB] at HLB HEB
  obtain ⟨lA, hlA⟩ : ∃ z, lvl h FA = z := ⟨_, rfl⟩
  obtain ⟨lB, hlB⟩ : ∃ z, lvl h FB = z := ⟨_, rfl⟩
  rw [hlA, hlB]
  rw [hlA] at HLA
  rw [hlB] at HLB
  clear hI hF HFA HFB hFA hFB hlA hlB
  go_enter Tryz.func62, Tryz.ntmps62
  go_upto_region 2 with fail
  obtain ⟨w_1, hw_1⟩ : ∃ q : World, q = ((w.alloc (.cells #[.int .i64 0, .int .i64 0] 62)).alloc (.cells #[.slice none 0 0, .slice none 0 0] 116)) := ⟨_, rfl⟩
  try rw [← hw_1]
  have HX0 := hide (show Box w_1 (w.heap.size) 62 #[.int .i64 0, .int .i64 0] by rw [hw_1]; exact (Box.made rfl).alloc _)
  have HX1 := hide (show Box w_1 (w.heap.size + 1) 116 #[.slice none 0 0, .slice none 0 0] by rw [hw_1]; exact Box.made (by simp))
  have HB := hide (show Below w.heap.size w w_1 by rw [hw_1]; (repeat (first | (with_reducible exact Below.refl _ _) | (with_reducible refine Go.below_drewN ?_ _) | (with_reducible refine Below.drew ?_) | (with_reducible refine Below.alloc ?_ (by first | exact Nat.le_refl _ | (simp; done) | (simp; omega) | omega) _) | (with_reducible refine Below.setCell ?_ (by first | exact Nat.le_refl _ | (simp; done) | (simp; omega) | omega) _))))
  clear hw_1
  have hsz : w.heap.size + 2 ≤ w_1.heap.size := HX1.out.lt
  have HT := hide (show Two w_1 (w.heap.size + 2) (w.heap.size + 1) (.slice none 0 0) (.slice none 0 0) 0 0 FA FB from ⟨HX1.out, OwnInts.nil_ _ _ _, OwnInts.nil_ _ _ _, .inl rfl, (by intro e; cases e), (by intro e; cases e)⟩)
  clear HX1 hsz
  go_wp2_with fail
  go_loopw [8] (fun i wr => ∃ (k : Nat) (vA vB : Value), k ≤ n ∧ i = .int .i64 (k : Int) ∧ Hid (Two wr (w.heap.size + 2) (w.heap.size + 1) vA vB ((k + 1) / 2) (k / 2) FA FB) ∧ Hid (Box wr w.heap.size 62 #[.int .i64 0, .int .i64 0]) ∧ Hid (Below w.heap.size w wr)) (fun i _ => n - (Go.RowKit.intOf i).toNat)
  case atStart => exact ⟨0, _, _, Nat.zero_le _, rfl, HT, HX0, HB⟩
  case round =>
    clear HT HX0 HB
    obtain ⟨k, vA, vB, hk, rfl, HT, HX0, HB⟩ := hrel
    obtain ⟨wA, rfl⟩ : ∃ x : World, x = wr := ⟨_, rfl⟩
    have hq2 : w.heap.size + 2 ≤ wA.heap.size := HT.out.box.lt
    by_cases hlt : k < n
    case pos =>
      have hltz : (k : Int) < (n : Int) := by omega
      obtain ⟨c0, z0, k0, k1, hlz⟩ := HT.out.box.t2
      have x0 := intsAt_cellK (HI.out.below HB.out) hlt
      have HTW := hide (fun ob : Obj => HT.out.below ((Below.refl wA.heap.size wA).alloc (Nat.le_refl _) ob))
      rcases Nat.mod_two_eq_zero_or_one k with hp | hp
      · skip
        obtain ⟨j, hj⟩ : ∃ j, j = k / 2 := ⟨_, rfl⟩
        have hc1 : (k + 1) / 2 = j := by omega
        have hc2 : k / 2 = j := by omega
        have hc3 : (k + 1 + 1) / 2 = j + 1 := by omega
        have qk : (k : Int).tmod 2 = 0 := by rw [Int.tmod_eq_emod_of_nonneg (by omega)]; omega
        have hFk : FA j = F k := by rw [HEA.out]; congr 1; omega
        rw [hc1, hc2] at HTW
        rw [hc1, hc2] at HT
        have hj9 : j ≤ 100 := by omega
        obtain ⟨y, hy⟩ : ∃ z, F k = z := ⟨_, rfl⟩
        rw [hy] at x0 hFk
        have HFk := hide hFk
        have HC3 := hide hc3
        have HC1 := hide hc1
        clear hy hFk hj hp hc1 hc2 hc3
        go_wp2_with (at_builtin; refine wpList_append_oneI _ rfl (.tmp 18) (.tmp 20) rfl (w.heap.size + 2) vA j FA y rfl (HTW.out _).a wA.heap.size rfl ((Box.made rfl).at_ 0) (by omega) (by simp; omega) ?_; intro v' w' g1 g2 g3; have hbx := (HTW.out _).boxA g2; obtain ⟨c0, z0, k0, k1, hlz⟩ := hbx.t2; obtain ⟨D, d, rfl, -, -⟩ := g1.form)
        have HT2 := hide ((HTW.out _).appA (g1.congr (fun i hi => catF_next HFk.out i hi)) g2 g3)
        have HX2 := hide ((box_own (HX0.out.alloc _) (HTW.out _).a g2 (by omega)).other (p := ⟨w.heap.size + 1, 0, none⟩) (by show w.heap.size ≠ w.heap.size + 1; omega) (.slice D (j + 1) d))
        have HB2 := hide ((grown_own_below (HB.out.alloc HB.out.size _) (ownS_weak (HTW.out _).a (by omega)) g2 (by simp; omega)).setCell (p := ⟨w.heap.size + 1, 0, none⟩) (Nat.le_succ _) (.slice D (j + 1) d))
        go_roundw
        case rel => exact ⟨k + 1, .slice D (j + 1) d, vB, by omega, by go_num, by rw [HC3.out, HC1.out]; exact HT2, HX2, HB2⟩
        case measure => simp [Go.RowKit.intOf]; omega
      · skip
        obtain ⟨j, hj⟩ : ∃ j, j = k / 2 := ⟨_, rfl⟩
        have hc1 : (k + 1) / 2 = j + 1 := by omega
        have hc2 : k / 2 = j := by omega
        have hc3 : (k + 1 + 1) / 2 = j + 1 := by omega
        have qk : (k : Int).tmod 2 = 1 := by rw [Int.tmod_eq_emod_of_nonneg (by omega)]; omega
        have hFk : FB j = F k := by rw [HEB.out]; congr 1; omega
        rw [hc1, hc2] at HTW
        rw [hc1, hc2] at HT
        have hj9 : j ≤ 100 := by omega
        obtain ⟨y, hy⟩ : ∃ z, F k = z := ⟨_, rfl⟩
        rw [hy] at x0 hFk
        have HFk := hide hFk
        have HC3 := hide hc3
        have HC1 := hide hc1
        clear hy hFk hj hp hc1 hc2 hc3
        go_wp2_with (at_builtin; refine wpList_append_oneI _ rfl (.tmp 18) (.tmp 20) rfl (w.heap.size + 2) vB j FB y rfl (HTW.out _).b wA.heap.size rfl ((Box.made rfl).at_ 0) (by omega) (by simp; omega) ?_; intro v' w' g1 g2 g3; have hbx := (HTW.out _).boxB g2; obtain ⟨c0, z0, k0, k1, hlz⟩ := hbx.t2; obtain ⟨D, d, rfl, -, -⟩ := g1.form)
        have HT2 := hide ((HTW.out _).appB (g1.congr (fun i hi => catF_next HFk.out i hi)) g2 g3)
        have HX2 := hide ((box_own (HX0.out.alloc _) (HTW.out _).b g2 (by omega)).other (p := ⟨w.heap.size + 1, 1, none⟩) (by show w.heap.size ≠ w.heap.size + 1; omega) (.slice D (j + 1) d))
        have HB2 := hide ((grown_own_below (HB.out.alloc HB.out.size _) (ownS_weak (HTW.out _).b (by omega)) g2 (by simp; omega)).setCell (p := ⟨w.heap.size + 1, 1, none⟩) (Nat.le_succ _) (.slice D (j + 1) d))
        go_roundw
        case rel => exact ⟨k + 1, vA, .slice D (j + 1) d, by omega, by go_num, by rw [HC3.out, HC1.out]; exact HT2, HX2, HB2⟩
        case measure => simp [Go.RowKit.intOf]; omega
    obtain rfl : n = k := by omega
    have e1 : (n + 1) / 2 = h := by omega
    have e2 : n / 2 = h := by omega
    rw [e1, e2] at HT
    have hltz : ¬ (n : Int) < (n : Int) := by omega
    clear hlt hk e1 e2 HI HEA HEB
    obtain ⟨qA, cA, rfl, ha1, ha2⟩ := own_form HT.out.a (by omega)
    obtain ⟨qB, cB, rfl, hb1, hb2⟩ := own_form HT.out.b (by omega)
    go_upto_region 7 with fail
    refine wp_region_held_drew (S := fun w' => w'.cell? ⟨w.heap.size + 1, 0, none⟩ = some (.slice (some ⟨qA, 0, none⟩) h cA) ∧ w'.cell? ⟨w.heap.size + 1, 1, none⟩ = some (.slice (some ⟨qB, 0, none⟩) h cB)) (by kernel_rfl) ⟨HT.out.box.t2.1, HT.out.box.t2.2.1⟩ (fun hHeld => ?_)
    obtain ⟨w_2, hw_2⟩ : ∃ q : World, q = wA.drew := ⟨_, rfl⟩
    rw [← hw_2] at hHeld ⊢
    have hc_2 : Below wA.heap.size wA w_2 := by rw [hw_2]; exact (Below.refl _ _).drew
    clear hw_2
    replace HT := hide (HT.out.below hc_2)
    replace HX0 := hide (HX0.out.below hc_2)
    replace HB := hide (HB.out.trans (hc_2.mono HB.out.size))
    clear hc_2
    refine wpAnyH_take (i := 0) (oi := ⟨some 24, _, _, _, _, _⟩) (v := ?_) rfl (by kernel_rfl) (by kernel_rfl) (by kernel_rfl) (fun _ _ _ h => h) (Or.inl ⟨by rfl, ?_⟩) (by assumption) ?_
    rotate_left
    · (intro w' hSw; (try dsimp only at hSw); go_simp <;> (with_reducible rfl))
    try simp only [Act.put, List.setIfInBounds_toArray, List.set_cons_zero, List.set_cons_succ]
    refine wpAnyH_take (i := 1) (oi := ⟨some 25, _, _, _, _, _⟩) (v := ?_) rfl (by kernel_rfl) (by kernel_rfl) (by kernel_rfl) (fun _ _ _ h => h) (Or.inl ⟨by rfl, ?_⟩) (by assumption) ?_
    rotate_left
    · (intro w' hSw; (try dsimp only at hSw); go_simp <;> (with_reducible rfl))
    try simp only [Act.put, List.setIfInBounds_toArray, List.set_cons_zero, List.set_cons_succ]
    refine wpAnyH_take (i := 3) (oi := ⟨some 27, _, _, _, _, _⟩) (v := ?_) rfl (by kernel_rfl) (by kernel_rfl) (by kernel_rfl) (fun _ _ _ h => h) (Or.inl ⟨by rfl, ?_⟩) (by assumption) ?_
    rotate_left
    · (intro w' hSw; (try dsimp only at hSw); go_simp <;> (with_reducible rfl))
    try simp only [Act.put, List.setIfInBounds_toArray, List.set_cons_zero, List.set_cons_succ]
    refine wpAnyH_take (i := 4) (oi := ⟨some 28, _, _, _, _, _⟩) (v := ?_) rfl (by kernel_rfl) (by kernel_rfl) (by kernel_rfl) (fun _ _ _ h => h) (Or.inl ⟨by rfl, ?_⟩) (by assumption) ?_
    rotate_left
    · (intro w' hSw; (try dsimp only at hSw); go_simp <;> (with_reducible rfl))
    try simp only [Act.put, List.setIfInBounds_toArray, List.set_cons_zero, List.set_cons_succ]
    refine wpAnyH_ready (rs := [2]) (by kernel_rfl) (by simp) ?_
    refine AllReadyH.cons (o := ⟨some 26, _, _, _, _, _⟩) rfl (fun K' hK => ?_) AllReadyH.nil
    go_simp
    go_at_call 97
    refine (HLA.out _ _ _ ha1 ha2 (ownS_ints HT.out.a)).mono ?_
    rintro e_ w_3 ⟨rfl, hb_3⟩
    replace HT := hide (HT.out.below hb_3)
    replace HX0 := hide (HX0.out.below hb_3)
    replace HB := hide (HB.out.trans (hb_3.mono HB.out.size))
    clear hb_3
    go_wp2_with fail
    refine hK.out _ _ ⟨HT.out.box.t2.1, HT.out.box.t2.2.1⟩ (fun hHeld => ?_)
    clear hK K'
    try simp only [Act.put, List.setIfInBounds_toArray, List.set_cons_zero, List.set_cons_succ]
    refine wpAnyH_ready (rs := [5]) (by kernel_rfl) (by simp) ?_
    refine AllReadyH.cons (o := ⟨some 29, _, _, _, _, _⟩) rfl (fun K' hK => ?_) AllReadyH.nil
    go_simp
    go_at_call 97
    refine (HLB.out _ _ _ hb1 hb2 (ownS_ints HT.out.b)).mono ?_
    rintro e_ w_4 ⟨rfl, hb_4⟩
    replace HT := hide (HT.out.below hb_4)
    replace HX0 := hide (HX0.out.below hb_4)
    replace HB := hide (HB.out.trans (hb_4.mono HB.out.size))
    clear hb_4
    go_wp2_with fail
    refine hK.out _ _ ⟨HT.out.box.t2.1, HT.out.box.t2.2.1⟩ (fun hHeld => ?_)
    clear hK K'
    try simp only [Act.put, List.setIfInBounds_toArray, List.set_cons_zero, List.set_cons_succ]
    refine wpAnyH_take (i := 6) (oi := ⟨some 30, _, _, _, _, _⟩) (v := ?_) rfl (by kernel_rfl) (by kernel_rfl) (by kernel_rfl) (fun _ _ _ h => h) (Or.inl ⟨by rfl, ?_⟩) (by assumption) ?_
    rotate_left
    · (intro w' hSw; (try dsimp only at hSw); go_simp <;> (with_reducible rfl))
    try simp only [Act.put, List.setIfInBounds_toArray, List.set_cons_zero, List.set_cons_succ]
    refine wpAnyH_ready (rs := [7]) (by kernel_rfl) (by simp) ?_
    refine AllReadyH.cons (o := ⟨none, _, _, _, _, _⟩) rfl (fun K' hK => ?_) AllReadyH.nil
    obtain ⟨c0, z0, k0, k1, hlz⟩ := HX0.out.t2
    go_simp
    clear c0 z0 k0 k1 hlz
    replace HT := hide (((HT.out.box.other (p := ⟨w.heap.size, 0, none⟩) (by show w.heap.size + 1 ≠ w.heap.size; omega) (.int .i64 lA)).other (p := ⟨w.heap.size, 1, none⟩) (by show w.heap.size + 1 ≠ w.heap.size; omega) (.int .i64 lB)))
    replace HX0 := hide (HX0.out.t2put (.int .i64 lA) (.int .i64 lB))
    replace HB := hide ((HB.out.setCell (p := ⟨w.heap.size, 0, none⟩) (Nat.le_refl _) (.int .i64 lA)).setCell (p := ⟨w.heap.size, 1, none⟩) (Nat.le_refl _) (.int .i64 lB))
    obtain ⟨w_5, hw_5⟩ : ∃ q : World, (w_4.setCell ⟨w.heap.size, 0, none⟩ (.int .i64 lA)).setCell ⟨w.heap.size, 1, none⟩ (.int .i64 lB) = q := ⟨_, rfl⟩
    rw [hw_5] at HT HX0 HB ⊢
    clear hw_5
    refine hK.out _ _ ⟨HT.out.t2.1, HT.out.t2.2.1⟩ (fun hHeld => ?_)
    clear hK K'
    try simp only [Act.put, List.setIfInBounds_toArray, List.set_cons_zero, List.set_cons_succ]
    refine wpAnyH_done (by kernel_rfl) ?_ _
    clear hHeld
    obtain ⟨c0, z0, k0, k1, hlz⟩ := HX0.out.t2
    go_wp2_with fail
    refine bodyPost_ret (v := .agg #[.int .i64 lA, .int .i64 lB]) ?_ rfl ⟨rfl, HB.out⟩
    simp [results, Tryz.results62, go_sem, c0, z0]
end Go.Proofs.YtcdplfjegopmdaaGreat
/- Next of the code. -/
namespace Go.Proofs.YtcdplfjegopmdaaGreat
open Go.RowKit Go.Lib
theorem Behind.far {w : World} {B gb gT gS cT cS n m b : Nat} {T S : Nat → Int} (h : Behind w B gb gT gS cT cS n m T S) (hb : b < gT) (u0 u1 u2 : Value) : Behind (((w.setCell ⟨b, 0, none⟩ u0).setCell ⟨b, 1, none⟩ u1).setCell ⟨b, 2, none⟩ u2) B gb gT gS cT cS n m T S := by
  have one : ∀ (w : World) (o : Nat) (u : Value), Behind w B gb gT gS cT cS n m T S → Behind (w.setCell ⟨b, o, none⟩ u) B gb gT gS cT cS n m T S := fun w o u h =>
    ⟨h.box.other (p := ⟨b, o, none⟩) (by show gb ≠ b; have := h.ts; have := h.sb; omega) u, ownS_other h.taps (by omega) u, ownS_other h.state (by have := h.ts; omega) u, h.low, h.ts, h.sb⟩
  exact one _ _ _ (one _ _ _ (one _ _ _ h))
end Go.Proofs.YtcdplfjegopmdaaGreat
