/- CopyChain, Sent and Recovered of the reference; results that may be errors. -/
import Derived.Test.YtjelbemfljobaaaLf
import Derived.Test.YtjelbemfljobaaaLg
import Derived.Test.YtjelbemfljobaaaLc
import Derived.Test.YtjelbemfljobaaaGb
namespace Go.Proofs.Ytjelbemfljobaaa
open Go.RowKit Go.Shelf
/-- What a result holds: nothing, where there is an error; else n numbers. -/
def ResV (E : Int) (n : Nat) (F : Nat → Int) (v : Value) (w' : World) : Prop := (E ≠ 0 ∧ v = .slice none 0 0) ∨ (E = 0 ∧ ∃ A c, v = .slice A n c ∧ IntsAt w' 0 A n F)
theorem ResV.keep {E : Int} {n : Nat} {F : Nat → Int} {v : Value} {w w' : World} (h : ResV E n F v w) (hb : Below w.heap.size w w') : ResV E n F v w' := by
  rcases h with h | ⟨h, A, c, e, hI⟩
  · exact .inl h
  · exact .inr ⟨h, A, c, e, hI.below hb⟩
theorem res_of {E : Int} {n : Nat} {F : Nat → Int} {w : World} {e : Ending} {w' : World} (h : GaveOr E n F w e w') : ∃ v, e = .returned (.tuple #[v, .int .i64 E]) ∧ ResV E n F v w' ∧ Below w.heap.size w w' := by
  rcases h with ⟨h0, e, hb⟩ | ⟨h0, v, e, A, c, ev, -, hI, hb⟩
  · exact ⟨_, e, .inl ⟨h0, rfl⟩, hb⟩
  · exact ⟨v, by rw [h0]; exact e, .inr ⟨h0, A, c, ev, hI.weak (Nat.zero_le _)⟩, hb⟩
theorem intsB_comm {n m : Nat} {F G : Nat → Int} : intsB n F m G = intsB m G n F := by
  rw [Bool.eq_iff_iff, intsB_iff, intsB_iff]
  exact ⟨fun ⟨a, h⟩ => ⟨a.symm, fun k hk => (h k (by omega)).symm⟩, fun ⟨a, h⟩ => ⟨a.symm, fun k hk => (h k (by omega)).symm⟩⟩
theorem chain_cells {W : World} {b : Nat} {d t p k : Int} {A : Option Addr} {n c : Nat} (bx : Box W b 28 #[.int .i64 d, .int .i64 t, .int .i64 p, .slice A n c, .int .i64 k]) :
    W.cell? ⟨b, 0, none⟩ = some (.int .i64 d) ∧ W.cell? ⟨b, 1, none⟩ = some (.int .i64 t) ∧ W.cell? ⟨b, 2, none⟩ = some (.int .i64 p) ∧ W.cell? ⟨b, 3, none⟩ = some (.slice A n c) ∧ W.cell? ⟨b, 4, none⟩ = some (.int .i64 k) ∧ b < W.heap.size :=
  ⟨bx.at_ 0, bx.at_ 1, bx.at_ 2, bx.at_ 3, bx.at_ 4, bx.lt⟩
set_option maxHeartbeats 2000000 in
theorem copyChain_any (d t p k : Int) (A : Option Addr) (n c : Nat) (F : Nat → Int) (w : World) (hn : n ≤ 100000) (hI : IntsAt w 0 A n F) :
    Calls Try.prog 14 #[.agg #[.int .i64 d, .int .i64 t, .int .i64 p, .slice A n c, .int .i64 k]] w fun e w' => ∃ A' c', e = .returned (.agg #[.int .i64 d, .int .i64 t, .int .i64 p, .slice A' n c', .int .i64 k]) ∧ n ≤ c' ∧ IntsAt w' w.heap.size A' n F ∧ Below w.heap.size w w' := by
  have HI := hide hI
  clear hI
  go_enter Try.func14, Try.ntmps14
  go_wp2_with fail
  generalize hW : World.alloc (World.alloc w _) _ = W
  have bx : Box W w.heap.size 28 #[.int .i64 d, .int .i64 t, .int .i64 p, .slice A n c, .int .i64 k] := by rw [← hW]; exact (Box.made rfl).alloc _
  have by' : Box W (w.heap.size + 1) 28 #[.int .i64 0, .int .i64 0, .int .i64 0, .slice none 0 0, .int .i64 0] := by rw [← hW]; exact Box.made (by simp)
  have hB : Below w.heap.size w W := by rw [← hW]; exact ((Below.refl _ _).alloc (Nat.le_refl _) _).alloc (by simp) _
  clear hW
  obtain ⟨x0, x1, x2, x3, x4, -⟩ := chain_cells bx
  have hz : w.heap.size + 1 + 1 ≤ W.heap.size := by'.lt
  have BY := hide by'
  have HBB := hide hB
  have SOF := hide (fun W' (h : Below (w.heap.size + 1) W W') => (⟨(h.cell (p := ⟨w.heap.size, 0, none⟩) (by simp)).trans x0, (h.cell (p := ⟨w.heap.size, 1, none⟩) (by simp)).trans x1, (h.cell (p := ⟨w.heap.size, 2, none⟩) (by simp)).trans x2, (h.cell (p := ⟨w.heap.size, 3, none⟩) (by simp)).trans x3, (h.cell (p := ⟨w.heap.size, 4, none⟩) (by simp)).trans x4, h⟩ :
     W'.cell? ⟨w.heap.size, 0, none⟩ = some (.int .i64 d) ∧ W'.cell? ⟨w.heap.size, 1, none⟩ = some (.int .i64 t) ∧ W'.cell? ⟨w.heap.size, 2, none⟩ = some (.int .i64 p) ∧ W'.cell? ⟨w.heap.size, 3, none⟩ = some (.slice A n c) ∧ W'.cell? ⟨w.heap.size, 4, none⟩ = some (.int .i64 k) ∧ Below (w.heap.size + 1) W W'))
  have KI := hide (fun W' (h : W'.cell? ⟨w.heap.size, 0, none⟩ = some (.int .i64 d) ∧ W'.cell? ⟨w.heap.size, 1, none⟩ = some (.int .i64 t) ∧ W'.cell? ⟨w.heap.size, 2, none⟩ = some (.int .i64 p) ∧ W'.cell? ⟨w.heap.size, 3, none⟩ = some (.slice A n c) ∧ W'.cell? ⟨w.heap.size, 4, none⟩ = some (.int .i64 k) ∧ Below (w.heap.size + 1) W W') => HI.out.below (hB.trans (h.2.2.2.2.2.mono (by omega))))
  have b0 : Below (w.heap.size + 1) W W := Below.refl _ _
  clear x0 x1 x2 x3 x4 hB by' bx
  go_region_held3 (fun w' => w'.cell? ⟨w.heap.size, 0, none⟩ = some (.int .i64 d) ∧ w'.cell? ⟨w.heap.size, 1, none⟩ = some (.int .i64 t) ∧ w'.cell? ⟨w.heap.size, 2, none⟩ = some (.int .i64 p) ∧ w'.cell? ⟨w.heap.size, 3, none⟩ = some (.slice A n c) ∧ w'.cell? ⟨w.heap.size, 4, none⟩ = some (.int .i64 k) ∧ Below (w.heap.size + 1) W w')
      (first | assumption | exact SOF.out _ (by assumption) | exact SOF.out _ b0.drew | exact SOF.out _ (((((hs2.setCell (by simp) _).setCell (by simp) _).setCell (by simp) _).setCell (by simp) _).setCell (by simp) _))
      (first
        | (go_at_call 64; refine (copyPolar_any p A n c F _ (by omega) (KI.out _ (by assumption))).mono ?_; rintro e w2 ⟨A2, c2, rfl, hc2, hI2, hb2⟩; have hs2 : Below (w.heap.size + 1) W w2 := bstep5 hb2 (by assumption) (by omega); have hy2 := BY.out.below (below_of_drew hb2); have y0 := hy2.at_ 0; have y1 := hy2.at_ 1; have y2 := hy2.at_ 2; have y3 := hy2.at_ 3; have y4 := hy2.at_ 4; have yf0 := hy2.free 0; have yf1 := hy2.free 1; have yf2 := hy2.free 2; have yf3 := hy2.free 3; have yf4 := hy2.free 4; have yl := hy2.lt))
  go_wp2_with fail
  refine bodyPost_ret (v := .agg #[.int .i64 d, .int .i64 t, .int .i64 p, .slice A2 n c2, .int .i64 k]) ?_ rfl ⟨A2, c2, rfl, hc2, ?_, ?_⟩
  · have hz := ((((hy2.set_ 0 (.int .i64 d)).set_ 1 (.int .i64 t)).set_ 2 (.int .i64 p)).set_ 3 (.slice A2 n c2)).set_ 4 (.int .i64 k)
    have z0 := hz.at_ 0
    have z1 := hz.at_ 1
    have z2 := hz.at_ 2
    have z3 := hz.at_ 3
    have z4 := hz.at_ 4
    simp at z0 z1 z2 z3 z4
    simp [results, Try.results14, go_sem, z0, z1, z2, z3, z4]
  · have h := hI2.weak (show w.heap.size + 1 + 1 ≤ _ from hz)
    exact (((((h.other (p := ⟨w.heap.size + 1, 0, none⟩) (by simp) _).other (p := ⟨w.heap.size + 1, 1, none⟩) (by simp) _).other (p := ⟨w.heap.size + 1, 2, none⟩) (by simp) _).other (p := ⟨w.heap.size + 1, 3, none⟩) (by simp) _).other (p := ⟨w.heap.size + 1, 4, none⟩) (by simp) _).weak (by omega)
  · have hB2 : Below w.heap.size w w2 := HBB.out.trans (hs2.mono (by omega))
    exact ((((hB2.setCell (by simp) _).setCell (by simp) _).setCell (by simp) _).setCell (by simp) _).setCell (by simp) _
set_option maxHeartbeats 4000000 in
theorem SentR_any (x y q j v : Nat) (A C : Option Addr) (m c e : Nat) (F B : Nat → Int) (w : World) (hn : m + x ≤ 1000) (hm0 : 0 < m) (hm : m ≤ 200) (ok : ChainOk x y q (m + x) F j x y q j) (hv : v ≤ 3) (hbits : ∀ k, k < m → IsBit (B k)) (hI : IntsAt w 0 A (m + x) F) (hJ : IntsAt w 0 C m B) :
    Calls Try.prog 20 #[.agg #[.int .i64 (x : Int), .int .i64 (y : Int), .int .i64 (q : Int), .slice A (m + x) c, .int .i64 (j : Int)], .slice C m e, .int .i64 (v : Int)] w fun r w' => ∃ u, r = .returned u ∧ OwnInts w' w.heap.size u j (sentF x y q (m + x) F m B v) ∧ Below w.heap.size w w' := by
  obtain ⟨-, -, -, -, d0, d1, t1, -, hpol, q6, hless, k1, k4⟩ := ok
  have HI := hide hI
  have HJ := hide hJ
  have HB := hide hbits
  have HP := hide hpol
  have hq64 : 2 ^ q ≤ 2 ^ 6 := Nat.pow_le_pow_right (by decide) q6
  have hq0 : 0 < 2 ^ q := Nat.two_pow_pos q
  have HQ := hide hq64
  have HQ0 := hide hq0
  clear hI hJ hbits hpol hq64 hq0
  go_enter Try.func20, Try.ntmps20
  go_wp2_with fail
  generalize hW : World.alloc w _ = W
  have bx : Box W w.heap.size 28 #[.int .i64 (x : Int), .int .i64 (y : Int), .int .i64 (q : Int), .slice A (m + x) c, .int .i64 (j : Int)] := by rw [← hW]; exact Box.made rfl
  have hB : Below w.heap.size w W := by rw [← hW]; exact (Below.refl _ _).alloc (Nat.le_refl _) _
  clear hW
  obtain ⟨x0, x1, x2, x3, x4, -⟩ := chain_cells bx
  have hz : w.heap.size + 1 ≤ W.heap.size := bx.lt
  have SOF := hide (fun W' (h : Below (w.heap.size + 1) W W') => (⟨(h.cell (p := ⟨w.heap.size, 0, none⟩) (by simp)).trans x0, (h.cell (p := ⟨w.heap.size, 1, none⟩) (by simp)).trans x1, (h.cell (p := ⟨w.heap.size, 2, none⟩) (by simp)).trans x2, (h.cell (p := ⟨w.heap.size, 3, none⟩) (by simp)).trans x3, (h.cell (p := ⟨w.heap.size, 4, none⟩) (by simp)).trans x4, h⟩ :
     W'.cell? ⟨w.heap.size, 0, none⟩ = some (.int .i64 (x : Int)) ∧ W'.cell? ⟨w.heap.size, 1, none⟩ = some (.int .i64 (y : Int)) ∧ W'.cell? ⟨w.heap.size, 2, none⟩ = some (.int .i64 (q : Int)) ∧ W'.cell? ⟨w.heap.size, 3, none⟩ = some (.slice A (m + x) c) ∧ W'.cell? ⟨w.heap.size, 4, none⟩ = some (.int .i64 (j : Int)) ∧ Below (w.heap.size + 1) W W'))
  have KI := hide (fun W' (h : W'.cell? ⟨w.heap.size, 0, none⟩ = some (.int .i64 (x : Int)) ∧ W'.cell? ⟨w.heap.size, 1, none⟩ = some (.int .i64 (y : Int)) ∧ W'.cell? ⟨w.heap.size, 2, none⟩ = some (.int .i64 (q : Int)) ∧ W'.cell? ⟨w.heap.size, 3, none⟩ = some (.slice A (m + x) c) ∧ W'.cell? ⟨w.heap.size, 4, none⟩ = some (.int .i64 (j : Int)) ∧ Below (w.heap.size + 1) W W') => HI.out.below (hB.trans (h.2.2.2.2.2.mono (by omega))))
  have KJ := hide (fun W' (h : W'.cell? ⟨w.heap.size, 0, none⟩ = some (.int .i64 (x : Int)) ∧ W'.cell? ⟨w.heap.size, 1, none⟩ = some (.int .i64 (y : Int)) ∧ W'.cell? ⟨w.heap.size, 2, none⟩ = some (.int .i64 (q : Int)) ∧ W'.cell? ⟨w.heap.size, 3, none⟩ = some (.slice A (m + x) c) ∧ W'.cell? ⟨w.heap.size, 4, none⟩ = some (.int .i64 (j : Int)) ∧ Below (w.heap.size + 1) W W') => HJ.out.below (hB.trans (h.2.2.2.2.2.mono (by omega))))
  have b0 : Below (w.heap.size + 1) W W := Below.refl _ _
  have HBB := hide hB
  clear x0 x1 x2 x3 x4 hB bx
  go_region_held3 (fun w' => w'.cell? ⟨w.heap.size, 0, none⟩ = some (.int .i64 (x : Int)) ∧ w'.cell? ⟨w.heap.size, 1, none⟩ = some (.int .i64 (y : Int)) ∧ w'.cell? ⟨w.heap.size, 2, none⟩ = some (.int .i64 (q : Int)) ∧ w'.cell? ⟨w.heap.size, 3, none⟩ = some (.slice A (m + x) c) ∧ w'.cell? ⟨w.heap.size, 4, none⟩ = some (.int .i64 (j : Int)) ∧ Below (w.heap.size + 1) W w')
      (first | assumption | exact SOF.out _ (by assumption) | exact SOF.out _ b0.drew | exact SOF.out _ (below_drewN (by assumption) _) | exact SOF.out _ (balloc' (by assumption) hz _))
      (first
        | (go_at_call 71; refine (checkedR_any x y C m e B _ d0 d1 t1 hm0 (by omega) (KJ.out _ (by assumption)) HB.out).mono ?_; rintro r w7 ⟨v7, rfl, hown7, hb7⟩; obtain ⟨A7, c7, rfl, hc7, hI7⟩ := hown7.form; have hs7 : Below (w.heap.size + 1) W w7 := bstep5 hb7 (by assumption) hz)
        | (go_at_call 70; refine (encodeR_any q A A7 (m + x) c c7 F (catF m B (remB x y m B)) _ HP.out hn (KI.out _ (by assumption)) (hI7.weak (Nat.zero_le _)) (catF_bits HB.out (remB_bit x y m B))).mono ?_; rintro r w8 ⟨v8, rfl, hown8, hb8⟩; obtain ⟨A8, c8, rfl, hc8, hI8⟩ := hown8.form; have hs8 : Below (w.heap.size + 1) W w8 := bstep5 hb8 (by assumption) hz)
        | (go_at_call 69; refine (matchR_any A8 (2 ^ q) c8 v j _ _ (hI8.weak (Nat.zero_le _)) hv HQ0.out (by have := HQ.out; omega) (by omega)).mono ?_; rintro r w9 ⟨v9, rfl, hown9, hb9⟩; have hs9 : Below (w.heap.size + 1) W w9 := bstep5 hb9 (by assumption) hz))
  go_wp2_with fail
  go_ret
  have hB8 : Below w.heap.size w w8 := HBB.out.trans (hs8.mono (by omega))
  exact ⟨_, rfl, hown9.weak hB8.size, HBB.out.trans (hs9.mono (by omega))⟩
set_option maxHeartbeats 4000000 in
theorem RecoveredR_any (x y q j : Nat) (A C : Option Addr) (n c m e : Nat) (F S : Nat → Int) (w : World) (hn : n ≤ 1000) (hmq : m = 2 ^ q) (ok : ChainOk x y q n F j x y q j) (hS9 : ∀ i, i < m → -1000000000 ≤ S i ∧ S i ≤ 1000000000) (hI : IntsAt w 0 A n F) (hJ : IntsAt w 0 C m S) :
    Calls Try.prog 24 #[.agg #[.int .i64 (x : Int), .int .i64 (y : Int), .int .i64 (q : Int), .slice A n c, .int .i64 (j : Int)], .slice C m e] w fun r w' => ∃ v, r = .returned (.tuple #[v, .int .i64 (if recRight x y q n F S = true then 0 else 21)]) ∧ ResV (if recRight x y q n F S = true then 0 else 21) (n - x) (recF q n F S) v w' ∧ Below w.heap.size w w' := by
  obtain ⟨-, -, -, -, d0, d1, t1, -, hpol, q6, hless, k1, k4⟩ := ok
  have hN9 : m ≤ 64 := by rw [hmq]; exact Nat.pow_le_pow_right (by decide) q6
  have HMM : (1000000000 : Int) * 2 ^ q ≤ 1000000000000 := by
    have eN : (2 : Int) ^ q = (m : Int) := by rw [hmq]; simp
    rw [eN]; omega
  have HI := hide hI
  have HC := hide (fun W hW1 hW2 => decodeR_any q A C n c m e F S W hpol hn hmq hW1 hW2 1000000000 HMM hS9)
  have HJ := hide hJ
  clear hI hJ hS9 HMM hmq hpol
  go_enter Try.func24, Try.ntmps24
  go_wp2_with fail
  refine (HC.out _ (HI.out.alloc _) (HJ.out.alloc _)).mono ?_
  rintro r w4 ⟨v4, rfl, hown4, hb4⟩
  have bx4 : Box w4 w.heap.size 28 #[.int .i64 (x : Int), .int .i64 (y : Int), .int .i64 (q : Int), .slice A n c, .int .i64 (j : Int)] := (Box.made rfl).below hb4
  have hB4 := below_of_alloc hb4
  obtain ⟨g, cap, rfl, hg1, hg2⟩ := hown4.row (by omega)
  obtain ⟨hnc, hcap⟩ := hown4.cap_any
  obtain ⟨A4, c4, e4, -, hI4⟩ := hown4.form
  injection e4 with e4 _ e5; subst e4; subst e5
  have hI4' : IntsAt w4 0 (some ⟨g, 0, none⟩) n (recF q n F S) := hI4.weak (Nat.zero_le _)
  clear hI4 hown4
  obtain ⟨x0, x1, -, -, -, hl4⟩ := chain_cells bx4
  go_wp2_with fail
  refine (isRightR_any x y g 0 n cap (recF q n F S) _ d0 d1 t1 hless (by omega) hnc hcap hI4' (fun k _ => recF_bit _ _ _ _ k)).mono ?_
  rintro r w5 ⟨rfl, hb5⟩
  rw [show intsB x (fun i => recF q n F S (n - x + i)) x (remB x y (n - x) (recF q n F S)) = recRight x y q n F S from intsB_comm]
  have bx5 := bx4.below hb5
  have hB5 := hB4.trans (hb5.mono hB4.size)
  have hI5 := hI4'.below hb5
  clear x0 x1 hl4 bx4
  obtain ⟨x0, x1, -, -, -, hl5⟩ := chain_cells bx5
  cases hrr : recRight x y q n F S
  · go_wp2_with fail
    all_goals
      go_ret2
      exact ⟨_, rfl, .inl ⟨by decide, rfl⟩, hB5⟩
  · obtain ⟨z, hzz⟩ : ∃ z : Nat, z = n - x := ⟨_, rfl⟩
    have q1 : IntKind.i64.wrap ((n : Int) - (x : Int)) = (z : Int) := by rw [IntWalk.i64_in _ (by omega)]; omega
    have hzn : z ≤ n := by omega
    have hznz : (z : Int) ≤ (n : Int) := by omega
    have hzcz : (z : Int) ≤ (cap : Int) := by omega
    have HZZ := hide hzz
    clear hzz
    go_wp2_with fail
    go_ret2
    exact ⟨.slice (some ⟨g, 0, none⟩) z cap, rfl, .inr ⟨rfl, some ⟨g, 0, none⟩, cap, by rw [HZZ.out], hI5.fewer (by omega)⟩, hB5⟩
end Go.Proofs.Ytjelbemfljobaaa
