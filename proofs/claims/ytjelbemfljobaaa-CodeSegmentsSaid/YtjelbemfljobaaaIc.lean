/- The reference's Remainder: the walk. -/
import Derived.Test.YtjelbemfljobaaaIb
namespace Go.Proofs.Ytjelbemfljobaaa
open Go.RowKit Go.Shelf
theorem OwnInts.ints {w : World} {base n c : Nat} {A : Option Addr} {F : Nat → Int} (h : OwnInts w base (.slice A n c) n F) : IntsAt w base A n F := by
  obtain ⟨A', c', e, -, hI⟩ := h.form
  injection e with e1
  subst e1
  exact hI
set_option maxHeartbeats 2000000 in
set_option maxRecDepth 100000 in
theorem remainderR_any (d t : Nat) (A : Option Addr) (n c : Nat) (F : Nat → Int) (w : World) (h0 : 1 ≤ d) (h1 : d ≤ 16) (t1 : t < 2 ^ d) (n0 : 0 < n) (hn : n ≤ 1000) (hI : IntsAt w 0 A n F) (hb : ∀ k, k < n → IsBit (F k)) :
    Calls Try.prog 108 #[.agg #[.int .i64 (d : Int), .int .i64 (t : Int)], .slice A n c] w fun e w' => ∃ v, e = .returned v ∧ GaveInts w d (remB d t n F) v w' := by
  have HI := hide hI
  have HB := hide hb
  have ht9 : t ≤ 65536 := by
    obtain ⟨p1, p2⟩ := pow2_le d h1
    have e : ((2 ^ d : Nat) : Int) = (2 : Int) ^ d := by simp
    omega
  clear hI hb
  go_enter Try.func108, Try.ntmps108
  go_wp2_with fail
  generalize hW : World.alloc w _ = W
  have bx : Box W w.heap.size 23 #[.int .i64 (d : Int), .int .i64 (t : Int)] := by rw [← hW]; exact Box.made rfl
  have hB : Below w.heap.size w W := by rw [← hW]; exact (Below.refl _ _).alloc (Nat.le_refl _) _
  clear hW
  have x0 : W.cell? ⟨w.heap.size, 0, none⟩ = some (.int .i64 (d : Int)) := bx.at_ 0
  have x1 : W.cell? ⟨w.heap.size, 1, none⟩ = some (.int .i64 (t : Int)) := bx.at_ 1
  have hlt0 := bx.lt
  have SOF := hide (fun W' (h : Below W.heap.size W W') => (⟨(h.cell (p := ⟨w.heap.size, 0, none⟩) hlt0).trans x0, (h.cell (p := ⟨w.heap.size, 1, none⟩) hlt0).trans x1, h⟩ :
    W'.cell? ⟨w.heap.size, 0, none⟩ = some (.int .i64 (d : Int)) ∧ W'.cell? ⟨w.heap.size, 1, none⟩ = some (.int .i64 (t : Int)) ∧ Below W.heap.size W W'))
  have KI := hide (fun W' (h : W'.cell? ⟨w.heap.size, 0, none⟩ = some (.int .i64 (d : Int)) ∧ W'.cell? ⟨w.heap.size, 1, none⟩ = some (.int .i64 (t : Int)) ∧ Below W.heap.size W W') => HI.out.below (hB.trans (h.2.2.mono hB.size)))
  have bb0 : Below W.heap.size W W := Below.refl _ _
  have HBB := hide hB
  clear x0 x1 hB
  go_region_held3 (fun w' => w'.cell? ⟨w.heap.size, 0, none⟩ = some (.int .i64 (d : Int)) ∧ w'.cell? ⟨w.heap.size, 1, none⟩ = some (.int .i64 (t : Int)) ∧ Below W.heap.size W w')
      (first | assumption | exact SOF.out _ (by assumption) | exact SOF.out _ bb0.drew | exact SOF.out _ (balloc' (by assumption) (Nat.le_refl _) _))
      (first
        | (go_at_call 15; refine (copyInts_own A n c F _ (by omega) (KI.out _ (by assumption))).mono ?_; rintro e w4 ⟨v4, rfl, hown4, hb4⟩; obtain ⟨A4, c4, rfl, hnc4, hI4⟩ := hown4.form; have hs4 : Below W.heap.size W w4 := bstep2 hb4 (by assumption) (Nat.le_refl _))
        | (refine step_append_zeros _ (by rfl) _ _ (by rfl) W.heap.size (.slice A4 n c4) n F (by rfl) hown4 n0 d (by rfl) (by omega) (by omega) hs4.size ?_; intro v5 w5 hown5 hb5; have hs5 := hs4.trans hb5; obtain ⟨g, cg, rfl, hg1, hg2⟩ := hown5.row (by omega)))
  have bx5 := bx.below hs5
  have hB5 : Below w.heap.size w w5 := HBB.out.trans (hs5.mono HBB.out.size)
  have x0 : w5.cell? ⟨w.heap.size, 0, none⟩ = some (.int .i64 (d : Int)) := bx5.at_ 0
  have x1 : w5.cell? ⟨w.heap.size, 1, none⟩ = some (.int .i64 (t : Int)) := bx5.at_ 1
  have hlt5 := bx5.lt
  clear SOF KI hs4 hb4 hown4 hI4 bb0
  go_wp2_with fail
  clear x0 x1
  refine (bitsOf_any t d _ (by omega) (by omega)).mono ?_
  rintro r w6 ⟨v6, rfl, A6, c6, rfl, hc6, hI6, hb6⟩
  have bx6 := bx5.below hb6
  have hB6 := hB5.trans (hb6.mono hB5.size)
  have hown6 := hown5.below hb6
  have HT := hide hI6
  clear hb5 hown5 hb6 hB5 hI6
  go_wp2_with fail
  have hgw : w.heap.size ≠ g := by omega
  go_loopw [7, 8] (fun i x wr => ∃ k : Nat, k ≤ n ∧ i = .int .i64 k ∧ (∃ L, OwnInts wr W.heap.size (.slice (some ⟨g, 0, none⟩) (n + d) cg) (n + d) L ∧ Hid (∀ j, k ≤ j → j < n + d → L j = divF d t n F k j)) ∧ Only g w6 wr) (fun i _ _ => n - (intOf i).toNat)
  case atStart =>
    exact ⟨0, Nat.zero_le _, rfl, ⟨_, hown6, hide fun j _ _ => by rw [divF_zero HB.out]; rfl⟩, Only.refl _ _⟩
  case round =>
    obtain ⟨k, hk, rfl, ⟨L, hown, HL⟩, ho⟩ := hrel
    by_cases hlt : k < n
    · have hltz : (k : Int) < (n : Int) := by omega
      have hltd : (k : Int) < (n : Int) + (d : Int) := by omega
      have hltm : k < n + d := by omega
      have hcell := hown.cellAt hltm
      have hL := HL.out k (Nat.le_refl _) hltm
      rw [hL] at hcell
      by_cases h9 : divF d t n F k k = 1
      · have HD := hide (fun j (hj : k + 1 ≤ j) => divF_succ h0 t1 HB.out hlt hj)
        have H9 := hide h9
        rw [h9] at hcell
        clear h9 hL
        go_wp2_with fail
        obtain ⟨wo, rfl⟩ : ∃ wo : World, wo = wr := ⟨_, rfl⟩
        go_loopw [8] (fun i wq => ∃ m : Nat, m ≤ d ∧ i = .int .i64 m ∧ OwnInts wq W.heap.size (.slice (some ⟨g, 0, none⟩) (n + d) cg) (n + d) (burstF L (k + 1) t d m) ∧ Only g w6 wq) (fun i _ => d - (intOf i).toNat)
        case atStart => exact ⟨0, Nat.zero_le _, rfl, hown.congr fun j _ => by unfold burstF; rw [if_neg (by omega)], ho⟩
        case round =>
          obtain ⟨m, hm, rfl, howq, hoq⟩ := hrel
          have bxq := hoq.box bx6 hgw
          have x0 : wr.cell? ⟨w.heap.size, 0, none⟩ = some (.int .i64 (d : Int)) := bxq.at_ 0
          have hltq := bxq.lt
          by_cases hld : m < d
          · have hldz : (m : Int) < (d : Int) := by omega
            have hI := HT.out.only hg2 hoq
            obtain ⟨b2, o2, rfl, -, hb2, hcell2⟩ := hI m hld
            have hcell := howq.cellAt (k := k + 1 + m) (by omega)
            have hfz := howq.frozen (k + 1 + m)
            have hv : burstF L (k + 1) t d m (k + 1 + m) = L (k + 1 + m) := by unfold burstF; rw [if_neg (by omega)]
            rw [hv, HL.out (k + 1 + m) (by omega) (by omega)] at hcell
            have HN := hide (burstF_succ L (k + 1) t d m)
            have HG := hide (HL.out (k + 1 + m) (by omega) (by omega))
            have hg9 := (divF_bit d t n F k (k + 1 + m)).le
            have hb9 := (bitsOfF_bit t d m).le
            generalize divF d t n F k (k + 1 + m) = gg at *
            generalize bitsOfF t d m = ch at *
            obtain ⟨g0, g9⟩ := hg9
            obtain ⟨ch0, ch9⟩ := hb9
            have hlta : (k : Int) + 1 + (m : Int) < (n : Int) + (d : Int) := by omega
            have hltm : k + 1 + m < n + d := by omega
            clear hv
            go_wp2_with fail
            go_region
            go_wp2_with fail
            refine ⟨⟨m + 1, by omega, by simp, (howq.set_ (k + 1 + m) _).congr (fun j _ => ?_), (hoq.set_ (k + 1 + m) _).drew⟩, by simp [intOf]; omega⟩
            rw [HN.out j, HG.out]
          · obtain rfl : m = d := by omega
            go_wp2_with fail
            refine ⟨⟨k + 1, by omega, by simp, ⟨_, howq, hide fun j h1 h2 => ?_⟩, hoq⟩, by simp [intOf]; omega⟩
            rw [HD.out j h1]
            unfold burstF
            by_cases hj : j < k + 1 + m
            · rw [if_pos ⟨h1, hj⟩, if_pos ⟨H9.out, hj⟩, HL.out j (by omega) h2]
            · rw [if_neg (fun h => hj h.2), if_neg (fun h => hj h.2), HL.out j (by omega) h2]
      · have h8 : divF d t n F k k = 0 := (divF_bit d t n F k k).resolve_right h9
        have HD := hide (fun j (hj : k + 1 ≤ j) => (divF_succ h0 t1 HB.out hlt hj).trans (if_neg fun h => h9 h.1))
        rw [h8] at hcell
        clear h9 h8 hL
        go_wp2_with fail
        refine ⟨⟨k + 1, by omega, by simp, ⟨L, hown, hide fun j h1 h2 => by rw [HD.out j h1]; exact HL.out j (by omega) h2⟩, ho⟩, by simp [intOf]; omega⟩
    · obtain rfl : k = n := by omega
      have hca := hown.cap_any.1
      go_wp2_with fail
      · go_ret
        have hfin := (hown.ints.weak (lo' := w.heap.size) (by have := HBB.out.size; omega)).cut (j := k) (m := d) (by omega)
        rw [Nat.zero_add] at hfin
        exact ⟨_, rfl, some ⟨g, k, none⟩, cg - k, rfl, by omega, hfin.congr fun j hj => by rw [HL.out (k + j) (by omega) (by omega)]; exact divF_end hj, hB6.trans (ho.to_below (by omega) hB6.size)⟩
end Go.Proofs.Ytjelbemfljobaaa
