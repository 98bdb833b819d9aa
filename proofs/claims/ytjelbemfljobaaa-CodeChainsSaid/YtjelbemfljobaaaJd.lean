/- Combined: of the code and of the reference. -/
import Derived.Test.YtjelbemfljobaaaJb
import Derived.Test.YtjelbemfljobaaaId
namespace Go.Proofs.Ytjelbemfljobaaa
open Go.RowKit Go.Shelf
def combErrI (n m : Nat) (F G : Nat → Int) : Int := if n = m then (if sizedB n (fun j => F j + G j) 1000000000 = true then 0 else 8) else 13
set_option maxHeartbeats 2000000 in
theorem combinedR_any (A C : Option Addr) (n m c d : Nat) (F G : Nat → Int) (w : World) (hF : IntsAt w 0 A n F) (hG : IntsAt w 0 C m G) (n0 : 0 < n) (hn : n ≤ 200) (hm : m ≤ 200) (bF : ∀ j, j < n → -1000000000 ≤ F j ∧ F j ≤ 1000000000) (bG : ∀ j, j < m → -1000000000 ≤ G j ∧ G j ≤ 1000000000) :
    Calls Try.prog 87 #[.slice A n c, .slice C m d] w fun e w' => ((combErrI n m F G ≠ 0 ∧ e = .returned (.tuple #[.slice none 0 0, .int .i64 (combErrI n m F G)])) ∨ (combErrI n m F G = 0 ∧ ∃ v, e = .returned (.tuple #[v, .int .i64 0]) ∧ OwnInts w' w.heap.size v n (fun j => F j + G j))) ∧ Below w.heap.size w w' := by
  by_cases hnm : n = m
  · subst hnm
    have EQ := hide (show combErrI n n F G = if sizedB n (fun j => F j + G j) 1000000000 = true then 0 else 8 from if_pos rfl)
    generalize combErrI n n F G = R at *
    have HF := hide hF
    have HG := hide hG
    have BF := hide bF
    have BG := hide bG
    clear hF hG bF bG
    go_enter Try.func87, Try.ntmps87
    go_wp2_with fail
    go_loopw [6, 7] (fun x i wr => ∃ k : Nat, k ≤ n ∧ i = .int .i64 k ∧ OwnInts wr w.heap.size x k (fun j => F j + G j) ∧ Below w.heap.size w wr) (fun _ i _ => n - (intOf i).toNat)
    case atStart => exact ⟨0, Nat.zero_le _, rfl, OwnInts.nil_ _ _ _, Below.refl _ _⟩
    case round =>
      obtain ⟨k, hk, rfl, hown, hB⟩ := hrel
      obtain ⟨As, cs, rfl, hcs, hIs⟩ := hown.form
      have hBs := hB.size
      by_cases hlt : k < n
      · have hltz : (k : Int) < (n : Int) := by omega
        obtain ⟨b1, o1, rfl, -, hb1, hcelv1⟩ := HF.out k hlt
        obtain ⟨b2, o2, rfl, -, hb2, hcelv2⟩ := HG.out k hlt
        have hcell1 := (hB.cell (p := ⟨b1, o1 + k, none⟩) hb1).trans hcelv1
        have hcell2 := (hB.cell (p := ⟨b2, o2 + k, none⟩) hb2).trans hcelv2
        have hf9 := BF.out k hlt
        have hg9 := BG.out k hlt
        have q1 : IntKind.i64.wrap (F k + G k) = F k + G k := IntWalk.i64_in _ (by omega)
        have SOF := hide (fun W' (h : Below w.heap.size w W') => (⟨(h.cell (p := ⟨b1, o1 + k, none⟩) hb1).trans hcelv1, (h.cell (p := ⟨b2, o2 + k, none⟩) hb2).trans hcelv2, h⟩ :
          W'.cell? ⟨b1, o1 + k, none⟩ = some (.int .i64 (F k)) ∧ W'.cell? ⟨b2, o2 + k, none⟩ = some (.int .i64 (G k)) ∧ Below w.heap.size w W'))
        have bb0 := hB
        clear hcelv1 hcelv2 hIs
        go_wp2_with fail
        go_region_held3 (fun w' => w'.cell? ⟨b1, o1 + k, none⟩ = some (.int .i64 (F k)) ∧ w'.cell? ⟨b2, o2 + k, none⟩ = some (.int .i64 (G k)) ∧ Below w.heap.size w w')
          (first | assumption | exact SOF.out _ (by assumption) | exact SOF.out _ bb0.drew | exact SOF.out _ (balloc' (by assumption) (Nat.le_refl _) _) | exact SOF.out _ (balloc' (by assumption) (Nat.le_refl _) _).drew)
          (first
            | (refine step_append_ints _ (by rfl) _ _ (by rfl) w.heap.size 0 (.slice As k cs) k _ (by rfl) ((hown.alloc _).drew) (some ⟨wr.heap.size, 0, none⟩) 1 1 (fun _ => F k + G k) (by rfl) ((IntsAt.one wr 0 (F k + G k) 3 (Nat.zero_le _)).drew) (by omega) (by simp; omega) ?_; intro v' w' h1 hb3; have hb4 := (balloc' hB (Nat.le_refl _) _).drew.trans hb3))
        go_wp2_with fail
        refine ⟨⟨k + 1, by omega, by simp, h1.congr (fun j hj => ?_), hb4⟩, by simp [intOf]; omega⟩
        unfold catF
        by_cases e : j < k
        · rw [if_pos e]
        · rw [if_neg e, show j = k by omega]
      · obtain rfl : k = n := by omega
        go_wp2_with fail
        refine (sumsErrR_any As k cs (fun j => F j + G j) _ (by omega) (hIs.weak (Nat.zero_le _))).mono ?_
        rintro e w7 ⟨rfl, q7, rfl⟩
        have hse : sizedErrI k 200 (fun j => F j + G j) 1000000000 = if sizedB k (fun j => F j + G j) 1000000000 = true then 0 else 2 := by
          unfold sizedErrI; rw [if_neg (by omega), if_neg (by omega)]
        rw [hse]
        have hB7 := below_drewN hB q7
        have hown7 := hown.drewN q7
        clear hse
        cases hsb : sizedB k (fun j => F j + G j) 1000000000
        · have EQ' := hide (show R = 8 from by rw [EQ.out, hsb]; rfl)
          go_wp2_with fail
          go_ret2
          exact ⟨.inl ⟨by rw [EQ'.out]; decide, by rw [EQ'.out]; rfl⟩, hB7⟩
        · have EQ' := hide (show R = 0 from by rw [EQ.out, hsb]; rfl)
          go_wp2_with fail
          go_ret2
          exact ⟨.inr ⟨EQ'.out, _, rfl, hown7⟩, hB7⟩
  · have EQ := hide (show combErrI n m F G = 13 from if_neg hnm)
    have t1 : ((n : Int) != (m : Int)) = true := by simp; omega
    generalize combErrI n m F G = R at *
    clear hF hG hnm bF bG
    go_enter Try.func87, Try.ntmps87
    go_wp2_with fail
    go_ret2
    exact ⟨.inl ⟨by rw [EQ.out]; decide, by rw [EQ.out]; rfl⟩, Below.refl _ _⟩
end Go.Proofs.Ytjelbemfljobaaa
