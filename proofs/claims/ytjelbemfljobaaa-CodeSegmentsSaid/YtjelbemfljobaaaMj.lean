/- slices.Concat of two and checked: their result is the call's own, its capacity is bounded. -/
import Derived.Test.YtjelbemfljobaaaEk
import Derived.Test.YtjelbemfljobaaaHd
import Derived.Test.YtjelbemfljobaaaHe
namespace Go.Proofs.Ytjelbemfljobaaa
open Go.RowKit Go.Lib
set_option maxHeartbeats 4000000 in
theorem concat_own (g t : Nat) (A C : Option Addr) (n m c d e0 : Nat) (F G : Nat → Int) (w : World) (hn : n ≤ 1000000) (hm : m ≤ 1000000) (bx : Box w g t #[.slice A n c, .slice C m d]) (hF : IntsAt w 0 A n F) (hG : IntsAt w 0 C m G) :
    Calls Try.prog 104 #[.slice (some ⟨g, 0, none⟩) 2 e0] w fun e w' => ∃ v, e = .returned v ∧ OwnInts w' w.heap.size v (n + m) (catF n F G) ∧ Below w.heap.size w w' := by
  have HF := hide hF
  have HG := hide hG
  have y0 := bx.at_ 0
  have y1 := bx.at_ 1
  simp only [List.getElem?_toArray] at y0 y1
  clear hF hG
  go_enter Try.func104, Try.ntmps104
  go_wp2_with fail
  go_loopw [3, 11] (fun z i wr => ZAt n m i z ∧ wr = w) (fun _ i _ => 2 - (intOf i).toNat)
  case atStart => exact ⟨.inl ⟨rfl, rfl⟩, rfl⟩
  case round =>
    obtain ⟨hz, rfl⟩ := hrel
    rcases hz with ⟨rfl, rfl⟩ | ⟨rfl, rfl⟩ | ⟨rfl, rfl⟩
    · go_wp2_with fail
      go_roundw
      case rel => exact ⟨.inr (.inl ⟨rfl, rfl⟩), by first | rfl | trivial⟩
      case measure => simp [intOf]
    · go_wp2_with fail
      go_roundw
      case rel => exact ⟨.inr (.inr ⟨rfl, rfl⟩), by first | rfl | trivial⟩
      case measure => simp [intOf]
    · go_wp2_with fail
      rw [show (n : Int) + m = ((n + m : Nat) : Int) from by omega]
      refine (grow_any (n + m) _ (by omega)).mono ?_
      rintro e w1 ⟨v, rfl, hown, hb1⟩
      have z0 := (bx.below hb1).at_ 0
      have z1 := (bx.below hb1).at_ 1
      simp only [List.getElem?_toArray] at z0 z1
      go_wp2_with fail
      obtain ⟨wo, rfl⟩ : ∃ wo : World, wo = wr := ⟨_, rfl⟩
      go_loopw [6, 27] (fun v i wx => OAt wo n m F G i v wx ∧ Below wo.heap.size wo wx) (fun _ i _ => 2 - (intOf i).toNat)
      case atStart => exact ⟨.inl ⟨rfl, hown⟩, hb1⟩
      case round =>
        clear z0 z1
        obtain ⟨ho, hB⟩ := hrel
        have z0 := (bx.below hB).at_ 0
        have z1 := (bx.below hB).at_ 1
        simp only [List.getElem?_toArray] at z0 z1
        have hF := HF.out.below hB
        have hG := HG.out.below hB
        have hs := hB.size
        rcases ho with ⟨rfl, ho⟩ | ⟨rfl, ho⟩ | ⟨rfl, ho⟩
        · obtain ⟨A', c', rfl, -, -⟩ := ho.form
          go_wp2_with (at_builtin; refine wpList_append_ints _ rfl (.tmp 31) (.tmp 32) rfl wo.heap.size 0 (.slice A' 0 c') 0 (fun _ => 0) rfl ho A n c F rfl hF (by omega) hs ?_; intro v' w' h1 hb2)
          go_roundw
          case rel => exact ⟨.inr (.inl ⟨rfl, by rw [Nat.zero_add] at h1; exact h1.congr fun j _ => by simp [catF]⟩), hB.trans hb2⟩
          case measure => simp [intOf]
        · obtain ⟨A', c', rfl, -, -⟩ := ho.form
          go_wp2_with (at_builtin; refine wpList_append_ints _ rfl (.tmp 31) (.tmp 32) rfl wo.heap.size 0 (.slice A' n c') n F rfl ho C m d G rfl hG (by omega) hs ?_; intro v' w' h1 hb2)
          go_roundw
          case rel => exact ⟨.inr (.inr ⟨rfl, h1⟩), hB.trans hb2⟩
          case measure => simp [intOf]
        · go_wp2_with fail
          go_ret
          exact ⟨_, rfl, ho, hB⟩
set_option maxHeartbeats 1000000 in
theorem checked_own (d t : Nat) (A : Option Addr) (n c : Nat) (F : Nat → Int) (w : World) (h0 : 1 ≤ d) (h1 : d ≤ 16) (t1 : t < 2 ^ d) (hn : n ≤ 100000) (hI : IntsAt w 0 A n F) (hb : ∀ k, k < n → IsBit (F k)) :
    Calls Try.prog 62 #[.agg #[.int .i64 (d : Int), .int .i64 (t : Int)], .slice A n c] w fun e w' => ∃ A' c', e = .returned (.slice A' (n + d) c') ∧ n + d ≤ c' ∧ c' ≤ 9223372036854775807 ∧ IntsAt w' w.heap.size A' (n + d) (catF n F (remB d t n F)) ∧ Below w.heap.size w w' := by
  have HI := hide hI
  have HB := hide hb
  clear hI hb
  go_enter Try.func62, Try.ntmps62
  go_wp2_with fail
  refine (remainder_any d t A n c F _ h0 h1 t1 hn (HI.out.alloc _) HB.out).mono ?_
  rintro e w1 ⟨v, rfl, A1, c1, rfl, hc1, hI1, hb1⟩
  have hB1 := below_of_alloc hb1
  have hI0 := HI.out.below hB1
  have hs1 := hB1.size
  go_wp2_with fail
  refine (concat_own w1.heap.size 24 A A1 n d c c1 2 F (remB d t n F) _ (by omega) (by omega) (Box.made rfl) (hI0.alloc _) ((hI1.weak (Nat.zero_le _)).alloc _)).mono ?_
  rintro e w2 ⟨v, rfl, hown2, hb2⟩
  obtain ⟨A2, c2, rfl, hc2, hI2⟩ := hown2.form
  have hc29 := hown2.cap_any.2
  have hB2 := hB1.trans ((below_of_alloc hb2).mono hs1)
  go_wp2_with fail
  go_ret
  exact ⟨A2, c2, rfl, hc2, hc29, hI2.weak (by simp; omega), hB2⟩
end Go.Proofs.Ytjelbemfljobaaa
