/- decoded -/
import Derived.Test.YtjelbemfljobaaaEm
import Derived.Test.YtjelbemfljobaaaEi
namespace Go.Proofs.Ytjelbemfljobaaa
open Go.RowKit Go.Lib
theorem boolInfo : (Try.prog.info? 4).map (fun i => (i.zero, i.size, i.bytes)) = some (some (.bool false), 1, 1) := by kernel_rfl
/-- Is x one of the first k positions. -/
def isPos (F : Nat → Int) (x : Nat) : Nat → Bool
  | 0 => false
  | k + 1 => if F k = x then true else isPos F x k
set_option maxHeartbeats 2000000 in
theorem decoded_own (p : Nat) (A C : Option Addr) (n c N d : Nat) (F S : Nat → Int) (w : World) (hok : PolarOk p n F) (hn : n ≤ 1000) (hN : N = 2 ^ p) (hI : IntsAt w 0 A n F) (hS : IntsAt w 0 C N S) (hNd : N ≤ d) (hd : d ≤ 9223372036854775807) (M : Int) (hM : M * 2 ^ p ≤ 1000000000000) (hS9 : ∀ j, j < N → -M ≤ S j ∧ S j ≤ M) :
    Calls Try.prog 73 #[.agg #[.int .i64 (p : Int), .slice A n c], .slice C N d] w fun e w' => ∃ g, e = .returned (.slice (some ⟨g, 0, none⟩) n n) ∧ IntsAt w' w.heap.size (some ⟨g, 0, none⟩) n (fun k => cancelF p (fun x => isPos F x n) S (F k).toNat) ∧ Below w.heap.size w w' := by
  obtain ⟨h1, h2, h3, h4⟩ := hok
  have hN1 : 1 ≤ N := by rw [hN]; exact Nat.two_pow_pos p
  have hN9 : N ≤ 64 := by rw [hN]; exact Nat.pow_le_pow_right (by decide) h1
  have h3' : ∀ k, k < n → 0 ≤ F k ∧ F k < N := fun k hk => by
    have := h3 k hk
    have e : ((2 ^ p : Nat) : Int) = (2 : Int) ^ p := by simp
    rw [hN]; omega
  obtain ⟨i0, hi, hz0, hz1, hz2⟩ := info_parts intInfo
  obtain ⟨i1, hj, hy0, hy1, hy2⟩ := info_parts boolInfo
  have hmk := fun W => run_make_row (P := Try.prog) 24 3 i0 (.int .i64 0) Try.underlying24 hi hz0 hz1 rfl .i64 .i64 n (by rw [hz2]; omega) (by omega) W
  have hmb := fun W => run_make_row (P := Try.prog) 137 4 i1 (.bool false) Try.underlying137 hj hy0 hy1 rfl .i64 .i64 N (by rw [hy2]; omega) (by omega) W
  obtain ⟨sb, so, rfl⟩ : ∃ sb so, C = some ⟨sb, so, none⟩ := by
    obtain ⟨b, o, e, -⟩ := hS 0 (by omega)
    exact ⟨b, o, e⟩
  have HI := hide hI
  have HS := hide hS
  have H3 := hide h3'
  have HN := hide hN
  have HM := hide hM
  have HS9 := hide hS9
  have HMK := hide hmk
  clear hI hS h3 h3' h4 hi hz0 hz1 hz2 hN hM hS9 hj hy0 hy1 hy2 hmk
  go_enter Try.func73, Try.ntmps73
  go_wp2_with fail
  clear hmb
  go_loopw [18] (fun i wr => ∃ k : Nat, k ≤ n ∧ i = .int .i64 k ∧ wr.rowIs (w.heap.size + 1) 4 N (fun x => .bool (isPos F x k)) ∧ Box wr w.heap.size 26 #[.int .i64 (p : Int), .slice A n c] ∧ Below w.heap.size w wr) (fun i _ => n - (intOf i).toNat)
  case atStart =>
    refine ⟨0, Nat.zero_le _, rfl, ?_, (Box.made rfl).alloc _, by (repeat (first | (with_reducible exact Below.refl _ _) | (with_reducible refine below_drewN ?_ _) | (with_reducible refine Below.drew ?_) | (with_reducible refine Below.alloc ?_ (by first | exact Nat.le_refl _ | (simp; done) | (simp; omega) | omega) _) | (with_reducible refine Below.setCell ?_ (by first | exact Nat.le_refl _ | (simp; done) | (simp; omega) | omega) _)))⟩
    have := World.rowIs_made (w.alloc (.cells #[.int .i64 (p : Int), .slice A n c] 26)) (.bool false) N 4
    simp only [World.size_alloc] at this
    exact this.congr (fun _ _ => rfl)
  case round =>
    obtain ⟨k, hk, rfl, hR, bx, hBl⟩ := hrel
    by_cases hlt : k < n
    · have hltz : (k : Int) < (n : Int) := by omega
      have hI := HI.out.below hBl
      obtain ⟨b, o, rfl, -, hb, hcell⟩ := hI k hlt
      obtain ⟨f0, f1⟩ := H3.out k hlt
      obtain ⟨f, hf⟩ := Int.eq_ofNat_of_zero_le f0
      have HF := hide hf
      rw [hf] at hcell f0 f1
      clear hf
      have hc := hR.cell (i := f) (by omega)
      have hfz := hR.frozen f
      go_wp2_with fail
      go_roundw
      case rel =>
        exact ⟨k + 1, by omega, by go_num, (hR.set f _).congr (fun x _ => by
          show (if x = f then Value.bool true else Value.bool (isPos F x k)) = Value.bool (if F k = x then true else isPos F x k)
          by_cases e : x = f
          · rw [if_pos e, if_pos (by rw [HF.out, e])]
          · rw [if_neg e, if_neg (by rw [HF.out]; omega)]), bx.other (by simp) _, hBl.setCell (by simp) _⟩
      case measure => simp [intOf]; omega
    · obtain rfl : k = n := by omega
      obtain ⟨wo, rfl⟩ : ∃ wo : World, wo = wr := ⟨_, rfl⟩
      have x1 := bx.at_ 1
      simp only [List.getElem?_toArray] at x1
      have hBs := hBl.size
      have hlt0 := bx.lt
      go_wp2_with fail
      refine (cancelled_any p (by omega) N (w.heap.size + 1) 0 N sb so d M (fun x => isPos F x k) S wo HN.out (Nat.le_refl _) hNd (by omega) (by omega) HM.out HS9.out (fun x hx => ⟨_, _, rfl, hR.lt, by rw [Nat.zero_add]; exact hR.cell hx⟩) (HS.out.below hBl)).mono ?_
      rintro e w1 ⟨v, rfl, A', c', rfl, hc', hI', hb'⟩
      have bx1 := bx.below hb'
      have y1 := bx1.at_ 1
      simp only [List.getElem?_toArray] at y1
      have hB1 : Below w.heap.size w w1 := hBl.trans (hb'.mono hBl.size)
      have hb1s := hB1.size
      have hlt1 := bx1.lt
      have hmk := HMK.out
      go_wp2_with fail
      clear hmk x1 y1
      have HI' := hide hI'
      have HI1 := hide (HI.out.below hB1)
      clear hI'
      go_loopw [36] (fun i wx => ∃ j : Nat, j ≤ k ∧ i = .int .i64 j ∧ wx.rowIs w1.heap.size 3 k (fun x => .int .i64 (if x < j then cancelF p (fun x => isPos F x k) S (F x).toNat else 0)) ∧ Below w1.heap.size w1 wx) (fun i _ => k - (intOf i).toNat)
      case atStart =>
        exact ⟨0, Nat.zero_le _, rfl, (World.rowIs_made w1 (.int .i64 0) k 3).congr (fun _ _ => by simp), (Below.refl _ _).alloc (Nat.le_refl _) _⟩
      case round =>
        obtain ⟨j, hj, rfl, hR2, hB2⟩ := hrel
        by_cases hlj : j < k
        · have hltj : (j : Int) < (k : Int) := by omega
          obtain ⟨f0, f1⟩ := H3.out j hlj
          obtain ⟨f, hf⟩ := Int.eq_ofNat_of_zero_le f0
          have hI2 := HI1.out.below hB2
          have hJ2 := HI'.out.below hB2
          obtain ⟨b, o, rfl, -, hb, hcell⟩ := hI2 j hlj
          obtain ⟨b', o', rfl, -, hb2, hcell2⟩ := hJ2 f (by omega)
          have HF := hide hf
          rw [hf] at hcell f0 f1
          clear hf hI2 hJ2
          have hc := hR2.cell hlj
          have hfz := hR2.frozen j
          go_wp2_with fail
          go_roundw
          case rel =>
            exact ⟨j + 1, by omega, by go_num, (hR2.set j _).congr (fun x _ => by
              by_cases e : x = j
              · subst e
                rw [if_pos rfl, if_pos (Nat.lt_succ_self _), HF.out]; rfl
              · rw [if_neg e]
                by_cases e2 : x < j
                · rw [if_pos e2, if_pos (by omega)]
                · rw [if_neg e2, if_neg (by omega)]), hB2.setCell (by exact Nat.le_refl _) _⟩
          case measure => simp [intOf]; omega
        · obtain rfl : j = k := by omega
          go_wp2_with fail
          go_ret
          exact ⟨_, rfl, IntsAt.of_row (hR2.congr (fun x hx => by rw [if_pos hx])) hb1s, hB1.trans (hB2.mono hb1s)⟩
theorem decoded_pre (p : Nat) (A C : Option Addr) (n c N d : Nat) (F S : Nat → Int) (w : World) (hok : PolarOk p n F) (hn : n ≤ 1000) (hN : N = 2 ^ p) (hI : IntsAt w 0 A n F) (hS : IntsAt w 0 C N S) (hNd : N ≤ d) (hd : d ≤ 9223372036854775807) (M : Int) (hM : M * 2 ^ p ≤ 1000000000000) (hS9 : ∀ j, j < N → -M ≤ S j ∧ S j ≤ M) :
    Calls Try.prog 73 #[.agg #[.int .i64 (p : Int), .slice A n c], .slice C N d] w fun e w' => ∃ v, e = .returned v ∧ GaveInts w n (fun k => cancelF p (fun x => isPos F x n) S (F k).toNat) v w' :=
  (decoded_own p A C n c N d F S w hok hn hN hI hS hNd hd M hM hS9).mono fun _ _ ⟨_, h1, h2, h3⟩ => ⟨_, h1, _, _, rfl, Nat.le_refl _, h2, h3⟩
end Go.Proofs.Ytjelbemfljobaaa
