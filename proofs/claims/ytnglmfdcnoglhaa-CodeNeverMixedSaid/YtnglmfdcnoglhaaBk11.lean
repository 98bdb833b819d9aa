/- Lemmas: Pa, Pb. -/
import Derived.Test.YtnglmfdcnoglhaaBk01
import Derived.Test.YtnglmfdcnoglhaaBk05
import Derived.Test.YtnglmfdcnoglhaaBk06
set_option linter.unusedVariables false
set_option linter.unusedSimpArgs false
/- A buffer's error, of the code and of the reference. -/
namespace Go.Proofs.Ytnglmfdcnoglhaa
open Go.RowKit Go.Shelf
/-- Are these numbers all 0? -/
def zeroB (n : Nat) (S : Nat → Int) : Bool := (List.range n).all fun k => S k == 0
theorem zeroB_iff {n : Nat} {S : Nat → Int} : zeroB n S = true ↔ ∀ k, k < n → S k = 0 := by simp [zeroB]
theorem sized_zero (n : Nat) (S : Nat → Int) : sizedB n S 0 = zeroB n S := by
  rw [Bool.eq_iff_iff, sizedB_iff, zeroB_iff]
  exact ⟨fun h k hk => by have := h k hk; omega, fun h k hk => by have := h k hk; omega⟩
/-- The error of a buffer (its toggle, its count, l soft bits S), where a buffer has that many. -/
def procErrI (len t k : Int) (l : Nat) (S : Nat → Int) : Int :=
  if withinB t (-1) 1 = false then 2 else if withinB k 0 1000000000 = false then 2 else if ((t == -1) == (k == 0)) = false then 22 else if (l : Int) ≠ len then 10 else if sizedB l S 1000000000 = false then 2
  else if k = 0 ∧ zeroB l S = false then 22 else 0
theorem proc_cells {W : World} {b : Nat} {t k : Int} {A : Option Addr} {l c : Nat} (bx : Box W b 55 #[.int .i64 t, .int .i64 k, .slice A l c]) :
    W.cell? ⟨b, 0, none⟩ = some (.int .i64 t) ∧ W.cell? ⟨b, 1, none⟩ = some (.int .i64 k) ∧ W.cell? ⟨b, 2, none⟩ = some (.slice A l c) ∧ b < W.heap.size := ⟨bx.at_ 0, bx.at_ 1, bx.at_ 2, bx.lt⟩
theorem areWithin_sized (A : Option Addr) (n c : Nat) (F : Nat → Int) (m : Int) (w : World) (hn : n ≤ 100000) (hI : IntsAt w 0 A n F) (h0 : 0 ≤ m) (h9 : m ≤ 1000000000000) :
    Calls Try.prog 85 #[.slice A n c, .int .i64 m] w fun e w' => e = .returned (.bool (sizedB n F m)) ∧ Below w.heap.size w w' := by
  have h := areWithin_any A n c F m w hn hI (by omega) (by omega)
  exact h
set_option maxHeartbeats 4000000 in
set_option maxRecDepth 100000 in
theorem processError_any (len t k : Int) (A : Option Addr) (l c : Nat) (S : Nat → Int) (w : World) (hl : l ≤ 100000) (hI : IntsAt w 0 A l S) :
    Calls Try.prog 80 #[.agg #[.int .i64 t, .int .i64 k, .slice A l c], .int .i64 len] w fun e w' => e = .returned (.int .i64 (procErrI len t k l S)) ∧ Below w.heap.size w w' := by
  have HI := hide hI
  clear hI
  obtain ⟨R, hR⟩ : ∃ R, R = procErrI len t k l S := ⟨_, rfl⟩
  rw [← hR]
  have HR := hide hR
  clear hR
  by_cases ht : t = -1
  · by_cases hk : k = 0
    · skip
      have tt : (t == -1) = true := by simpa using ht
      have tk : (k == 0) = true := by simpa using hk
      have HT := hide ht
      have HK := hide hk
      clear ht hk
      go_enter Try.func80, Try.ntmps80
      go_wp2_with fail
      refine (isWithin_any t (-1) 1 _).mono ?_
      rintro e w' ⟨rfl, rfl⟩
      cases h1 : withinB t (-1) 1
      · have HE := hide (show R = 2 from by rw [HR.out]; unfold procErrI; rw [if_pos h1])
        clear h1
        go_wp2_with fail
        go_ret
        exact ⟨ret_int HE.out.symm, by (repeat (first | (with_reducible exact Below.refl _ _) | (with_reducible refine below_drewN ?_ _) | (with_reducible refine Below.drew ?_) | (with_reducible refine Below.alloc ?_ (by first | exact Nat.le_refl _ | (simp; done) | (simp; omega) | omega) _) | (with_reducible refine Below.setCell ?_ (by first | exact Nat.le_refl _ | (simp; done) | (simp; omega) | omega) _)))⟩
      · go_wp2_with fail
        refine (isWithin_any k 0 1000000000 _).mono ?_
        rintro e w' ⟨rfl, rfl⟩
        cases h2 : withinB k 0 1000000000
        · have HE := hide (show R = 2 from by rw [HR.out]; unfold procErrI; rw [if_neg (by rw [h1]; decide), if_pos h2])
          clear h1 h2
          go_wp2_with fail
          go_ret
          exact ⟨ret_int HE.out.symm, by (repeat (first | (with_reducible exact Below.refl _ _) | (with_reducible refine below_drewN ?_ _) | (with_reducible refine Below.drew ?_) | (with_reducible refine Below.alloc ?_ (by first | exact Nat.le_refl _ | (simp; done) | (simp; omega) | omega) _) | (with_reducible refine Below.setCell ?_ (by first | exact Nat.le_refl _ | (simp; done) | (simp; omega) | omega) _)))⟩
        · have HP := hide (show R = if ((t == -1) == (k == 0)) = false then 22 else if (l : Int) ≠ len then 10 else if sizedB l S 1000000000 = false then 2 else if k = 0 ∧ zeroB l S = false then 22 else 0 from by rw [HR.out]; unfold procErrI; rw [if_neg (by rw [h1]; decide), if_neg (by rw [h2]; decide)])
          clear h1 h2
          by_cases h4 : (l : Int) = len
          · have t4 : ((l : Int) != len) = false := by simpa using h4
            have HQ := hide (show R = if sizedB l S 1000000000 = false then 2 else if k = 0 ∧ zeroB l S = false then 22 else 0 from by rw [HP.out, if_neg (by rw [tk, tt]; decide), if_neg (fun h => h h4)])
            clear h4 HP
            go_wp2_with fail
            refine (areWithin_sized A l c S 1000000000 _ hl (HI.out.alloc _) (by omega) (by omega)).mono ?_
            rintro e w5 ⟨rfl, hb5⟩
            have hB5 := below_of_alloc hb5
            have bx5 : Box w5 w.heap.size 55 #[.int .i64 t, .int .i64 k, .slice A l c] := (Box.made rfl).below hb5
            obtain ⟨x0, x1, x2, hlx⟩ := proc_cells bx5
            cases h5 : sizedB l S 1000000000
            · have HE := hide (show R = 2 from by rw [HQ.out, if_pos h5])
              clear h5 HQ
              go_wp2_with fail
              go_ret
              exact ⟨ret_int HE.out.symm, hB5⟩
            · have HS := hide (show R = if zeroB l S = false then 22 else 0 from by
                rw [HQ.out, if_neg (by rw [h5]; decide)]
                by_cases hz : zeroB l S = false
                · rw [if_pos ⟨HK.out, hz⟩, if_pos hz]
                · rw [if_neg (fun h => hz h.2), if_neg hz])
              clear h5 HQ
              go_wp2_with fail
              refine (areWithin_sized A l c S 0 _ hl (HI.out.below hB5) (by omega) (by omega)).mono ?_
              rintro e w6 ⟨rfl, hb6⟩
              rw [sized_zero]
              have hB6 := hB5.trans (hb6.mono hB5.size)
              cases hz : zeroB l S
              · have HE := hide (show R = 22 from by rw [HS.out, hz]; rfl)
                clear hz HS
                go_wp2_with fail
                go_ret
                exact ⟨ret_int HE.out.symm, hB6⟩
              · have HE := hide (show R = 0 from by rw [HS.out, hz]; rfl)
                clear hz HS
                go_wp2_with fail
                go_ret
                exact ⟨ret_int HE.out.symm, hB6⟩
          · have t4 : ((l : Int) != len) = true := by simpa using h4
            have HE := hide (show R = 10 from by rw [HP.out, if_neg (by rw [tk, tt]; decide), if_pos h4])
            clear h4 HP
            go_wp2_with fail
            go_ret
            exact ⟨ret_int HE.out.symm, by (repeat (first | (with_reducible exact Below.refl _ _) | (with_reducible refine below_drewN ?_ _) | (with_reducible refine Below.drew ?_) | (with_reducible refine Below.alloc ?_ (by first | exact Nat.le_refl _ | (simp; done) | (simp; omega) | omega) _) | (with_reducible refine Below.setCell ?_ (by first | exact Nat.le_refl _ | (simp; done) | (simp; omega) | omega) _)))⟩
    · skip
      have tt : (t == -1) = true := by simpa using ht
      have tk : (k == 0) = false := by simpa using hk
      have HT := hide ht
      have HK := hide hk
      clear ht hk
      go_enter Try.func80, Try.ntmps80
      go_wp2_with fail
      refine (isWithin_any t (-1) 1 _).mono ?_
      rintro e w' ⟨rfl, rfl⟩
      cases h1 : withinB t (-1) 1
      · have HE := hide (show R = 2 from by rw [HR.out]; unfold procErrI; rw [if_pos h1])
        clear h1
        go_wp2_with fail
        go_ret
        exact ⟨ret_int HE.out.symm, by (repeat (first | (with_reducible exact Below.refl _ _) | (with_reducible refine below_drewN ?_ _) | (with_reducible refine Below.drew ?_) | (with_reducible refine Below.alloc ?_ (by first | exact Nat.le_refl _ | (simp; done) | (simp; omega) | omega) _) | (with_reducible refine Below.setCell ?_ (by first | exact Nat.le_refl _ | (simp; done) | (simp; omega) | omega) _)))⟩
      · go_wp2_with fail
        refine (isWithin_any k 0 1000000000 _).mono ?_
        rintro e w' ⟨rfl, rfl⟩
        cases h2 : withinB k 0 1000000000
        · have HE := hide (show R = 2 from by rw [HR.out]; unfold procErrI; rw [if_neg (by rw [h1]; decide), if_pos h2])
          clear h1 h2
          go_wp2_with fail
          go_ret
          exact ⟨ret_int HE.out.symm, by (repeat (first | (with_reducible exact Below.refl _ _) | (with_reducible refine below_drewN ?_ _) | (with_reducible refine Below.drew ?_) | (with_reducible refine Below.alloc ?_ (by first | exact Nat.le_refl _ | (simp; done) | (simp; omega) | omega) _) | (with_reducible refine Below.setCell ?_ (by first | exact Nat.le_refl _ | (simp; done) | (simp; omega) | omega) _)))⟩
        · have HP := hide (show R = if ((t == -1) == (k == 0)) = false then 22 else if (l : Int) ≠ len then 10 else if sizedB l S 1000000000 = false then 2 else if k = 0 ∧ zeroB l S = false then 22 else 0 from by rw [HR.out]; unfold procErrI; rw [if_neg (by rw [h1]; decide), if_neg (by rw [h2]; decide)])
          clear h1 h2
          have HE := hide (show R = 22 from by rw [HP.out, if_pos (by rw [tt, tk]; decide)])
          clear HP
          go_wp2_with fail
          go_ret
          exact ⟨ret_int HE.out.symm, by (repeat (first | (with_reducible exact Below.refl _ _) | (with_reducible refine below_drewN ?_ _) | (with_reducible refine Below.drew ?_) | (with_reducible refine Below.alloc ?_ (by first | exact Nat.le_refl _ | (simp; done) | (simp; omega) | omega) _) | (with_reducible refine Below.setCell ?_ (by first | exact Nat.le_refl _ | (simp; done) | (simp; omega) | omega) _)))⟩
  · by_cases hk : k = 0
    · skip
      have tt : (t == -1) = false := by simpa using ht
      have tk : (k == 0) = true := by simpa using hk
      have HT := hide ht
      have HK := hide hk
      clear ht hk
      go_enter Try.func80, Try.ntmps80
      go_wp2_with fail
      refine (isWithin_any t (-1) 1 _).mono ?_
      rintro e w' ⟨rfl, rfl⟩
      cases h1 : withinB t (-1) 1
      · have HE := hide (show R = 2 from by rw [HR.out]; unfold procErrI; rw [if_pos h1])
        clear h1
        go_wp2_with fail
        go_ret
        exact ⟨ret_int HE.out.symm, by (repeat (first | (with_reducible exact Below.refl _ _) | (with_reducible refine below_drewN ?_ _) | (with_reducible refine Below.drew ?_) | (with_reducible refine Below.alloc ?_ (by first | exact Nat.le_refl _ | (simp; done) | (simp; omega) | omega) _) | (with_reducible refine Below.setCell ?_ (by first | exact Nat.le_refl _ | (simp; done) | (simp; omega) | omega) _)))⟩
      · go_wp2_with fail
        refine (isWithin_any k 0 1000000000 _).mono ?_
        rintro e w' ⟨rfl, rfl⟩
        cases h2 : withinB k 0 1000000000
        · have HE := hide (show R = 2 from by rw [HR.out]; unfold procErrI; rw [if_neg (by rw [h1]; decide), if_pos h2])
          clear h1 h2
          go_wp2_with fail
          go_ret
          exact ⟨ret_int HE.out.symm, by (repeat (first | (with_reducible exact Below.refl _ _) | (with_reducible refine below_drewN ?_ _) | (with_reducible refine Below.drew ?_) | (with_reducible refine Below.alloc ?_ (by first | exact Nat.le_refl _ | (simp; done) | (simp; omega) | omega) _) | (with_reducible refine Below.setCell ?_ (by first | exact Nat.le_refl _ | (simp; done) | (simp; omega) | omega) _)))⟩
        · have HP := hide (show R = if ((t == -1) == (k == 0)) = false then 22 else if (l : Int) ≠ len then 10 else if sizedB l S 1000000000 = false then 2 else if k = 0 ∧ zeroB l S = false then 22 else 0 from by rw [HR.out]; unfold procErrI; rw [if_neg (by rw [h1]; decide), if_neg (by rw [h2]; decide)])
          clear h1 h2
          have HE := hide (show R = 22 from by rw [HP.out, if_pos (by rw [tt, tk]; decide)])
          clear HP
          go_wp2_with fail
          go_ret
          exact ⟨ret_int HE.out.symm, by (repeat (first | (with_reducible exact Below.refl _ _) | (with_reducible refine below_drewN ?_ _) | (with_reducible refine Below.drew ?_) | (with_reducible refine Below.alloc ?_ (by first | exact Nat.le_refl _ | (simp; done) | (simp; omega) | omega) _) | (with_reducible refine Below.setCell ?_ (by first | exact Nat.le_refl _ | (simp; done) | (simp; omega) | omega) _)))⟩
    · skip
      have tt : (t == -1) = false := by simpa using ht
      have tk : (k == 0) = false := by simpa using hk
      have HT := hide ht
      have HK := hide hk
      clear ht hk
      go_enter Try.func80, Try.ntmps80
      go_wp2_with fail
      refine (isWithin_any t (-1) 1 _).mono ?_
      rintro e w' ⟨rfl, rfl⟩
      cases h1 : withinB t (-1) 1
      · have HE := hide (show R = 2 from by rw [HR.out]; unfold procErrI; rw [if_pos h1])
        clear h1
        go_wp2_with fail
        go_ret
        exact ⟨ret_int HE.out.symm, by (repeat (first | (with_reducible exact Below.refl _ _) | (with_reducible refine below_drewN ?_ _) | (with_reducible refine Below.drew ?_) | (with_reducible refine Below.alloc ?_ (by first | exact Nat.le_refl _ | (simp; done) | (simp; omega) | omega) _) | (with_reducible refine Below.setCell ?_ (by first | exact Nat.le_refl _ | (simp; done) | (simp; omega) | omega) _)))⟩
      · go_wp2_with fail
        refine (isWithin_any k 0 1000000000 _).mono ?_
        rintro e w' ⟨rfl, rfl⟩
        cases h2 : withinB k 0 1000000000
        · have HE := hide (show R = 2 from by rw [HR.out]; unfold procErrI; rw [if_neg (by rw [h1]; decide), if_pos h2])
          clear h1 h2
          go_wp2_with fail
          go_ret
          exact ⟨ret_int HE.out.symm, by (repeat (first | (with_reducible exact Below.refl _ _) | (with_reducible refine below_drewN ?_ _) | (with_reducible refine Below.drew ?_) | (with_reducible refine Below.alloc ?_ (by first | exact Nat.le_refl _ | (simp; done) | (simp; omega) | omega) _) | (with_reducible refine Below.setCell ?_ (by first | exact Nat.le_refl _ | (simp; done) | (simp; omega) | omega) _)))⟩
        · have HP := hide (show R = if ((t == -1) == (k == 0)) = false then 22 else if (l : Int) ≠ len then 10 else if sizedB l S 1000000000 = false then 2 else if k = 0 ∧ zeroB l S = false then 22 else 0 from by rw [HR.out]; unfold procErrI; rw [if_neg (by rw [h1]; decide), if_neg (by rw [h2]; decide)])
          clear h1 h2
          by_cases h4 : (l : Int) = len
          · have t4 : ((l : Int) != len) = false := by simpa using h4
            have HQ := hide (show R = if sizedB l S 1000000000 = false then 2 else if k = 0 ∧ zeroB l S = false then 22 else 0 from by rw [HP.out, if_neg (by rw [tk, tt]; decide), if_neg (fun h => h h4)])
            clear h4 HP
            go_wp2_with fail
            refine (areWithin_sized A l c S 1000000000 _ hl (HI.out.alloc _) (by omega) (by omega)).mono ?_
            rintro e w5 ⟨rfl, hb5⟩
            have hB5 := below_of_alloc hb5
            have bx5 : Box w5 w.heap.size 55 #[.int .i64 t, .int .i64 k, .slice A l c] := (Box.made rfl).below hb5
            obtain ⟨x0, x1, x2, hlx⟩ := proc_cells bx5
            cases h5 : sizedB l S 1000000000
            · have HE := hide (show R = 2 from by rw [HQ.out, if_pos h5])
              clear h5 HQ
              go_wp2_with fail
              go_ret
              exact ⟨ret_int HE.out.symm, hB5⟩
            · have HE := hide (show R = 0 from by rw [HQ.out, if_neg (by rw [h5]; decide), if_neg (fun h => HK.out h.1)])
              clear h5 HQ
              go_wp2_with fail
              go_ret
              exact ⟨ret_int HE.out.symm, hB5⟩
          · have t4 : ((l : Int) != len) = true := by simpa using h4
            have HE := hide (show R = 10 from by rw [HP.out, if_neg (by rw [tk, tt]; decide), if_pos h4])
            clear h4 HP
            go_wp2_with fail
            go_ret
            exact ⟨ret_int HE.out.symm, by (repeat (first | (with_reducible exact Below.refl _ _) | (with_reducible refine below_drewN ?_ _) | (with_reducible refine Below.drew ?_) | (with_reducible refine Below.alloc ?_ (by first | exact Nat.le_refl _ | (simp; done) | (simp; omega) | omega) _) | (with_reducible refine Below.setCell ?_ (by first | exact Nat.le_refl _ | (simp; done) | (simp; omega) | omega) _)))⟩
end Go.Proofs.Ytnglmfdcnoglhaa
/- Buffers in memory, and their error, of the code. -/
namespace Go.Proofs.Ytnglmfdcnoglhaa
open Go.RowKit Go.Shelf
/-- A slice of n buffers: toggles T, counts K, L soft bits S each. -/
def ProcsAt (w : World) (lo : Nat) (A : Option Addr) (n : Nat) (T K : Nat → Int) (L : Nat → Nat) (S : Nat → Nat → Int) : Prop :=
  ∀ i, i < n → ∃ b o Ai ci, A = some ⟨b, o, none⟩ ∧ lo ≤ b ∧ b < w.heap.size ∧ w.cell? ⟨b, o + i * 3, none⟩ = some (.int .i64 (T i)) ∧ w.cell? ⟨b, o + i * 3 + 1, none⟩ = some (.int .i64 (K i)) ∧ w.cell? ⟨b, o + i * 3 + 2, none⟩ = some (.slice Ai (L i) ci) ∧ IntsAt w lo Ai (L i) (S i)
section
variable {w w' : World} {lo n : Nat} {A : Option Addr} {T K : Nat → Int} {L : Nat → Nat} {S : Nat → Nat → Int}
theorem ProcsAt.nil_ : ProcsAt w lo A 0 T K L S := fun i h => absurd h (Nat.not_lt_zero i)
theorem ProcsAt.below (h : ProcsAt w lo A n T K L S) (hb : Below w.heap.size w w') : ProcsAt w' lo A n T K L S := fun i hi => by
  obtain ⟨b, o, Ai, ci, e, h1, h2, h3, h4, h5, h8⟩ := h i hi
  exact ⟨b, o, Ai, ci, e, h1, Nat.lt_of_lt_of_le h2 hb.size, (hb.cell (p := ⟨b, _, none⟩) h2).trans h3, (hb.cell (p := ⟨b, _, none⟩) h2).trans h4, (hb.cell (p := ⟨b, _, none⟩) h2).trans h5, h8.below hb⟩
theorem ProcsAt.alloc (h : ProcsAt w lo A n T K L S) (x : Obj) : ProcsAt (w.alloc x) lo A n T K L S := h.below ((Below.refl _ _).alloc (Nat.le_refl _) _)
theorem ProcsAt.drewN (h : ProcsAt w lo A n T K L S) (m : Nat) : ProcsAt (w.drewN m) lo A n T K L S := h
theorem ProcsAt.weak {lo' : Nat} (h : ProcsAt w lo A n T K L S) (hl : lo' ≤ lo) : ProcsAt w lo' A n T K L S := fun i hi => by
  obtain ⟨b, o, Ai, ci, e, h1, h2, h3, h4, h5, h8⟩ := h i hi
  exact ⟨b, o, Ai, ci, e, Nat.le_trans hl h1, h2, h3, h4, h5, h8.weak hl⟩
end
def procsErrI (len : Int) (n : Nat) (T K : Nat → Int) (L : Nat → Nat) (S : Nat → Nat → Int) : Int := firstBad (fun i => procErrI len (T i) (K i) (L i) (S i)) n
/-- The error of buffers. -/
def bufErrI (len : Int) (n : Nat) (T K : Nat → Int) (L : Nat → Nat) (S : Nat → Nat → Int) : Int :=
  if withinB len 1 200 = false then 2 else if n = 0 then 10 else if 8 < n then 8 else procsErrI len n T K L S
theorem bufs_cells {W : World} {b : Nat} {len : Int} {A : Option Addr} {n c : Nat} (bx : Box W b 36 #[.int .i64 len, .slice A n c]) :
    W.cell? ⟨b, 0, none⟩ = some (.int .i64 len) ∧ W.cell? ⟨b, 1, none⟩ = some (.slice A n c) ∧ b < W.heap.size := ⟨bx.at_ 0, bx.at_ 1, bx.lt⟩
set_option maxHeartbeats 4000000 in
set_option maxRecDepth 100000 in
theorem buffersError_any (len : Int) (A : Option Addr) (n c : Nat) (T K : Nat → Int) (L : Nat → Nat) (S : Nat → Nat → Int) (w : World) (hn : n ≤ 9223372036854775807) (hL : ∀ i, i < n → L i ≤ 100000) (hI : ProcsAt w 0 A n T K L S) :
    Calls Try.prog 49 #[.agg #[.int .i64 len, .slice A n c]] w fun e w' => e = .returned (.int .i64 (bufErrI len n T K L S)) ∧ Below w.heap.size w w' := by
  have HI := hide hI
  have HL := hide hL
  clear hI hL
  obtain ⟨R, hR⟩ : ∃ R, R = bufErrI len n T K L S := ⟨_, rfl⟩
  rw [← hR]
  have HR := hide hR
  clear hR
  go_enter Try.func49, Try.ntmps49
  go_wp2_with fail
  refine (lengthError_any _ _).mono ?_
  rintro e w' ⟨rfl, rfl⟩
  cases h1 : withinB len 1 200
  · have HE := hide (show R = 2 from by rw [HR.out]; unfold bufErrI; rw [if_pos h1])
    rw [show unI false 2 = 2 from rfl]
    clear h1
    go_wp2_with fail
    go_ret
    exact ⟨ret_int HE.out.symm, by (repeat (first | (with_reducible exact Below.refl _ _) | (with_reducible refine below_drewN ?_ _) | (with_reducible refine Below.drew ?_) | (with_reducible refine Below.alloc ?_ (by first | exact Nat.le_refl _ | (simp; done) | (simp; omega) | omega) _) | (with_reducible refine Below.setCell ?_ (by first | exact Nat.le_refl _ | (simp; done) | (simp; omega) | omega) _)))⟩
  · rw [show unI true 2 = 0 from rfl]
    by_cases h2 : n = 0
    · have HE := hide (show R = 10 from by rw [HR.out]; unfold bufErrI; rw [if_neg (by rw [h1]; decide), if_pos h2])
      subst h2
      clear h1
      go_wp2_with fail
      go_ret
      exact ⟨ret_int HE.out.symm, by (repeat (first | (with_reducible exact Below.refl _ _) | (with_reducible refine below_drewN ?_ _) | (with_reducible refine Below.drew ?_) | (with_reducible refine Below.alloc ?_ (by first | exact Nat.le_refl _ | (simp; done) | (simp; omega) | omega) _) | (with_reducible refine Below.setCell ?_ (by first | exact Nat.le_refl _ | (simp; done) | (simp; omega) | omega) _)))⟩
    · have t2 : ((n : Int) == 0) = false := by simp; omega
      by_cases h3 : 8 < n
      · have HE := hide (show R = 8 from by rw [HR.out]; unfold bufErrI; rw [if_neg (by rw [h1]; decide), if_neg h2, if_pos h3])
        have t3 : decide ((8 : Int) < (n : Int)) = true := decide_eq_true (by omega)
        have t3' : decide (8 < n) = true := decide_eq_true h3
        clear h1 h2 h3
        go_wp2_with fail
        go_ret
        exact ⟨ret_int HE.out.symm, by (repeat (first | (with_reducible exact Below.refl _ _) | (with_reducible refine below_drewN ?_ _) | (with_reducible refine Below.drew ?_) | (with_reducible refine Below.alloc ?_ (by first | exact Nat.le_refl _ | (simp; done) | (simp; omega) | omega) _) | (with_reducible refine Below.setCell ?_ (by first | exact Nat.le_refl _ | (simp; done) | (simp; omega) | omega) _)))⟩
      · have HE := hide (show R = procsErrI len n T K L S from by rw [HR.out]; unfold bufErrI; rw [if_neg (by rw [h1]; decide), if_neg h2, if_neg h3])
        have t3 : decide ((8 : Int) < (n : Int)) = false := decide_eq_false (by omega)
        have t3' : decide (8 < n) = false := decide_eq_false h3
        have hn0 : 0 < n := by omega
        have hn8 : n ≤ 8 := by omega
        clear h1 h2 h3 HR
        go_wp2_with fail
        clear t2 t3 t3'
        go_loopw [4, 5, 24] (fun _ _ i wr => ∃ j : Nat, j ≤ n ∧ i = .int .i64 j ∧ Hid (procsErrI len j T K L S = 0) ∧ Box wr w.heap.size 36 #[.int .i64 len, .slice A n c] ∧ Below w.heap.size w wr) (fun _ _ i _ => n - (intOf i).toNat)
        case atStart => exact ⟨0, Nat.zero_le _, rfl, hide rfl, Box.made rfl, by (repeat (first | (with_reducible exact Below.refl _ _) | (with_reducible refine below_drewN ?_ _) | (with_reducible refine Below.drew ?_) | (with_reducible refine Below.alloc ?_ (by first | exact Nat.le_refl _ | (simp; done) | (simp; omega) | omega) _) | (with_reducible refine Below.setCell ?_ (by first | exact Nat.le_refl _ | (simp; done) | (simp; omega) | omega) _)))⟩
        case round =>
          obtain ⟨j, hj, rfl, HZ, bx, hB⟩ := hrel
          obtain ⟨z0, z1, hlz⟩ := bufs_cells bx
          by_cases hlt : j < n
          · have hltz : (j : Int) < (n : Int) := by omega
            obtain ⟨b, o, Ai, ci, rfl, -, hb, hc0, hc1, hc2, hIj⟩ := (HI.out.below hB) j hlt
            go_wp2_with fail
            refine (processError_any len (T j) (K j) Ai (L j) ci (S j) _ (HL.out j hlt) (hIj.alloc _)).mono ?_
            rintro e w2 ⟨rfl, hb2⟩
            have hB2 := hB.trans ((below_of_alloc hb2).mono hB.size)
            have bx2 := bx.below (below_of_alloc hb2)
            have hg := hide (show procsErrI len (j + 1) T K L S = procErrI len (T j) (K j) (L j) (S j) from firstBad_succ HZ.out)
            have HFB := hide (fun (h : procErrI len (T j) (K j) (L j) (S j) ≠ 0) => (firstBad_at HZ.out h n hlt : procsErrI len n T K L S = procErrI len (T j) (K j) (L j) (S j)))
            clear hb2 hc0 hc1 hc2 hIj hb
            generalize procErrI len (T j) (K j) (L j) (S j) = r at *
            by_cases hz : r = 0
            · have t5 : (r != 0) = false := by simpa using hz
              have HN := hide (hg.out.trans hz)
              clear hz hg HFB
              go_wp2_with fail
              go_roundw
              case rel => exact ⟨j + 1, by omega, by go_num, HN, bx2, hB2⟩
              case measure => simp [intOf]; omega
            · have t5 : (r != 0) = true := by simpa using hz
              have HQ := hide (HE.out.trans (HFB.out hz))
              clear hz hg HFB
              go_wp2_with fail
              go_ret
              exact ⟨ret_int HQ.out.symm, hB2⟩
          · obtain rfl : j = n := by omega
            have HQ := hide (HE.out.trans HZ.out)
            go_wp2_with fail
            go_ret
            exact ⟨ret_int HQ.out.symm, hB⟩
end Go.Proofs.Ytnglmfdcnoglhaa
