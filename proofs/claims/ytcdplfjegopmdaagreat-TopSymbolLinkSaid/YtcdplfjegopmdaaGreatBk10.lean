/- Lemmas: S6, S7, S8, S9. -/
import Derived.StillTailTactics
import Derived.Test.YtcdplfjegopmdaaGreatBk09
set_option linter.unusedVariables false
set_option linter.unusedSimpArgs false
/- sequence, CheckRegister and Sequence of the code. -/
namespace Go.Proofs.YtcdplfjegopmdaaGreat
open Go.RowKit Go.Lib
theorem ownS_zeros (w : World) (base g f : Nat) (hb : base ≤ w.heap.size) (hg : g = w.heap.size) (hf : f ≤ maxLen) : OwnInts (w.alloc (.cells (madeCells #[.int .i64 0] f) 3)) base (.slice (some ⟨g, 0, none⟩) f f) f (fun _ => 0) :=
  hg ▸ ⟨by rw [intCells_len, Nat.mul_one], .inr ⟨w.heap.size, f, _, rfl, hb, heap_alloc_new w _, Nat.le_refl _, hf, by simp [madeCells], by
    apply List.ext_getElem?
    intro j
    rw [List.getElem?_take, intCells_get, Nat.mul_one, Array.getElem?_toList]
    by_cases hj : j < f
    · rw [if_pos hj]; simp [madeCells, hj, Nat.mod_one]
    · rw [if_neg hj]; simp [madeCells, hj]⟩⟩
/-- What the first k steps give out. -/
def outS (L n : Nat) (T S : Nat → Int) (k j : Nat) : Int := if j < k then itS L n T S j 0 else 0
theorem outS_set (L n : Nat) (T S : Nat → Int) (k : Nat) : setF (outS L n T S k) k (itS L n T S k 0) = outS L n T S (k + 1) := by
  funext j
  unfold setF outS
  by_cases e : j = k
  · subst e; rw [if_pos rfl, if_pos (by omega)]
  · rw [if_neg e]
    by_cases h : j < k
    · rw [if_pos h, if_pos (by omega)]
    · rw [if_neg h, if_neg (by omega)]
set_option maxHeartbeats 8000000 in
set_option maxRecDepth 100000 in
theorem sequence_any (b o n c b2 o2 m d q : Nat) (T S : Nat → Int) (w : World) (hok : RegOk (m + 1) n T S) (hq : q ≤ 400) (hT : IntsAt w 0 (some ⟨b, o, none⟩) n T) (hS : IntsAt w 0 (some ⟨b2, o2, none⟩) (m + 1) S) :
    Calls Tryz.prog 59 #[.agg #[.int .i64 ((m : Int) + 1), .slice (some ⟨b, o, none⟩) n c, .slice (some ⟨b2, o2, none⟩) (m + 1) d], .int .i64 (q : Int)] w fun e w' => ∃ g, e = .returned (.slice (some ⟨g, 0, none⟩) q q) ∧
      OwnInts w' w.heap.size (.slice (some ⟨g, 0, none⟩) q q) q (fun j => itS (m + 1) n T S j 0) ∧ Below w.heap.size w w' := by
  have hn10 := hok.count
  have hm9 := hok.most
  have HI := hide hT
  have HJ := hide hS
  have HCO := hide (fun W (h : IntsAt W 0 (some ⟨b, o, none⟩) n T) (k : IntsAt W 0 (some ⟨b2, o2, none⟩) (m + 1) S) => copyOf_any ((m : Int) + 1) b o n c b2 o2 (m + 1) d T S W hok.some_ (by omega) (by omega) (by omega) h k)
  have HNX := hide (fun (gb gT gS cT cS k : Nat) W (h : Behind W w.heap.size gb gT gS cT cS n m T (itS (m + 1) n T S k)) => Behind.next hok h)
  have HOS := hide (outS_set (m + 1) n T S)
  have HOE := hide (show ∀ j, j < q → outS (m + 1) n T S q j = itS (m + 1) n T S j 0 from fun j hj => if_pos hj)
  have HOZ := hide (show outS (m + 1) n T S 0 = fun _ => 0 from by funext j; exact if_neg (by omega))
  obtain ⟨U, hU⟩ : ∃ z, outS (m + 1) n T S = z := ⟨_, rfl⟩
  obtain ⟨I, hI⟩ : ∃ z, itS (m + 1) n T S = z := ⟨_, rfl⟩
  have HI0 := hide (show I 0 = S by rw [← hI]; rfl)
  simp only [hU, hI] at HNX HOS HOE HOZ
  rw [hI]
  obtain ⟨i0, hi, hz0, hz1, hz2⟩ := info_parts intInfo
  have hmk := fun W => run_make_row (P := Tryz.prog) 24 3 i0 (.int .i64 0) Tryz.underlying24 hi hz0 hz1 rfl .i64 .i64 q (by rw [hz2]; omega) (by omega) W
  clear hT hS hi hz0 hz1 hz2 hU hI hok
  go_enter Tryz.func59, Tryz.ntmps59
  go_upto_region 1 with fail
  obtain ⟨W, hW⟩ : ∃ q : World, q = w.alloc (.cells #[.int .i64 ((m : Int) + 1), .slice (some ⟨b, o, none⟩) n c, .slice (some ⟨b2, o2, none⟩) (m + 1) d] 30) := ⟨_, rfl⟩
  try rw [← hW]
  have HX := hide (show Box W w.heap.size 30 #[.int .i64 ((m : Int) + 1), .slice (some ⟨b, o, none⟩) n c, .slice (some ⟨b2, o2, none⟩) (m + 1) d] by rw [hW]; exact Box.made rfl)
  have HB := hide (show Below w.heap.size w W by rw [hW]; (repeat (first | (with_reducible exact Below.refl _ _) | (with_reducible refine Go.below_drewN ?_ _) | (with_reducible refine Below.drew ?_) | (with_reducible refine Below.alloc ?_ (by first | exact Nat.le_refl _ | (simp; done) | (simp; omega) | omega) _) | (with_reducible refine Below.setCell ?_ (by first | exact Nat.le_refl _ | (simp; done) | (simp; omega) | omega) _))))
  clear hW
  obtain ⟨x0, x1, x2, f0, f1, f2, hlx⟩ := HX.out.r3
  go_wp2_with fail
  clear x0 x1 x2 f0 f1 f2 hlx
  refine (HCO.out _ (HI.out.below HB.out) (HJ.out.below HB.out)).mono ?_
  rintro e w1 ⟨gT, cT, gS, cS, rfl, h1, h2, ho1, ho2, hb1⟩
  have hB0 := HB.out.size
  have hgS : gS < w1.heap.size := (ho2.row (by omega)).elim fun g' h => h.elim fun c' h => by
    obtain ⟨e, -, h⟩ := h
    injection e with e1
    injection e1 with e1
    injection e1 with e1
    rw [e1]; exact h
  replace HB := hide (HB.out.trans (hb1.mono HB.out.size))
  clear hb1 HX HI HJ HCO
  go_upto_region 2 with fail
  obtain ⟨g5, hg5⟩ : ∃ z, w1.heap.size = z := ⟨_, rfl⟩
  obtain ⟨w2, hw2⟩ : ∃ q : World, q = w1.alloc (.cells #[.int .i64 ((m : Int) + 1), .slice (some ⟨gT, 0, none⟩) n cT, .slice (some ⟨gS, 0, none⟩) (m + 1) cS] 30) := ⟨_, rfl⟩
  try rw [← hw2]
  have HR := hide (show Behind w2 w.heap.size g5 gT gS cT cS n m T (I 0) by rw [hw2, HI0.out]; exact ⟨Box.made hg5.symm, ownS_weak (ho1.alloc _) hB0, ownS_weak (ho2.alloc _) hB0, by omega, h2, by omega⟩)
  replace HB := hide (show Below w.heap.size w w2 by rw [hw2]; exact HB.out.alloc HB.out.size _)
  have hs2 : g5 < w2.heap.size := HR.out.box.lt
  clear hw2 ho1 ho2 h1 hB0
  try simp only [hg5]
  go_wp2_with fail
  clear hmk
  obtain ⟨gL, hgL⟩ : ∃ z, w2.heap.size = z := ⟨_, rfl⟩
  obtain ⟨w3, hw3⟩ : ∃ q' : World, q' = w2.alloc (.cells (madeCells #[.int .i64 0] q) 3) := ⟨_, rfl⟩
  try rw [← hw3]
  have HL := hide (show OwnInts w3 w.heap.size (.slice (some ⟨gL, 0, none⟩) q q) q (U 0) by rw [hw3, HOZ.out]; exact ownS_zeros w2 _ gL q HB.out.size hgL.symm (by unfold maxLen; omega))
  replace HR := hide (show Behind w3 w.heap.size g5 gT gS cT cS n m T (I 0) by rw [hw3]; exact HR.out.below ((Below.refl _ _).alloc (Nat.le_refl _) _))
  have hgB : w.heap.size ≤ gL := by rw [← hgL]; exact HB.out.size
  replace HB := hide (show Below w.heap.size w w3 by rw [hw3]; exact HB.out.alloc HB.out.size _)
  have h5L : g5 < gL := by omega
  clear hw3 HOZ HI0 hs2
  try simp only [hgL]
  clear hgL hg5
  go_loopw [14] (fun i wr => ∃ k : Nat, k ≤ q ∧ i = .int .i64 (k : Int) ∧ Hid (Behind wr w.heap.size g5 gT gS cT cS n m T (I k)) ∧ Hid (OwnInts wr w.heap.size (.slice (some ⟨gL, 0, none⟩) q q) q (U k)) ∧ Hid (Below w.heap.size w wr)) (fun i _ => q - (Go.RowKit.intOf i).toNat)
  case atStart => exact ⟨0, Nat.zero_le _, rfl, HR, HL, HB⟩
  case round =>
    clear HR HL HB
    obtain ⟨k, hk, rfl, HR, HL, HB⟩ := hrel
    obtain ⟨wA, rfl⟩ : ∃ x : World, x = wr := ⟨_, rfl⟩
    by_cases hlt : k < q
    case neg =>
      obtain rfl : q = k := by omega
      have hltz : ¬ (q : Int) < (q : Int) := by omega
      clear HNX HOS
      go_wp2_with fail
      go_ret
      exact ⟨gL, rfl, HL.out.congr HOE.out, HB.out⟩
    have hltz : (k : Int) < (q : Int) := by omega
    obtain ⟨x0, x1, x2, f0, f1, f2, hlx⟩ := HR.out.box.r3
    go_wp2_with fail
    clear x0 x1 x2 f0 f1 f2 hlx
    have hTS := HR.out.ts
    have hlow := HR.out.low
    have hsb := HR.out.sb
    refine (HNX.out _ _ _ _ _ k _ HR.out).mono ?_
    rintro e w4 ⟨rfl, hr, hg⟩
    have HL4 := hide (ownS_grown HL.out hg (by omega))
    have HB4 := hide (grown_to_below HB.out hg (by omega) HB.out.size)
    obtain ⟨v, hv⟩ : ∃ z, I k 0 = z := ⟨_, rfl⟩
    rw [hv]
    have HL5 := hide (HL4.out.set_ k v)
    rw [← hv, HOS.out k, hv] at HL5
    have HR5 := hide (hr.other (b := gL) (o := k) h5L (.int .i64 v))
    have HB5 := hide (HB4.out.setCell (p := ⟨gL, k, none⟩) hgB (.int .i64 v))
    have c0 := HL4.out.cellAt hlt
    have k0 := HL4.out.frozen k
    clear HL HB HR HL4 HB4 hr hg hv HNX HOS HOE
    go_wp2_with fail
    go_roundw
    case rel => exact ⟨k + 1, by omega, by go_num, HR5, HL5, HB5⟩
    case measure => simp [Go.RowKit.intOf]; omega
end Go.Proofs.YtcdplfjegopmdaaGreat
/- CheckRegister and Sequence of the code. -/
namespace Go.Proofs.YtcdplfjegopmdaaGreat
open Go.RowKit Go.Lib
def regE (L : Int) (n : Nat) (T : Nat → Int) (m : Nat) (S : Nat → Int) : Int := if withinB L 2 10 = true then (if tapE L n T = 0 then (if (m : Int) = L then bitE m S L else 10) else tapE L n T) else 2
theorem tapF_zero {L : Int} {T : Nat → Int} : ∀ {n : Nat}, tapF L T n = 0 → ∀ k, k < n → (0 ≤ T k ∧ T k ≤ L - 1) ∧ prevT T k < T k
  | 0, _, k, hk => absurd hk (Nat.not_lt_zero k)
  | n + 1, h, k, hk => by
    have h0 : tapF L T n = 0 := by
      by_cases e : tapF L T n = 0
      · exact e
      · replace h : (if tapF L T n = 0 then (if withinB (T n) 0 (L - 1) = true then (if T n ≤ prevT T n then (9 : Int) else 0) else 2) else tapF L T n) = 0 := h
        rw [if_neg e] at h; exact h
    by_cases e : k = n
    · subst e
      replace h : (if tapF L T k = 0 then (if withinB (T k) 0 (L - 1) = true then (if T k ≤ prevT T k then (9 : Int) else 0) else 2) else tapF L T k) = 0 := h
      rw [if_pos h0] at h
      by_cases hw : withinB (T k) 0 (L - 1) = true
      · rw [if_pos hw] at h
        have h2 : 0 ≤ T k ∧ T k ≤ L - 1 := by simpa [withinB] using hw
        refine ⟨h2, ?_⟩
        by_cases hp : T k ≤ prevT T k
        · rw [if_pos hp] at h; cases h
        · omega
      · rw [if_neg hw] at h; cases h
    · exact tapF_zero h0 k (by omega)
/-- A register without an error is right. -/
theorem regE_ok {L : Int} {n m : Nat} {T S : Nat → Int} (h : regE L n T m S = 0) : ∃ q : Nat, L = (q : Int) + 1 ∧ m = q + 1 ∧ RegOk (q + 1) n T S := by
  unfold regE at h
  by_cases hw : withinB L 2 10 = true
  case neg => rw [if_neg hw] at h; cases h
  rw [if_pos hw] at h
  have h2 : 2 ≤ L ∧ L ≤ 10 := by simpa [withinB] using hw
  by_cases ht : tapE L n T = 0
  case neg => rw [if_neg ht] at h; exact absurd h ht
  rw [if_pos ht] at h
  by_cases hm : (m : Int) = L
  case neg => rw [if_neg hm] at h; cases h
  rw [if_pos hm] at h
  unfold tapE at ht
  by_cases hn : n = 0
  case pos => rw [if_pos hn] at ht; cases ht
  rw [if_neg hn] at ht
  by_cases hf : tapF L T n = 0
  case neg => rw [if_neg hf] at ht; exact absurd ht hf
  rw [if_pos hf] at ht
  have h0 : T 0 = 0 := by
    by_cases e : T 0 = 0
    · exact e
    · rw [if_neg e] at ht; cases ht
  have hz := tapF_zero hf
  unfold bitE at h
  rw [if_neg (by omega), if_neg (by omega)] at h
  have hb : bitsB m S = true := by
    cases e : bitsB m S
    · rw [e] at h; exact absurd h (by decide)
    · rfl
  refine ⟨m - 1, by omega, by omega, ⟨by omega, by omega, by omega, fun i hi => ?_, fun i hi => ?_, h0, fun j hj => bitsB_iff.1 hb j (by omega)⟩⟩
  · have := (hz i hi).1; omega
  · exact (hz (i + 1) hi).2
set_option maxHeartbeats 4000000 in
set_option maxRecDepth 100000 in
theorem CheckRegister_any (L : Int) (A B : Option Addr) (n c m d : Nat) (T S : Nat → Int) (w : World) (hn : n ≤ 100000) (hm : m ≤ 100000) (hT : IntsAt w 0 A n T) (hS : IntsAt w 0 B m S) :
    Calls Tryz.prog 57 #[.agg #[.int .i64 L, .slice A n c, .slice B m d]] w fun e w' => e = .returned (.int .i64 (regE L n T m S)) ∧ Below w.heap.size w w' := by
  have HI := hide hT
  have HJ := hide hS
  have HE := hide (show regE L n T m S = if withinB L 2 10 = true then (if tapE L n T = 0 then (if (m : Int) = L then bitE m S L else 10) else tapE L n T) else 2 from rfl)
  obtain ⟨v, hv⟩ : ∃ z, regE L n T m S = z := ⟨_, rfl⟩
  rw [hv]
  rw [hv] at HE
  have HWI := hide (fun W => isWithin_any L 2 10 W)
  clear hT hS hv
  go_enter Tryz.func57, Tryz.ntmps57
  go_upto_region 1 with fail
  obtain ⟨W, hW⟩ : ∃ q : World, q = w.alloc (.cells #[.int .i64 L, .slice A n c, .slice B m d] 30) := ⟨_, rfl⟩
  try rw [← hW]
  have HX := hide (show Box W w.heap.size 30 #[.int .i64 L, .slice A n c, .slice B m d] by rw [hW]; exact Box.made rfl)
  have HB := hide (show Below w.heap.size w W by rw [hW]; (repeat (first | (with_reducible exact Below.refl _ _) | (with_reducible refine Go.below_drewN ?_ _) | (with_reducible refine Below.drew ?_) | (with_reducible refine Below.alloc ?_ (by first | exact Nat.le_refl _ | (simp; done) | (simp; omega) | omega) _) | (with_reducible refine Below.setCell ?_ (by first | exact Nat.le_refl _ | (simp; done) | (simp; omega) | omega) _))))
  clear hW
  replace HI := hide (HI.out.below HB.out)
  replace HJ := hide (HJ.out.below HB.out)
  obtain ⟨x0, x1, x2, f0, f1, f2, hlx⟩ := HX.out.r3
  by_cases hw : withinB L 2 10 = true
  case neg =>
    have e0 : withinB L 2 10 = false := by simpa using hw
    obtain rfl : v = 2 := HE.out.trans (if_neg hw)
    rw [e0] at HWI
    clear HE HI HJ hw e0
    go_wp2_with (go_at_call 63; refine (HWI.out _).mono ?_; rintro e_ w' ⟨rfl, rfl⟩)
    go_ret
    exact ⟨rfl, HB.out⟩
  have h1 := HE.out.trans (if_pos hw)
  have h2 : 2 ≤ L ∧ L ≤ 10 := by simpa [withinB] using hw
  rw [hw] at HWI
  have HTE := hide (tapsError_any A n c T L W (by omega) hn HI.out)
  obtain ⟨t, ht⟩ : ∃ z, tapE L n T = z := ⟨_, rfl⟩
  rw [ht] at HTE h1
  clear ht HE hw
  by_cases ht0 : t = 0
  case neg =>
    obtain rfl : v = t := h1.trans (if_neg ht0)
    have tv : (v != 0) = true := by simpa using ht0
    clear h1 HI HJ
    go_wp2_with (first | (go_at_call 63; refine (HWI.out _).mono ?_; rintro e_ w' ⟨rfl, rfl⟩) | (go_at_call 92; refine HTE.out.mono ?_; rintro e_ w' ⟨rfl, rfl⟩))
    go_ret
    exact ⟨rfl, HB.out⟩
  subst ht0
  replace h1 := h1.trans (if_pos rfl)
  by_cases hm2 : (m : Int) = L
  case neg =>
    obtain rfl : v = 10 := h1.trans (if_neg hm2)
    clear h1 HI HJ
    go_wp2_with (first | (go_at_call 63; refine (HWI.out _).mono ?_; rintro e_ w' ⟨rfl, rfl⟩) | (go_at_call 92; refine HTE.out.mono ?_; rintro e_ w' ⟨rfl, rfl⟩))
    go_ret
    exact ⟨rfl, HB.out⟩
  have h3 := h1.trans (if_pos hm2)
  have HBE := hide (bitsError_any B m d S L W hm HJ.out)
  rw [← h3] at HBE
  clear h1 h3 HI HJ
  subst hm2
  go_wp2_with (first | (go_at_call 63; refine (HWI.out _).mono ?_; rintro e_ w' ⟨rfl, rfl⟩) | (go_at_call 92; refine HTE.out.mono ?_; rintro e_ w' ⟨rfl, rfl⟩) | (go_at_call 58; refine HBE.out.mono ?_; rintro e_ w' ⟨rfl, q, rfl⟩))
  go_ret
  exact ⟨rfl, Go.below_drewN HB.out _⟩
end Go.Proofs.YtcdplfjegopmdaaGreat
/- slices.Equal of numbers; period of the code. -/
namespace Go.Proofs.YtcdplfjegopmdaaGreat
open Go.RowKit Go.Lib
set_option maxHeartbeats 1000000 in
theorem equalS_any (A C : Option Addr) (n m c d : Nat) (F G : Nat → Int) (w : World) (hn : n ≤ 100000) (hm : m ≤ 100000) (hF : IntsAt w 0 A n F) (hG : IntsAt w 0 C m G) :
    Calls Tryz.prog 111 #[.slice A n c, .slice C m d] w fun e w' => e = .returned (.bool (intsB n F m G)) ∧ ∃ q, w' = w.drewN q := by
  by_cases hnm : n = m
  · subst hnm
    have HF := hide hF
    have HG := hide hG
    clear hF hG
    have tb : ((n : Int) != (n : Int)) = false := by simp
    go_enter Tryz.func111, Tryz.ntmps111
    go_wp2
    go_loopw [13] (fun i wr => ∃ k q : Nat, k ≤ n ∧ i = .int .i64 k ∧ wr = w.drewN q ∧ Hid (∀ j, j < k → F j = G j)) (fun i _ => n - (Go.RowKit.intOf i).toNat)
    case atStart => exact ⟨0, 0, Nat.zero_le _, rfl, rfl, hide fun j h => absurd h (Nat.not_lt_zero _)⟩
    case round =>
      obtain ⟨k, q, hk, rfl, rfl, HZ⟩ := hrel
      by_cases hlt : k < n
      · obtain ⟨b, o, rfl, -, hb, hcell⟩ := HF.out k hlt
        obtain ⟨b', o', rfl, -, hb', hcell'⟩ := HG.out k hlt
        have hltz : (k : Int) < (n : Int) := by omega
        by_cases he : F k = G k
        · have HE := hide he
          rw [he] at hcell
          clear he
          go_wp2
          go_quiet (fail)
          go_wp2
          go_roundw
          case rel =>
            exact ⟨k + 1, _, by omega, by go_num, rfl, hide fun j hj => by
              rcases Nat.lt_or_ge j k with h | h
              · exact HZ.out j h
              · obtain rfl : j = k := by omega
                exact HE.out⟩
          case measure => simp [Go.RowKit.intOf]; omega
        · have he' : (F k != G k) = true := by simpa using he
          have HE := hide (show intsB n F n G = false from by
            rw [← Bool.not_eq_true, intsB_iff]
            exact fun h => he (h.2 k hlt))
          clear he
          go_wp2
          go_quiet (fail)
          go_wp2
          go_ret
          exact ⟨ret_bool HE.out.symm, _, World.drewN_drewN _ _ _⟩
      · obtain rfl : k = n := by omega
        go_wp2
        go_ret
        exact ⟨ret_bool (Eq.symm (intsB_iff.2 ⟨rfl, HZ.out⟩)), _, rfl⟩
  · have he' : ((n : Int) != (m : Int)) = true := by simp; omega
    have HE := hide (show intsB n F m G = false from by
      rw [← Bool.not_eq_true, intsB_iff]
      exact fun h => hnm h.1)
    clear hnm hF hG
    go_enter Tryz.func111, Tryz.ntmps111
    go_wp2
    go_ret
    exact ⟨ret_bool HE.out.symm, 0, rfl⟩
theorem ownS_ints {w : World} {base n c : Nat} {A : Option Addr} {F : Nat → Int} (h : OwnInts w base (.slice A n c) n F) : IntsAt w 0 A n F := by
  obtain ⟨A', c', e, -, hI⟩ := h.form
  injection e with e1
  subst e1
  exact hI.weak (Nat.zero_le _)
end Go.Proofs.YtcdplfjegopmdaaGreat
/- Sequence, Period and Jumped of the code. -/
namespace Go.Proofs.YtcdplfjegopmdaaGreat
open Go.RowKit Go.Lib
def seqE (L : Int) (n : Nat) (T : Nat → Int) (m : Nat) (S : Nat → Int) (q : Int) : Int := if regE L n T m S = 0 then (if withinB q 1 400 = true then 0 else 2) else regE L n T m S
theorem intsAt_some {w : World} {lo n : Nat} {A : Option Addr} {F : Nat → Int} (h : IntsAt w lo A n F) (hn : 0 < n) : ∃ b o, A = some ⟨b, o, none⟩ := by
  obtain ⟨b, o, e, -⟩ := h 0 hn
  exact ⟨b, o, e⟩
set_option maxHeartbeats 4000000 in
set_option maxRecDepth 100000 in
theorem Sequence_any (L q : Int) (A B : Option Addr) (n c m d : Nat) (T S : Nat → Int) (w : World) (hn : n ≤ 100000) (hm : m ≤ 100000) (hT : IntsAt w 0 A n T) (hS : IntsAt w 0 B m S) :
    Calls Tryz.prog 34 #[.agg #[.int .i64 L, .slice A n c, .slice B m d], .int .i64 q] w fun e w' => ∃ v, e = .returned (.tuple #[v, .int .i64 (seqE L n T m S q)]) ∧ (seqE L n T m S q = 0 → ∃ g, v = .slice (some ⟨g, 0, none⟩) q.toNat q.toNat ∧ OwnInts w' w.heap.size v q.toNat (fun j => itS m n T S j 0)) ∧
      (seqE L n T m S q ≠ 0 → v = .slice none 0 0) ∧ Below w.heap.size w w' := by
  have HI := hide hT
  have HJ := hide hS
  have HE := hide (show seqE L n T m S q = if regE L n T m S = 0 then (if withinB q 1 400 = true then 0 else 2) else regE L n T m S from rfl)
  have HOK := hide (fun h => regE_ok (L := L) (n := n) (m := m) (T := T) (S := S) h)
  have HCR := hide (fun W (h : IntsAt W 0 A n T) (k : IntsAt W 0 B m S) => CheckRegister_any L A B n c m d T S W hn hm h k)
  have HWI := hide (fun W => isWithin_any q 1 400 W)
  obtain ⟨v, hv⟩ : ∃ z, seqE L n T m S q = z := ⟨_, rfl⟩
  obtain ⟨r, hr⟩ : ∃ z, regE L n T m S = z := ⟨_, rfl⟩
  rw [hv]
  rw [hv, hr] at HE
  rw [hr] at HCR HOK
  clear hT hS hv hr
  go_enter Tryz.func34, Tryz.ntmps34
  go_upto_region 1 with fail
  obtain ⟨W, hW⟩ : ∃ q : World, q = w.alloc (.cells #[.int .i64 L, .slice A n c, .slice B m d] 30) := ⟨_, rfl⟩
  try rw [← hW]
  have HX := hide (show Box W w.heap.size 30 #[.int .i64 L, .slice A n c, .slice B m d] by rw [hW]; exact Box.made rfl)
  have HB := hide (show Below w.heap.size w W by rw [hW]; (repeat (first | (with_reducible exact Below.refl _ _) | (with_reducible refine Go.below_drewN ?_ _) | (with_reducible refine Below.drew ?_) | (with_reducible refine Below.alloc ?_ (by first | exact Nat.le_refl _ | (simp; done) | (simp; omega) | omega) _) | (with_reducible refine Below.setCell ?_ (by first | exact Nat.le_refl _ | (simp; done) | (simp; omega) | omega) _))))
  clear hW
  obtain ⟨x0, x1, x2, f0, f1, f2, hlx⟩ := HX.out.r3
  go_wp2_with fail
  clear x0 x1 x2 f0 f1 f2 hlx
  refine (HCR.out _ (HI.out.below HB.out) (HJ.out.below HB.out)).mono ?_
  rintro e w1 ⟨rfl, hb1⟩
  replace HX := hide (HX.out.below hb1)
  replace HB := hide (HB.out.trans (hb1.mono HB.out.size))
  clear hb1 HCR
  by_cases hr0 : r = 0
  case neg =>
    obtain rfl : v = r := HE.out.trans (if_neg hr0)
    have tv : (v != 0) = true := by simpa using hr0
    clear HE HOK HI HJ
    go_wp2_with fail
    go_ret2
    exact ⟨_, rfl, fun h => absurd h hr0, fun _ => rfl, HB.out⟩
  subst hr0
  have h1 := HE.out.trans (if_pos rfl)
  by_cases hw : withinB q 1 400 = true
  case neg =>
    have e0 : withinB q 1 400 = false := by simpa using hw
    obtain rfl : v = 2 := h1.trans (if_neg hw)
    rw [e0] at HWI
    clear HE HOK HI HJ h1 hw e0
    go_wp2_with (go_at_call 63; refine (HWI.out _).mono ?_; rintro e_ w' ⟨rfl, rfl⟩)
    go_ret2
    exact ⟨_, rfl, fun h => absurd h (by decide), fun _ => rfl, HB.out⟩
  obtain rfl : v = 0 := h1.trans (if_pos hw)
  have hq : 1 ≤ q ∧ q ≤ 400 := by simpa [withinB] using hw
  rw [hw] at HWI
  clear HE h1 hw
  obtain ⟨p, rfl, rfl, hok⟩ := HOK.out rfl
  obtain ⟨k, rfl⟩ : ∃ z : Nat, q = (z : Int) := ⟨q.toNat, by omega⟩
  obtain ⟨b, o, rfl⟩ := intsAt_some HI.out hok.some_
  obtain ⟨b2, o2, rfl⟩ := intsAt_some HJ.out (Nat.succ_pos p)
  have HSQ := hide (fun W h1 h2 => sequence_any b o n c b2 o2 p d k T S W hok (by omega) h1 h2)
  have hB0 := HB.out.size
  have hok2 := hide hok
  clear HOK hok
  simp only [Int.toNat_natCast]
  obtain ⟨x0, x1, x2, f0, f1, f2, hlx⟩ := HX.out.r3
  go_wp2_with (go_at_call 63; refine (HWI.out _).mono ?_; rintro e_ w' ⟨rfl, rfl⟩)
  clear x0 x1 x2 f0 f1 f2 hlx
  refine (HSQ.out _ (HI.out.below HB.out) (HJ.out.below HB.out)).mono ?_
  rintro e w2 ⟨g, rfl, ho, hb2⟩
  replace HB := hide (HB.out.trans (hb2.mono HB.out.size))
  have HO := hide (ownS_weak ho hB0)
  clear ho hb2 HSQ
  go_wp2_with fail
  go_ret2
  exact ⟨_, rfl, ⟨⟨g, rfl⟩, HO.out⟩, HB.out⟩
end Go.Proofs.YtcdplfjegopmdaaGreat
