/- Lemmas: E54. -/
import Derived.Test.YtdkbjgnkehoplaaBy16
import Derived.Test.YtdkbjgnkehoplaaBy21
import Derived.Test.YtdkbjgnkehoplaaBy24
set_option linter.unusedVariables false
set_option linter.unusedSimpArgs false
/- PowerOf of the reference. -/
namespace Go.Proofs.Ytdkbjgnkehoplaa
open Go.RowKit Go.Great
theorem ts_on {F : Nat → Int} {X : Nat → Gau} {k : Nat} (h : F k ≠ -1) (hF : -1 ≤ F k ∧ F k ≤ 7) : tsN F X (k + 1) = (tsN F X k).add ((gnum (X k)).turns (F k % 8).toNat) := by
  show (if F k = -1 then tsN F X k else (tsN F X k).add ((gnum (X k)).turns (F k).toNat)) = _
  rw [if_neg h, show F k % 8 = F k by omega]
set_option maxHeartbeats 8000000 in
set_option maxRecDepth 100000 in
theorem PowerOf_ref (A B : Option Addr) (n c d : Nat) (F : Nat → Int) (X : Nat → Gau) (w : World) (h : OkC n X) (hF : ∀ j, j < n → -1 ≤ F j ∧ F j ≤ 7) (hI : IntsAt w 0 A n F) (hJ : GausAt w 0 B n X) :
    Calls Try.prog 24 #[.agg #[.slice A n c], .slice B n d] w fun e w' => e = .returned (.agg #[.int .i64 (pwP n F X), .int .i64 (pwQ n F X)]) ∧ Below w.heap.size w w' := by
  have HI := hide hI
  have HJ := hide hJ
  have hn8 := h.n8
  have HFF := hide hF
  have HSM := hide h.small
  have HRW := hide (fun k (hk : k ≤ n) => ts_small (n := k) (F := F) (OkC.mk (n := k) (X := X) (by omega) fun i hi => h.small i (by omega)))
  have HON := hide (fun k => ts_on (F := F) (X := X) (k := k))
  have HOF := hide (fun k => tsN_off (F := F) (X := X) (k := k))
  have H0 := hide (show tsN F X 0 = Num.zero from rfl)
  have HSQ := hide (fun W => squareOfR_any (tsN F X n) W ((ts_small h).more (by decide)))
  rw [show (tsN F X n).sqP = pwP n F X from rfl, show (tsN F X n).sqQ = pwQ n F X from rfl] at HSQ
  obtain ⟨P, hP⟩ : ∃ z, pwP n F X = z := ⟨_, rfl⟩
  obtain ⟨Q, hQ⟩ : ∃ z, pwQ n F X = z := ⟨_, rfl⟩
  simp only [hP, hQ] at HSQ ⊢
  obtain ⟨T, hT⟩ : ∃ z, tsN F X = z := ⟨_, rfl⟩
  simp only [hT] at HRW HON HOF H0 HSQ
  clear hI hJ hF hT h hP hQ
  go_enter Try.func24, Try.ntmps24
  go_wp2_with fail
  go_loopw [6] (fun i wr => ∃ k : Nat, k ≤ n ∧ i = .int .i64 (k : Int) ∧ Hid (Box wr w.heap.size 43 #[.slice A n c]) ∧ Hid (Box wr (w.heap.size + 1) 39 #[.int .i64 0, .int .i64 0]) ∧ Hid (Box wr (w.heap.size + 1 + 1) 109 #[.int .i64 (T k).a, .int .i64 (T k).b, .int .i64 (T k).c, .int .i64 (T k).d]) ∧ Hid (Below w.heap.size w wr)) (fun i _ => n - (Go.RowKit.intOf i).toNat)
  case atStart => exact ⟨0, Nat.zero_le _, rfl, hide (((Box.made rfl).alloc _).alloc _), hide ((Box.made (by simp)).alloc _), hide (by rw [H0.out]; exact Box.made (by simp)), hide (by (repeat (first | (with_reducible exact Below.refl _ _) | (with_reducible refine Go.below_drewN ?_ _) | (with_reducible refine Below.drew ?_) | (with_reducible refine Below.alloc ?_ (by first | exact Nat.le_refl _ | (simp; done) | (simp; omega) | omega) _) | (with_reducible refine Below.setCell ?_ (by first | exact Nat.le_refl _ | (simp; done) | (simp; omega) | omega) _))))⟩
  case round =>
    obtain ⟨k, hk, rfl, HX0, HX1, HX2, HB⟩ := hrel
    obtain ⟨wA, rfl⟩ : ∃ x : World, x = wr := ⟨_, rfl⟩
    by_cases hlt : k < n
    case pos =>
      have hltz : (k : Int) < (n : Int) := by omega
      obtain ⟨b, o, rfl, -, hbw, -⟩ := HI.out k hlt
      have HFK := hide (fun W (h : IntsAt W 0 (some ⟨b, o, none⟩) n F) => h.cell hlt)
      obtain ⟨b1, o1, hb1e, -, l1, c0, c1⟩ := HJ.out k hlt
      subst hb1e
      have hff := HFF.out k hlt
      have hon := HON.out k
      have hof := HOF.out k
      have hrw := HRW.out (k + 1) (by omega)
      have hsx := HSM.out k hlt
      obtain ⟨f, hf⟩ : ∃ z, F k = z := ⟨_, rfl⟩
      simp only [hf] at HFK hff hon hof
      clear hf
      obtain ⟨x, hx⟩ : ∃ z, T k = z := ⟨_, rfl⟩
      simp only [hx] at HX2 hon hof
      clear hx
      obtain ⟨x0, -, hlx⟩ := HX0.out.c1
      have hc := HFK.out _ (HI.out.below HB.out)
      by_cases hoff : f = -1
      case pos =>
        have t1 : (f != -1) = false := by simpa using hoff
        have HV := hide (hof hoff)
        clear hof hon hrw hff hoff hsx c0 c1
        go_wp2_with fail
        go_roundw
        case rel => exact ⟨k + 1, by omega, by go_num, HX0, HX1, hide (by rw [HV.out]; exact HX2.out), HB⟩
        case measure => simp [Go.RowKit.intOf]; omega
      have t1 : (f != -1) = true := by simpa using hoff
      have hv := hon hoff hff
      clear hof hon
      generalize X k = s at *
      obtain ⟨sr, hsr⟩ : ∃ z, s.re = z := ⟨_, rfl⟩
      obtain ⟨si, hsi⟩ : ∃ z, s.im = z := ⟨_, rfl⟩
      have HTU := hide (fun W => (show Calls Try.prog 75 #[.agg #[.int .i64 s.re, .int .i64 0, .int .i64 s.im, .int .i64 0], .int .i64 f] W fun e w' => e = .returned (.agg #[.int .i64 ((gnum s).turns (f % 8).toNat).a, .int .i64 ((gnum s).turns (f % 8).toNat).b, .int .i64 ((gnum s).turns (f % 8).toNat).c, .int .i64 ((gnum s).turns (f % 8).toNat).d]) ∧ Below W.heap.size W w' from turn_any (gnum s) f W (hsx.num.more (by decide))))
      simp only [hsr, hsi] at HTU c0 c1
      obtain ⟨y, hy⟩ : ∃ z, (gnum s).turns (f % 8).toNat = z := ⟨_, rfl⟩
      simp only [hy] at HTU hv
      clear hy hsr hsi hsx
      have hzw : (x.add y).Within 240 := by rw [← hv]; exact hrw
      have HPL := hide (fun W => plus_any x y 240 W hzw (by decide))
      obtain ⟨z, hz⟩ : ∃ q, x.add y = q := ⟨_, rfl⟩
      simp only [hz] at HPL hv
      have HV := hide hv
      clear hz hzw hv hrw hff hoff
      obtain ⟨xa, hxa⟩ : ∃ q, x.a = q := ⟨_, rfl⟩
      obtain ⟨xb, hxb⟩ : ∃ q, x.b = q := ⟨_, rfl⟩
      obtain ⟨xc, hxc⟩ : ∃ q, x.c = q := ⟨_, rfl⟩
      obtain ⟨xd, hxd⟩ : ∃ q, x.d = q := ⟨_, rfl⟩
      obtain ⟨ya, hya⟩ : ∃ q, y.a = q := ⟨_, rfl⟩
      obtain ⟨yb, hyb⟩ : ∃ q, y.b = q := ⟨_, rfl⟩
      obtain ⟨yc, hyc⟩ : ∃ q, y.c = q := ⟨_, rfl⟩
      obtain ⟨yd, hyd⟩ : ∃ q, y.d = q := ⟨_, rfl⟩
      obtain ⟨za, hza⟩ : ∃ q, z.a = q := ⟨_, rfl⟩
      obtain ⟨zb, hzb⟩ : ∃ q, z.b = q := ⟨_, rfl⟩
      obtain ⟨zc, hzc⟩ : ∃ q, z.c = q := ⟨_, rfl⟩
      obtain ⟨zd, hzd⟩ : ∃ q, z.d = q := ⟨_, rfl⟩
      simp only [hxa, hxb, hxc, hxd] at HX2
      simp only [hya, hyb, hyc, hyd] at HTU
      simp only [hxa, hxb, hxc, hxd, hya, hyb, hyc, hyd, hza, hzb, hzc, hzd] at HPL
      have HZE := hide (show z.a = za ∧ z.b = zb ∧ z.c = zc ∧ z.d = zd from ⟨hza, hzb, hzc, hzd⟩)
      clear hxa hxb hxc hxd hya hyb hyc hyd hza hzb hzc hzd
      have HC0 := hide c0
      have HC1 := hide c1
      clear c0 c1
      go_upto_region 6 with fail
      clear x0 hlx hc t1
      refine wp_region_held_drew (S := fun w' => w'.cell? ⟨w.heap.size, 0, none⟩ = some (.slice (some ⟨b, o, none⟩) n c) ∧ w'.cell? ⟨b, o + k, none⟩ = some (.int .i64 f) ∧ w'.cell? ⟨b1, o1 + k * 2, none⟩ = some (.int .i64 sr) ∧ w'.cell? ⟨b1, o1 + k * 2 + 1, none⟩ = some (.int .i64 si)) (by kernel_rfl) ⟨HX0.out.c1.1, HFK.out _ (HI.out.below HB.out.drew), (HB.out.drew.cell (p := ⟨b1, o1 + k * 2, none⟩) l1).trans HC0.out, (HB.out.drew.cell (p := ⟨b1, o1 + k * 2 + 1, none⟩) l1).trans HC1.out⟩ (fun hHeld => ?_)
      obtain ⟨w_1, hw_1⟩ : ∃ q : World, q = wA.drew := ⟨_, rfl⟩
      rw [← hw_1] at hHeld ⊢
      have hc_1 : Below wA.heap.size wA w_1 := by rw [hw_1]; exact (Below.refl _ _).drew
      clear hw_1
      replace HX0 := hide (HX0.out.below hc_1)
      replace HX1 := hide (HX1.out.below hc_1)
      replace HX2 := hide (HX2.out.below hc_1)
      replace HB := hide (HB.out.trans (hc_1.mono HB.out.size))
      clear hc_1
      refine wpAnyH_take (i := 1) (oi := ⟨some 20, _, _, _, _, _⟩) (v := ?_) rfl (by kernel_rfl) (by kernel_rfl) (by kernel_rfl) (fun _ _ _ h => h) (Or.inl ⟨by rfl, ?_⟩) (by assumption) ?_
      rotate_left
      · (intro w' hSw; (try dsimp only at hSw); go_simp <;> (with_reducible rfl))
      try simp only [Act.put, List.setIfInBounds_toArray, List.set_cons_zero, List.set_cons_succ]
      refine wpAnyH_take (i := 2) (oi := ⟨some 21, _, _, _, _, _⟩) (v := ?_) rfl (by kernel_rfl) (by kernel_rfl) (by kernel_rfl) (fun _ _ _ h => h) (Or.inl ⟨by rfl, ?_⟩) (by assumption) ?_
      rotate_left
      · (intro w' hSw; (try dsimp only at hSw); go_simp <;> (with_reducible rfl))
      try simp only [Act.put, List.setIfInBounds_toArray, List.set_cons_zero, List.set_cons_succ]
      refine wpAnyH_take (i := 3) (oi := ⟨some 22, _, _, _, _, _⟩) (v := ?_) rfl (by kernel_rfl) (by kernel_rfl) (by kernel_rfl) (fun _ _ _ h => h) (Or.inl ⟨by rfl, ?_⟩) (by assumption) ?_
      rotate_left
      · (intro w' hSw; (try dsimp only at hSw); go_simp <;> (with_reducible rfl))
      try simp only [Act.put, List.setIfInBounds_toArray, List.set_cons_zero, List.set_cons_succ]
      refine wpAnyH_take (i := 4) (oi := ⟨some 23, _, _, _, _, _⟩) (v := ?_) rfl (by kernel_rfl) (by kernel_rfl) (by kernel_rfl) (fun _ _ _ h => h) (Or.inl ⟨by rfl, ?_⟩) (by assumption) ?_
      rotate_left
      · (intro w' hSw; (try dsimp only at hSw); go_simp <;> (with_reducible rfl))
      try simp only [Act.put, List.setIfInBounds_toArray, List.set_cons_zero, List.set_cons_succ]
      refine wpAnyH_take (i := 5) (oi := ⟨some 24, _, _, _, _, _⟩) (v := ?_) rfl (by kernel_rfl) (by kernel_rfl) (by kernel_rfl) (fun _ _ _ h => h) (Or.inl ⟨by rfl, ?_⟩) (by assumption) ?_
      rotate_left
      · (intro w' hSw; (try dsimp only at hSw); go_simp <;> (with_reducible rfl))
      try simp only [Act.put, List.setIfInBounds_toArray, List.set_cons_zero, List.set_cons_succ]
      refine wpAnyH_take (i := 6) (oi := ⟨some 25, _, _, _, _, _⟩) (v := ?_) rfl (by kernel_rfl) (by kernel_rfl) (by kernel_rfl) (fun _ _ _ h => h) (Or.inl ⟨by rfl, ?_⟩) (by assumption) ?_
      rotate_left
      · (intro w' hSw; (try dsimp only at hSw); go_simp <;> (with_reducible rfl))
      try simp only [Act.put, List.setIfInBounds_toArray, List.set_cons_zero, List.set_cons_succ]
      refine wpAnyH_take (i := 7) (oi := ⟨some 26, _, _, _, _, _⟩) (v := ?_) rfl (by kernel_rfl) (by kernel_rfl) (by kernel_rfl) (fun _ _ _ h => h) (Or.inl ⟨by rfl, ?_⟩) (by assumption) ?_
      rotate_left
      · (intro w' hSw; (try dsimp only at hSw); go_simp <;> (with_reducible rfl))
      try simp only [Act.put, List.setIfInBounds_toArray, List.set_cons_zero, List.set_cons_succ]
      refine wpAnyH_take (i := 8) (oi := ⟨some 27, _, _, _, _, _⟩) (v := ?_) rfl (by kernel_rfl) (by kernel_rfl) (by kernel_rfl) (fun _ _ _ h => h) (Or.inl ⟨by rfl, ?_⟩) (by assumption) ?_
      rotate_left
      · (intro w' hSw; (try dsimp only at hSw); go_simp <;> (with_reducible rfl))
      try simp only [Act.put, List.setIfInBounds_toArray, List.set_cons_zero, List.set_cons_succ]
      refine wpAnyH_take (i := 9) (oi := ⟨some 28, _, _, _, _, _⟩) (v := ?_) rfl (by kernel_rfl) (by kernel_rfl) (by kernel_rfl) (fun _ _ _ h => h) (Or.inl ⟨by rfl, ?_⟩) (by assumption) ?_
      rotate_left
      · (intro w' hSw; (try dsimp only at hSw); go_simp <;> (with_reducible rfl))
      try simp only [Act.put, List.setIfInBounds_toArray, List.set_cons_zero, List.set_cons_succ]
      refine wpAnyH_take (i := 10) (oi := ⟨some 29, _, _, _, _, _⟩) (v := ?_) rfl (by kernel_rfl) (by kernel_rfl) (by kernel_rfl) (fun _ _ _ h => h) (Or.inl ⟨by rfl, ?_⟩) (by assumption) ?_
      rotate_left
      · (intro w' hSw; (try dsimp only at hSw); go_simp <;> (with_reducible rfl))
      try simp only [Act.put, List.setIfInBounds_toArray, List.set_cons_zero, List.set_cons_succ]
      refine wpAnyH_take (i := 11) (oi := ⟨some 30, _, _, _, _, _⟩) (v := ?_) rfl (by kernel_rfl) (by kernel_rfl) (by kernel_rfl) (fun _ _ _ h => h) (Or.inl ⟨by rfl, ?_⟩) (by assumption) ?_
      rotate_left
      · (intro w' hSw; (try dsimp only at hSw); go_simp <;> (with_reducible rfl))
      try simp only [Act.put, List.setIfInBounds_toArray, List.set_cons_zero, List.set_cons_succ]
      refine wpAnyH_take (i := 12) (oi := ⟨some 31, _, _, _, _, _⟩) (v := ?_) rfl (by kernel_rfl) (by kernel_rfl) (by kernel_rfl) (fun _ _ _ h => h) (Or.inl ⟨by rfl, ?_⟩) (by assumption) ?_
      rotate_left
      · (intro w' hSw; (try dsimp only at hSw); go_simp <;> (with_reducible rfl))
      try simp only [Act.put, List.setIfInBounds_toArray, List.set_cons_zero, List.set_cons_succ]
      refine wpAnyH_take (i := 13) (oi := ⟨some 32, _, _, _, _, _⟩) (v := ?_) rfl (by kernel_rfl) (by kernel_rfl) (by kernel_rfl) (fun _ _ _ h => h) (Or.inl ⟨by rfl, ?_⟩) (by assumption) ?_
      rotate_left
      · (intro w' hSw; (try dsimp only at hSw); go_simp <;> (with_reducible rfl))
      try simp only [Act.put, List.setIfInBounds_toArray, List.set_cons_zero, List.set_cons_succ]
      refine wpAnyH_take (i := 14) (oi := ⟨some 33, _, _, _, _, _⟩) (v := ?_) rfl (by kernel_rfl) (by kernel_rfl) (by kernel_rfl) (fun _ _ _ h => h) (Or.inl ⟨by rfl, ?_⟩) (by assumption) ?_
      rotate_left
      · (intro w' hSw; (try dsimp only at hSw); go_simp <;> (with_reducible rfl))
      try simp only [Act.put, List.setIfInBounds_toArray, List.set_cons_zero, List.set_cons_succ]
      refine wpAnyH_take (i := 15) (oi := ⟨some 34, _, _, _, _, _⟩) (v := ?_) rfl (by kernel_rfl) (by kernel_rfl) (by kernel_rfl) (fun _ _ _ h => h) (Or.inl ⟨by rfl, ?_⟩) (by assumption) ?_
      rotate_left
      · (intro w' hSw; (try dsimp only at hSw); go_simp <;> (with_reducible rfl))
      try simp only [Act.put, List.setIfInBounds_toArray, List.set_cons_zero, List.set_cons_succ]
      refine wpAnyH_take (i := 16) (oi := ⟨some 35, _, _, _, _, _⟩) (v := ?_) rfl (by kernel_rfl) (by kernel_rfl) (by kernel_rfl) (fun _ _ _ h => h) (Or.inl ⟨by rfl, ?_⟩) (by assumption) ?_
      rotate_left
      · (intro w' hSw; (try dsimp only at hSw); go_simp <;> (with_reducible rfl))
      try simp only [Act.put, List.setIfInBounds_toArray, List.set_cons_zero, List.set_cons_succ]
      refine wpAnyH_ready (rs := [0, 17]) (by kernel_rfl) (by simp) ?_
      refine AllReadyH.cons (o := ⟨some 19, _, _, _, _, _⟩) rfl (fun K' hK => ?_) (AllReadyH.cons (o := ⟨some 36, _, _, _, _, _⟩) rfl (fun K' hK => ?_) AllReadyH.nil)
      · skip
        obtain ⟨y0, y1, y2, y3, f0, f1, f2, f3, hly⟩ := HX2.out.cells4
        go_simp
        clear y0 y1 y2 y3 f0 f1 f2 f3 hly
        refine hK.out _ _ ⟨HX0.out.c1.1, HFK.out _ (HI.out.below HB.out), (HB.out.cell (p := ⟨b1, o1 + k * 2, none⟩) l1).trans HC0.out, (HB.out.cell (p := ⟨b1, o1 + k * 2 + 1, none⟩) l1).trans HC1.out⟩ (fun hHeld => ?_)
        clear hK K'
        try simp only [Act.put, List.setIfInBounds_toArray, List.set_cons_zero, List.set_cons_succ]
        refine wpAnyH_ready (rs := [17]) (by kernel_rfl) (by simp) ?_
        refine AllReadyH.cons (o := ⟨some 36, _, _, _, _, _⟩) rfl (fun K' hK => ?_) AllReadyH.nil
        go_simp
        go_at_call 75
        refine (HTU.out _).mono ?_
        rintro e_ w_2 ⟨rfl, hb_2⟩
        replace HX0 := hide (HX0.out.below hb_2)
        replace HX1 := hide (HX1.out.below hb_2)
        replace HX2 := hide (HX2.out.below hb_2)
        replace HB := hide (HB.out.trans (hb_2.mono HB.out.size))
        clear hb_2
        go_wp2_with fail
        refine hK.out _ _ ⟨HX0.out.c1.1, HFK.out _ (HI.out.below HB.out), (HB.out.cell (p := ⟨b1, o1 + k * 2, none⟩) l1).trans HC0.out, (HB.out.cell (p := ⟨b1, o1 + k * 2 + 1, none⟩) l1).trans HC1.out⟩ (fun hHeld => ?_)
        clear hK K'
        try simp only [Act.put, List.setIfInBounds_toArray, List.set_cons_zero, List.set_cons_succ]
        refine wpAnyH_ready (rs := [18]) (by kernel_rfl) (by simp) ?_
        refine AllReadyH.cons (o := ⟨some 37, _, _, _, _, _⟩) rfl (fun K' hK => ?_) AllReadyH.nil
        go_simp
        go_at_call 74
        refine (HPL.out _).mono ?_
        rintro e_ w_3 ⟨rfl, hb_3⟩
        replace HX0 := hide (HX0.out.below hb_3)
        replace HX1 := hide (HX1.out.below hb_3)
        replace HX2 := hide (HX2.out.below hb_3)
        replace HB := hide (HB.out.trans (hb_3.mono HB.out.size))
        clear hb_3
        go_wp2_with fail
        refine hK.out _ _ ⟨HX0.out.c1.1, HFK.out _ (HI.out.below HB.out), (HB.out.cell (p := ⟨b1, o1 + k * 2, none⟩) l1).trans HC0.out, (HB.out.cell (p := ⟨b1, o1 + k * 2 + 1, none⟩) l1).trans HC1.out⟩ (fun hHeld => ?_)
        clear hK K'
        try simp only [Act.put, List.setIfInBounds_toArray, List.set_cons_zero, List.set_cons_succ]
        refine wpAnyH_ready (rs := [19]) (by kernel_rfl) (by simp) ?_
        refine AllReadyH.cons (o := ⟨none, _, _, _, _, _⟩) rfl (fun K' hK => ?_) AllReadyH.nil
        obtain ⟨y0, y1, y2, y3, f0, f1, f2, f3, hly⟩ := HX2.out.cells4
        go_simp
        clear y0 y1 y2 y3 f0 f1 f2 f3 hly
        replace HX0 := hide (HX0.out.other4 (c := w.heap.size + 1 + 1) (by omega) (.int .i64 za) (.int .i64 zb) (.int .i64 zc) (.int .i64 zd))
        replace HX1 := hide (HX1.out.other4 (c := w.heap.size + 1 + 1) (by omega) (.int .i64 za) (.int .i64 zb) (.int .i64 zc) (.int .i64 zd))
        replace HX2 := hide (HX2.out.put4 (.int .i64 za) (.int .i64 zb) (.int .i64 zc) (.int .i64 zd))
        replace HB := hide (Below.put4 HB.out (c := w.heap.size + 1 + 1) (by omega) (.int .i64 za) (.int .i64 zb) (.int .i64 zc) (.int .i64 zd))
        obtain ⟨w_4, hw_4⟩ : ∃ q : World, ((((w_3.setCell ⟨w.heap.size + 1 + 1, 0, none⟩ (.int .i64 za)).setCell ⟨w.heap.size + 1 + 1, 1, none⟩ (.int .i64 zb)).setCell ⟨w.heap.size + 1 + 1, 2, none⟩ (.int .i64 zc)).setCell ⟨w.heap.size + 1 + 1, 3, none⟩ (.int .i64 zd)) = q := ⟨_, rfl⟩
        rw [hw_4] at HX0 HX1 HX2 HB ⊢
        clear hw_4
        refine hK.out _ _ ⟨HX0.out.c1.1, HFK.out _ (HI.out.below HB.out), (HB.out.cell (p := ⟨b1, o1 + k * 2, none⟩) l1).trans HC0.out, (HB.out.cell (p := ⟨b1, o1 + k * 2 + 1, none⟩) l1).trans HC1.out⟩ (fun hHeld => ?_)
        clear hK K'
        try simp only [Act.put, List.setIfInBounds_toArray, List.set_cons_zero, List.set_cons_succ]
        refine wpAnyH_done (by kernel_rfl) ?_ _
        go_wp2_with fail
        go_roundw
        case rel => exact ⟨k + 1, by omega, by go_num, HX0, HX1, hide (by rw [HV.out]; obtain ⟨e0, e1, e2, e3⟩ := HZE.out; rw [e0, e1, e2, e3]; exact HX2.out), HB⟩
        case measure => simp [Go.RowKit.intOf]; omega
      · skip
        go_simp
        go_at_call 75
        refine (HTU.out _).mono ?_
        rintro e_ w_5 ⟨rfl, hb_5⟩
        replace HX0 := hide (HX0.out.below hb_5)
        replace HX1 := hide (HX1.out.below hb_5)
        replace HX2 := hide (HX2.out.below hb_5)
        replace HB := hide (HB.out.trans (hb_5.mono HB.out.size))
        clear hb_5
        go_wp2_with fail
        refine hK.out _ _ ⟨HX0.out.c1.1, HFK.out _ (HI.out.below HB.out), (HB.out.cell (p := ⟨b1, o1 + k * 2, none⟩) l1).trans HC0.out, (HB.out.cell (p := ⟨b1, o1 + k * 2 + 1, none⟩) l1).trans HC1.out⟩ (fun hHeld => ?_)
        clear hK K'
        try simp only [Act.put, List.setIfInBounds_toArray, List.set_cons_zero, List.set_cons_succ]
        refine wpAnyH_ready (rs := [0]) (by kernel_rfl) (by simp) ?_
        refine AllReadyH.cons (o := ⟨some 19, _, _, _, _, _⟩) rfl (fun K' hK => ?_) AllReadyH.nil
        obtain ⟨y0, y1, y2, y3, f0, f1, f2, f3, hly⟩ := HX2.out.cells4
        go_simp
        clear y0 y1 y2 y3 f0 f1 f2 f3 hly
        refine hK.out _ _ ⟨HX0.out.c1.1, HFK.out _ (HI.out.below HB.out), (HB.out.cell (p := ⟨b1, o1 + k * 2, none⟩) l1).trans HC0.out, (HB.out.cell (p := ⟨b1, o1 + k * 2 + 1, none⟩) l1).trans HC1.out⟩ (fun hHeld => ?_)
        clear hK K'
        try simp only [Act.put, List.setIfInBounds_toArray, List.set_cons_zero, List.set_cons_succ]
        refine wpAnyH_ready (rs := [18]) (by kernel_rfl) (by simp) ?_
        refine AllReadyH.cons (o := ⟨some 37, _, _, _, _, _⟩) rfl (fun K' hK => ?_) AllReadyH.nil
        go_simp
        go_at_call 74
        refine (HPL.out _).mono ?_
        rintro e_ w_6 ⟨rfl, hb_6⟩
        replace HX0 := hide (HX0.out.below hb_6)
        replace HX1 := hide (HX1.out.below hb_6)
        replace HX2 := hide (HX2.out.below hb_6)
        replace HB := hide (HB.out.trans (hb_6.mono HB.out.size))
        clear hb_6
        go_wp2_with fail
        refine hK.out _ _ ⟨HX0.out.c1.1, HFK.out _ (HI.out.below HB.out), (HB.out.cell (p := ⟨b1, o1 + k * 2, none⟩) l1).trans HC0.out, (HB.out.cell (p := ⟨b1, o1 + k * 2 + 1, none⟩) l1).trans HC1.out⟩ (fun hHeld => ?_)
        clear hK K'
        try simp only [Act.put, List.setIfInBounds_toArray, List.set_cons_zero, List.set_cons_succ]
        refine wpAnyH_ready (rs := [19]) (by kernel_rfl) (by simp) ?_
        refine AllReadyH.cons (o := ⟨none, _, _, _, _, _⟩) rfl (fun K' hK => ?_) AllReadyH.nil
        obtain ⟨y0, y1, y2, y3, f0, f1, f2, f3, hly⟩ := HX2.out.cells4
        go_simp
        clear y0 y1 y2 y3 f0 f1 f2 f3 hly
        replace HX0 := hide (HX0.out.other4 (c := w.heap.size + 1 + 1) (by omega) (.int .i64 za) (.int .i64 zb) (.int .i64 zc) (.int .i64 zd))
        replace HX1 := hide (HX1.out.other4 (c := w.heap.size + 1 + 1) (by omega) (.int .i64 za) (.int .i64 zb) (.int .i64 zc) (.int .i64 zd))
        replace HX2 := hide (HX2.out.put4 (.int .i64 za) (.int .i64 zb) (.int .i64 zc) (.int .i64 zd))
        replace HB := hide (Below.put4 HB.out (c := w.heap.size + 1 + 1) (by omega) (.int .i64 za) (.int .i64 zb) (.int .i64 zc) (.int .i64 zd))
        obtain ⟨w_7, hw_7⟩ : ∃ q : World, ((((w_6.setCell ⟨w.heap.size + 1 + 1, 0, none⟩ (.int .i64 za)).setCell ⟨w.heap.size + 1 + 1, 1, none⟩ (.int .i64 zb)).setCell ⟨w.heap.size + 1 + 1, 2, none⟩ (.int .i64 zc)).setCell ⟨w.heap.size + 1 + 1, 3, none⟩ (.int .i64 zd)) = q := ⟨_, rfl⟩
        rw [hw_7] at HX0 HX1 HX2 HB ⊢
        clear hw_7
        refine hK.out _ _ ⟨HX0.out.c1.1, HFK.out _ (HI.out.below HB.out), (HB.out.cell (p := ⟨b1, o1 + k * 2, none⟩) l1).trans HC0.out, (HB.out.cell (p := ⟨b1, o1 + k * 2 + 1, none⟩) l1).trans HC1.out⟩ (fun hHeld => ?_)
        clear hK K'
        try simp only [Act.put, List.setIfInBounds_toArray, List.set_cons_zero, List.set_cons_succ]
        refine wpAnyH_done (by kernel_rfl) ?_ _
        go_wp2_with fail
        go_roundw
        case rel => exact ⟨k + 1, by omega, by go_num, HX0, HX1, hide (by rw [HV.out]; obtain ⟨e0, e1, e2, e3⟩ := HZE.out; rw [e0, e1, e2, e3]; exact HX2.out), HB⟩
        case measure => simp [Go.RowKit.intOf]; omega
    obtain rfl : k = n := by omega
    obtain ⟨x, hx⟩ : ∃ z, T k = z := ⟨_, rfl⟩
    simp only [hx] at HX2 HSQ
    clear hx
    obtain ⟨x0, -, hlx⟩ := HX0.out.c1
    obtain ⟨y0, y1, y2, y3, -⟩ := HX2.out.cells4
    go_wp2_with fail
    clear y0 y1 y2 y3 x0 hlx
    refine (HSQ.out _).mono ?_
    rintro e_ w_8 ⟨rfl, hb_8⟩
    replace HX0 := hide (HX0.out.below hb_8)
    replace HX1 := hide (HX1.out.below hb_8)
    replace HX2 := hide (HX2.out.below hb_8)
    replace HB := hide (HB.out.trans (hb_8.mono HB.out.size))
    clear hb_8
    have HY := hide (HX1.out.put2 (.int .i64 P) (.int .i64 Q))
    have HL := hide ((HB.out.setCell (p := ⟨w.heap.size + 1, 0, none⟩) (Nat.le_succ _) (.int .i64 P)).setCell (p := ⟨w.heap.size + 1, 1, none⟩) (Nat.le_succ _) (.int .i64 Q))
    obtain ⟨x0, x1, f0, f1, hlx⟩ := HX1.out.c2
    clear HX0 HX1 HX2 HB
    go_wp2_with fail
    clear x0 x1
    obtain ⟨y0, y1, -, -, hly⟩ := HY.out.c2
    refine bodyPost_ret (v := .agg #[.int .i64 P, .int .i64 Q]) ?_ rfl ⟨rfl, HL.out⟩
    simp [results, Try.results24, go_sem, y0, y1]
end Go.Proofs.Ytdkbjgnkehoplaa
