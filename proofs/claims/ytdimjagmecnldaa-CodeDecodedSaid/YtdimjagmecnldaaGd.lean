/- CodeDecoded: the walk. -/
import Derived.Test.YtdimjagmecnldaaGb
import Derived.Test.YtdimjagmecnldaaGc
import Derived.Test.YtdimjagmecnldaaDm
import Derived.Test.YtdimjagmecnldaaFc
namespace Go.Proofs.Ytdimjagmecnldaa
open Go.RowKit Go.Shelf
theorem OwnInts.cap_le {w : World} {base n c : Nat} {A : Option Addr} {F : Nat → Int} (h : OwnInts w base (.slice A n c) n F) : c ≤ maxLen := by
  rcases h.2 with ⟨h1, -⟩ | ⟨g, cap, cur, h1, -, -, -, hm, -⟩
  · injection h1 with _ _ h3
    omega
  · injection h1 with _ _ h3
    omega
theorem PolarOk.less {p n : Nat} {F : Nat → Int} (h : PolarOk p n F) : ∀ {j}, j < n → ∀ {i}, i < j → F i < F j
  | j + 1, hj, i, hi => by
    have h1 := h.order j hj
    by_cases e : i = j
    · subst e; exact h1
    · exact Int.lt_trans (h.less (by omega) (show i < j by omega)) h1
theorem posF_none {F B : Nat → Int} {x : Nat} : ∀ {n : Nat}, isPos F x n = false → posF F B x n = 0
  | 0, _ => rfl
  | n + 1, h => by
    unfold isPos at h
    unfold posF
    by_cases e : F n = x
    · rw [if_pos e] at h; cases h
    · rw [if_neg e] at h ⊢; exact posF_none h
theorem posF_eq {F B : Nat → Int} {x k : Nat} (hx : F k = x) : ∀ {n : Nat}, k < n → (∀ j, k < j → j < n → F j ≠ x) → posF F B x n = B k
  | n + 1, hk, h => by
    unfold posF
    by_cases e : k = n
    · subst e; rw [if_pos hx]
    · rw [if_neg (h n (by omega) (by omega))]
      exact posF_eq hx (by omega) (fun j h1 h2 => h j h1 (by omega))
theorem posF_at {p n : Nat} {F B : Nat → Int} (h : PolarOk p n F) {k : Nat} (hk : k < n) : posF F B (F k).toNat n = B k := by
  have hr := (h.range k hk).1
  have e : F k = ((F k).toNat : Int) := by omega
  exact posF_eq e hk fun j h1 h2 => by have := h.less h2 h1; omega
set_option maxHeartbeats 4000000 in
set_option maxRecDepth 100000 in
theorem codeDecoded_walk (p : Int) (A C E : Option Addr) (n c m d l e : Nat) (F B Z : Nat → Int) (w : World) (hn : n ≤ 9223372036854775807) (hm : m ≤ 9223372036854775807) (hl : l ≤ 9223372036854775807)
    (hI : IntsAt w 0 A n F) (hJ : IntsAt w 0 C m B) (hK : IntsAt w 0 E l Z) :
    Calls Try.prog 6 #[.agg #[.int .i64 p, .slice A n c], .slice C m d, .slice E l e] w fun r w' => r = .returned (.bool true) ∧ Below w.heap.size w w' := by
  have HI := hide hI
  have HJ := hide hJ
  have HK := hide hK
  clear hI hJ hK
  by_cases h66 : n ≤ 66
  · have d66 : decide (n ≤ 66) = true := by simpa using h66
    go_enter Try.func6, Try.ntmps6
    go_wp2_with fail
    refine (awake_any _).mono ?_
    rintro r w1 ⟨rfl, hb1⟩
    have bx1 : Box w1 w.heap.size 51 #[.int .i64 p, .slice A n c] := (Box.made rfl).below hb1
    have hB1 := below_of_alloc hb1
    have x0 : w1.cell? ⟨w.heap.size, 0, none⟩ = some (.int .i64 p) := bx1.at_ 0
    have x1 : w1.cell? ⟨w.heap.size, 1, none⟩ = some (.slice A n c) := bx1.at_ 1
    have hlt1 := bx1.lt
    clear hb1
    go_wp2_with fail
    refine (small_any p A n c _ hn).mono ?_
    rintro r w2 ⟨rfl, hb2⟩
    have bx2 := bx1.below hb2
    have hB2 := hB1.trans (hb2.mono hB1.size)
    clear x0 x1 hlt1 hb2 hB1 bx1
    have x0 : w2.cell? ⟨w.heap.size, 0, none⟩ = some (.int .i64 p) := bx2.at_ 0
    have x1 : w2.cell? ⟨w.heap.size, 1, none⟩ = some (.slice A n c) := bx2.at_ 1
    have hlt2 := bx2.lt
    go_wp2_with fail
    refine (checkPolarR_any p A n c F _ (by omega) (HI.out.below hB2)).mono ?_
    rintro r w3 ⟨rfl, hb3⟩
    have bx3 := bx2.below hb3
    have hB3 := hB2.trans (hb3.mono hB2.size)
    clear x0 x1 hlt2 hb3 hB2 bx2
    have x0 : w3.cell? ⟨w.heap.size, 0, none⟩ = some (.int .i64 p) := bx3.at_ 0
    have x1 : w3.cell? ⟨w.heap.size, 1, none⟩ = some (.slice A n c) := bx3.at_ 1
    have hlt3 := bx3.lt
    by_cases hz : polarErrI p n F = 0
    · obtain ⟨hp0, hp6, hok⟩ := polarOk_of hz
      obtain ⟨p, rfl⟩ := Int.eq_ofNat_of_zero_le hp0
      rw [Int.toNat_natCast] at hok
      rw [hz]
      clear hz hp0
      by_cases hmn : m = n
      · subst hmn
        have tmn : ((m : Int) != (m : Int)) = false := by simp
        go_wp2_with fail
        refine (bitsErrR_any C m d B _ hm (HJ.out.below hB3)).mono ?_
        rintro r w4 ⟨rfl, q4, rfl⟩
        by_cases hbz : bitsErrR m B = 0
        · obtain ⟨hm0, hm2, hbits⟩ := bitsErrR_zero hbz
          rw [hbz]
          have hBits := hide hbits
          have hOk := hide hok
          clear hbz hok hbits
          go_wp2_with fail
          refine (length_any p A m c _ (by omega)).mono ?_
          rintro r w5 ⟨rfl, hb5⟩
          obtain ⟨N, hN⟩ : ∃ N, N = 2 ^ p := ⟨_, rfl⟩
          have eN : (2 : Int) ^ p = (N : Int) := by rw [hN]; simp
          rw [eN]
          have hNN := hide hN
          have hN1 : 1 ≤ N := by rw [hN]; exact Nat.two_pow_pos p
          have hN9 : N ≤ 64 := by rw [hN]; exact Nat.pow_le_pow_right (by decide) (show p ≤ 6 by omega)
          clear hN eN
          have bx5 : Box w5 w.heap.size 51 #[.int .i64 (p : Int), .slice A m c] := (bx3.drewN q4).below hb5
          have hB5 : Below w.heap.size w w5 := hB3.trans ((below_of_drewN hb5).mono hB3.size)
          clear x0 x1 hlt3 hb5 hB3 bx3
          have x0 : w5.cell? ⟨w.heap.size, 0, none⟩ = some (.int .i64 (p : Int)) := bx5.at_ 0
          have x1 : w5.cell? ⟨w.heap.size, 1, none⟩ = some (.slice A m c) := bx5.at_ 1
          have hlt5 := bx5.lt
          by_cases hlN : l < N
          · have t5 : decide (l < N) = true := by simpa using hlN
            have t6 : decide ((l : Int) < (N : Int)) = true := by simp; omega
            go_wp2_with fail
            go_ret
            exact ⟨rfl, hB5⟩
          · have t5 : decide (l < N) = false := by simpa using hlN
            have t6 : decide ((l : Int) < (N : Int)) = false := by simp; omega
            go_wp2_with fail
            refine (copyPolar_any p A m c F _ (by omega) (HI.out.below hB5)).mono ?_
            rintro r w6 ⟨A6, c6, rfl, hc6, hI6, hb6⟩
            have hB6 := hB5.trans (hb6.mono hB5.size)
            go_wp2_with fail
            refine (copyInts_any C m d B _ (by omega) (HJ.out.below hB6)).mono ?_
            rintro r w7 ⟨v7, rfl, A7, c7, rfl, hc7, hI7, hb7⟩
            have hB7 := hB6.trans (hb7.mono hB6.size)
            go_wp2_with fail
            refine (Encode_ok p A6 A7 m c6 c7 F B _ hOk.out (by omega) ((hI6.below hb7).weak (Nat.zero_le _)) (hI7.weak (Nat.zero_le _)) hBits.out).mono ?_
            rintro r w8 ⟨v8, rfl, A8, c8, rfl, hc8, hI8, hb8⟩
            rw [← hNN.out] at hc8 hI8 ⊢
            have bx8 := ((bx5.below hb6).below hb7).below hb8
            have hB8 := hB7.trans (hb8.mono hB7.size)
            have hWb : ∀ j, j < N → IsBit (wordF N (fun x => posF F B x m) j) := fun j _ => wordF_bit _ _ _
            obtain ⟨U, hU⟩ : ∃ U, U = fun x => posF F B x m := ⟨_, rfl⟩
            rw [← hU] at hI8 hWb
            have hUU := hide hU
            clear x0 x1 hlt5 hb6 hb7 hb8 hB5 hB6 hB7 bx5 hI6 hI7 hU
            have x0 : w8.cell? ⟨w.heap.size, 0, none⟩ = some (.int .i64 (p : Int)) := bx8.at_ 0
            have x1 : w8.cell? ⟨w.heap.size, 1, none⟩ = some (.slice A m c) := bx8.at_ 1
            have hlt8 := bx8.lt
            have eN : (2 : Int) ^ p = (N : Int) := by rw [hNN.out]; simp
            go_wp2_with fail
            refine (length_any p A m c _ (by omega)).mono ?_
            rintro r w9 ⟨rfl, hb9⟩
            rw [eN]
            have bx9 := bx8.below hb9
            have hB9 := hB8.trans (hb9.mono hB8.size)
            have hI9 := hI8.below hb9
            clear x0 x1 hlt8 hb9 hB8 bx8 hI8 eN
            go_wp2_with fail
            refine (areBitsB_any A8 N c8 _ _ (by omega) (hI9.weak (Nat.zero_le _))).mono ?_
            rintro r wa ⟨rfl, qa, hwa⟩
            rw [bitsB_iff.2 hWb]
            have bxa : Box wa w.heap.size 51 #[.int .i64 (p : Int), .slice A m c] := by rw [hwa]; exact bx9.drewN qa
            have hBa : Below w.heap.size w wa := by rw [hwa]; exact below_drewN hB9 qa
            have hIa : IntsAt wa 0 A8 N (wordF N U) := by rw [hwa]; exact (hI9.weak (Nat.zero_le _)).drewN qa
            clear hwa bx9 hB9 hI9
            go_wp2_with fail
            have HKa := hide (HK.out.below hBa)
            have HIa := hide hIa
            have HWb := hide hWb
            have hBs := hBa.size
            clear hIa hWb
            obtain ⟨wv, rfl⟩ : ∃ wv : World, wv = wa := ⟨_, rfl⟩
            go_loopw [9, 10] (fun v i wr => ∃ k : Nat, k ≤ N ∧ i = .int .i64 k ∧ OwnInts wr wv.heap.size v k (fun j => (1 - 2 * wordF N U j) * (1 + Z j % 1000000)) ∧ Below wv.heap.size wv wr) (fun _ i _ => N - (intOf i).toNat)
            case atStart => exact ⟨0, Nat.zero_le _, rfl, OwnInts.nil_ _ _ _, Below.refl _ _⟩
            case round =>
              obtain ⟨k, hk, rfl, hown, hBr⟩ := hrel
              obtain ⟨As, cs, rfl, hcs, hIs⟩ := hown.form
              have hBrs := hBr.size
              by_cases hlt : k < N
              · have hltz : (k : Int) < (N : Int) := by omega
                have hltl : (k : Int) < (l : Int) := by omega
                obtain ⟨b1, o1, rfl, -, hb1, hcelv1⟩ := HIa.out k hlt
                obtain ⟨b2, o2, rfl, -, hb2, hcelv2⟩ := HKa.out k (by omega)
                have hcell1 := (hBr.cell (p := ⟨b1, o1 + k, none⟩) hb1).trans hcelv1
                have hcell2 := (hBr.cell (p := ⟨b2, o2 + k, none⟩) hb2).trans hcelv2
                have hzz1 := Int.emod_nonneg (Z k) (show (1000000 : Int) ≠ 0 by decide)
                have hzz2 := Int.emod_lt_of_pos (Z k) (show (0 : Int) < 1000000 by decide)
                clear hIs
                obtain ⟨z, hz⟩ : ∃ z, z = Z k % 1000000 := ⟨_, rfl⟩
                rw [← hz] at hzz1 hzz2
                have HZ := hide hz
                clear hz
                have SOF := hide (fun W' (h : Below wv.heap.size wv W') => (⟨(h.cell (p := ⟨b1, o1 + k, none⟩) hb1).trans hcelv1, (h.cell (p := ⟨b2, o2 + k, none⟩) hb2).trans hcelv2, h⟩ :
                  W'.cell? ⟨b1, o1 + k, none⟩ = some (.int .i64 (wordF N U k)) ∧ W'.cell? ⟨b2, o2 + k, none⟩ = some (.int .i64 (Z k)) ∧ Below wv.heap.size wv W'))
                have b0 := hBr
                clear hcelv1 hcelv2
                rcases HWb.out k hlt with hw | hw
                · rw [hw] at hcell1 SOF
                  have HT := hide (show IntKind.i64.wrap (IntKind.i64.wrap (1 - IntKind.i64.wrap 0) * IntKind.i64.wrap (1 + z)) = (1 - 2 * wordF N U k) * (1 + z) from by
                    rw [hw, IntWalk.i64_in (1 + z) (by omega), show IntKind.i64.wrap (1 - IntKind.i64.wrap 0) = 1 from by decide, IntWalk.i64_in _ (by omega)]; omega)
                  clear hw
                  go_wp2_with fail
                  go_region_held3 (fun w' => w'.cell? ⟨b1, o1 + k, none⟩ = some (.int .i64 0) ∧ w'.cell? ⟨b2, o2 + k, none⟩ = some (.int .i64 (Z k)) ∧ Below wv.heap.size wv w')
                    (first | assumption | exact SOF.out _ (by assumption) | exact SOF.out _ b0.drew | exact SOF.out _ (balloc' (by assumption) (Nat.le_refl _) _) | exact SOF.out _ (balloc' (by assumption) (Nat.le_refl _) _).drew)
                    (first
                      | (go_at_call 21; refine (mod_any _ _ _ (by decide) (by decide)).mono ?_; rintro r w2 ⟨rfl, rfl⟩; rw [← HZ.out])
                      | (refine step_append_ints _ (by rfl) _ _ (by rfl) wv.heap.size 0 (.slice As k cs) k _ (by rfl) ((hown.alloc _).drew) (some ⟨wr.heap.size, 0, none⟩) 1 1 (fun _ => (IntKind.i64.wrap (IntKind.i64.wrap (1 - IntKind.i64.wrap 0) * IntKind.i64.wrap (1 + z)))) (by rfl) ((IntsAt.one wr 0 (IntKind.i64.wrap (IntKind.i64.wrap (1 - IntKind.i64.wrap 0) * IntKind.i64.wrap (1 + z))) 3 (Nat.zero_le _)).drew) (by omega) (by simp; omega) ?_; intro v' w' h1 hb3; have hb4 := (balloc' hBr (Nat.le_refl _) _).drew.trans hb3))
                  go_wp2_with fail
                  refine ⟨⟨k + 1, by omega, by simp, h1.congr (fun j hj => ?_), hb4⟩, by simp [intOf]; omega⟩
                  unfold catF
                  by_cases hjk : j < k
                  · rw [if_pos hjk]
                  · have hjk' : j = k := by omega
                    subst hjk'
                    rw [if_neg hjk, ← HZ.out]
                    exact HT.out
                · rw [hw] at hcell1 SOF
                  have HT := hide (show IntKind.i64.wrap (IntKind.i64.wrap (1 - IntKind.i64.wrap 2) * IntKind.i64.wrap (1 + z)) = (1 - 2 * wordF N U k) * (1 + z) from by
                    rw [hw, IntWalk.i64_in (1 + z) (by omega), show IntKind.i64.wrap (1 - IntKind.i64.wrap 2) = -1 from by decide, IntWalk.i64_in _ (by omega)]; omega)
                  clear hw
                  go_wp2_with fail
                  go_region_held3 (fun w' => w'.cell? ⟨b1, o1 + k, none⟩ = some (.int .i64 1) ∧ w'.cell? ⟨b2, o2 + k, none⟩ = some (.int .i64 (Z k)) ∧ Below wv.heap.size wv w')
                    (first | assumption | exact SOF.out _ (by assumption) | exact SOF.out _ b0.drew | exact SOF.out _ (balloc' (by assumption) (Nat.le_refl _) _) | exact SOF.out _ (balloc' (by assumption) (Nat.le_refl _) _).drew)
                    (first
                      | (go_at_call 21; refine (mod_any _ _ _ (by decide) (by decide)).mono ?_; rintro r w2 ⟨rfl, rfl⟩; rw [← HZ.out])
                      | (refine step_append_ints _ (by rfl) _ _ (by rfl) wv.heap.size 0 (.slice As k cs) k _ (by rfl) ((hown.alloc _).drew) (some ⟨wr.heap.size, 0, none⟩) 1 1 (fun _ => (IntKind.i64.wrap (IntKind.i64.wrap (1 - IntKind.i64.wrap 2) * IntKind.i64.wrap (1 + z)))) (by rfl) ((IntsAt.one wr 0 (IntKind.i64.wrap (IntKind.i64.wrap (1 - IntKind.i64.wrap 2) * IntKind.i64.wrap (1 + z))) 3 (Nat.zero_le _)).drew) (by omega) (by simp; omega) ?_; intro v' w' h1 hb3; have hb4 := (balloc' hBr (Nat.le_refl _) _).drew.trans hb3))
                  go_wp2_with fail
                  refine ⟨⟨k + 1, by omega, by simp, h1.congr (fun j hj => ?_), hb4⟩, by simp [intOf]; omega⟩
                  unfold catF
                  by_cases hjk : j < k
                  · rw [if_pos hjk]
                  · have hjk' : j = k := by omega
                    subst hjk'
                    rw [if_neg hjk, ← HZ.out]
                    exact HT.out
              · have hkN : k = N := by omega
                subst hkN
                have hltz : decide ((k : Int) < (k : Int)) = false := by simp
                have bxr := bxa.kept hBr bxa.lt
                have hBw : Below w.heap.size w wr := hBa.trans (hBr.mono hBs)
                have x0 : wr.cell? ⟨w.heap.size, 0, none⟩ = some (.int .i64 (p : Int)) := bxr.at_ 0
                have x1 : wr.cell? ⟨w.heap.size, 1, none⟩ = some (.slice A m c) := bxr.at_ 1
                have hltr := bxr.lt
                have hcap := hown.cap_le
                have hTT : ∀ j, j < k → Tells ((1 - 2 * wordF k U j) * (1 + Z j % 1000000)) (wordF k U j) := fun j hj => by
                  have h1 := Int.emod_nonneg (Z j) (show (1000000 : Int) ≠ 0 by decide)
                  rcases HWb.out j hj with h | h
                  · exact .inl ⟨h, by rw [h]; omega⟩
                  · exact .inr ⟨h, by rw [h]; omega⟩
                have hT9 : ∀ j, j < k → -1000000 ≤ (1 - 2 * wordF k U j) * (1 + Z j % 1000000) ∧ (1 - 2 * wordF k U j) * (1 + Z j % 1000000) ≤ 1000000 := fun j hj => by
                  have h1 := Int.emod_nonneg (Z j) (show (1000000 : Int) ≠ 0 by decide)
                  have h2 := Int.emod_lt_of_pos (Z j) (show (0 : Int) < 1000000 by decide)
                  rcases HWb.out j hj with h | h
                  · rw [h]; omega
                  · rw [h]; omega
                have HTT := hide hTT
                have HT9 := hide hT9
                have HIs := hide hIs
                clear hTT hT9 hIs hown bxa hBa hBr
                go_wp2_with fail
                refine (copyPolar_any p A m c F _ (by omega) (HI.out.below hBw)).mono ?_
                rintro r wb ⟨Ab, cb, rfl, hcb, hIb, hbb⟩
                have hBb := hBw.trans (hbb.mono hBw.size)
                go_wp2_with fail
                refine (Decode_ok p k Ab As m cb cs F (fun j => (1 - 2 * wordF k U j) * (1 + Z j % 1000000)) _ hOk.out (by omega) hNN.out (hIb.weak (Nat.zero_le _)) ((HIs.out.weak (Nat.zero_le _)).below hbb) hcs (by unfold maxLen at hcap; omega) HT9.out).mono ?_
                rintro r wd ⟨vd, rfl, Ad, cd, rfl, hcd, hId, hbd⟩
                have hBd := hBb.trans (hbd.mono hBb.size)
                go_wp2_with fail
                refine (ints_any Ad C m m cd d _ B _ (by omega) (by omega) (hId.weak (Nat.zero_le _)) (HJ.out.below hBd)).mono ?_
                rintro r we ⟨rfl, qe, rfl⟩
                rw [intsB_iff.2 ⟨rfl, fun x hx => ?_⟩]
                · go_wp2_with fail
                  go_goals
                  go_ret
                  exact ⟨rfl, below_drewN hBd qe⟩
                · have hNe := hNN.out
                  have hr := hOk.out.range x hx
                  have hlx : (F x).toNat < 2 ^ p := by
                    have h2 : ((2 ^ p : Nat) : Int) = (2 : Int) ^ p := by simp
                    omega
                  show cancelF p (fun y => isPos F y m) (fun j => (1 - 2 * wordF k U j) * (1 + Z j % 1000000)) (F x).toNat = B x
                  rw [cancel_right p _ U _ (fun j _ => by rw [hUU.out]; exact posF_bit hBits.out j) (fun j _ h => by rw [hUU.out]; exact posF_none h) (fun j hj => by rw [← hNe] at hj ⊢; exact HTT.out j hj) _ hlx, hUU.out]
                  exact posF_at hOk.out hx
        · have t4 : (bitsErrR m B != 0) = true := by simpa using hbz
          generalize bitsErrR m B = be at *
          clear hbz
          go_wp2_with fail
          go_ret
          exact ⟨rfl, below_drewN hB3 _⟩
      · have tmn : ((m : Int) != (n : Int)) = true := by simp; omega
        clear hmn
        go_wp2_with fail
        go_ret
        exact ⟨rfl, hB3⟩
    · have t3 : (polarErrI p n F != 0) = true := by simpa using hz
      generalize polarErrI p n F = pe at *
      clear hz
      go_wp2_with fail
      go_ret
      exact ⟨rfl, hB3⟩
  · have d66 : decide (n ≤ 66) = false := by simpa using h66
    go_enter Try.func6, Try.ntmps6
    go_wp2_with fail
    refine (awake_any _).mono ?_
    rintro r w1 ⟨rfl, hb1⟩
    have bx1 : Box w1 w.heap.size 51 #[.int .i64 p, .slice A n c] := (Box.made rfl).below hb1
    have hB1 := below_of_alloc hb1
    have x0 : w1.cell? ⟨w.heap.size, 0, none⟩ = some (.int .i64 p) := bx1.at_ 0
    have x1 : w1.cell? ⟨w.heap.size, 1, none⟩ = some (.slice A n c) := bx1.at_ 1
    have hlt1 := bx1.lt
    go_wp2_with fail
    refine (small_any p A n c _ hn).mono ?_
    rintro r w2 ⟨rfl, hb2⟩
    go_wp2_with fail
    go_ret
    exact ⟨rfl, hB1.trans (hb2.mono hB1.size)⟩
end Go.Proofs.Ytdimjagmecnldaa
