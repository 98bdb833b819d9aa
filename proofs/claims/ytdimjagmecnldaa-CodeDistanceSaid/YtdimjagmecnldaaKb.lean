/- CodeDistance: the walk. -/
import Derived.Test.YtdimjagmecnldaaKa
import Derived.Test.YtdimjagmecnldaaKn
import Derived.Test.YtdimjagmecnldaaGb
import Derived.Test.YtdimjagmecnldaaId
import Derived.Test.YtdimjagmecnldaaFc
namespace Go.Proofs.Ytdimjagmecnldaa
open Go.RowKit Go.Shelf
set_option maxHeartbeats 8000000 in
set_option maxRecDepth 100000 in
theorem codeDistance_walk (p : Int) (A C E : Option Addr) (n c m d l e : Nat) (F B Z : Nat → Int) (w : World) (hn : n ≤ 9223372036854775807) (hm : m ≤ 9223372036854775807) (hl : l ≤ 9223372036854775807)
    (hI : IntsAt w 0 A n F) (hJ : IntsAt w 0 C m B) (hK : IntsAt w 0 E l Z) :
    Calls Try.prog 7 #[.agg #[.int .i64 p, .slice A n c], .slice C m d, .slice E l e] w fun r w' => r = .returned (.bool true) ∧ Below w.heap.size w w' := by
  have HI := hide hI
  have HJ := hide hJ
  have HK := hide hK
  clear hI hJ hK
  by_cases h66 : n ≤ 66
  · have d66 : decide (n ≤ 66) = true := by simpa using h66
    go_enter Try.func7, Try.ntmps7
    go_wp2_with fail
    refine (awake_any _).mono ?_
    rintro r w1 ⟨rfl, hb1⟩
    have bx1 : Box w1 w.heap.size 51 #[.int .i64 p, .slice A n c] := (Box.made rfl).below hb1
    have hB1 := below_of_alloc hb1
    have x0 : w1.cell? ⟨w.heap.size, 0, none⟩ = some (.int .i64 p) := bx1.at_ 0
    have x1 : w1.cell? ⟨w.heap.size, 1, none⟩ = some (.slice A n c) := bx1.at_ 1
    have hlt1 := bx1.lt
    clear hb1
    go_wp2_with fail
    refine (small_any p A n c _ hn).mono ?_
    rintro r w2 ⟨rfl, hb2⟩
    have bx2 := bx1.below hb2
    have hB2 := hB1.trans (hb2.mono hB1.size)
    clear x0 x1 hlt1 hb2 hB1 bx1
    have x0 : w2.cell? ⟨w.heap.size, 0, none⟩ = some (.int .i64 p) := bx2.at_ 0
    have x1 : w2.cell? ⟨w.heap.size, 1, none⟩ = some (.slice A n c) := bx2.at_ 1
    have hlt2 := bx2.lt
    go_wp2_with fail
    refine (checkPolarR_any p A n c F _ (by omega) (HI.out.below hB2)).mono ?_
    rintro r w3 ⟨rfl, hb3⟩
    have bx3 := bx2.below hb3
    have hB3 := hB2.trans (hb3.mono hB2.size)
    clear x0 x1 hlt2 hb3 hB2 bx2
    have x0 : w3.cell? ⟨w.heap.size, 0, none⟩ = some (.int .i64 p) := bx3.at_ 0
    have x1 : w3.cell? ⟨w.heap.size, 1, none⟩ = some (.slice A n c) := bx3.at_ 1
    have hlt3 := bx3.lt
    by_cases hz : polarErrI p n F = 0
    · obtain ⟨hp0, hp6, hok⟩ := polarOk_of hz
      obtain ⟨p, rfl⟩ := Int.eq_ofNat_of_zero_le hp0
      rw [Int.toNat_natCast] at hok
      rw [hz]
      clear hz hp0
      by_cases hmn : m = n
      · subst hmn
        have tmn : ((m : Int) != (m : Int)) = false := by simp
        by_cases hlm : l = m
        · subst hlm
          have tlm : ((l : Int) != (l : Int)) = false := by simp
          go_wp2_with fail
          refine (bitsErrR_any C l d B _ hm (HJ.out.below hB3)).mono ?_
          rintro r w4 ⟨rfl, q4, rfl⟩
          by_cases hbz : bitsErrR l B = 0
          · obtain ⟨hm0, hm2, hbits⟩ := bitsErrR_zero hbz
            rw [hbz]
            have hBits := hide hbits
            have hOk := hide hok
            clear hbz hok hbits
            go_wp2_with fail
            refine (bitsErrR_any E l e Z _ hl (HK.out.below (below_drewN hB3 q4))).mono ?_
            rintro r w5 ⟨rfl, q5, rfl⟩
            by_cases hcz : bitsErrR l Z = 0
            · obtain ⟨-, -, hzits⟩ := bitsErrR_zero hcz
              rw [hcz]
              have hZits := hide hzits
              obtain ⟨N, hN⟩ : ∃ N, N = 2 ^ p := ⟨_, rfl⟩
              have hNN := hide hN
              have hN1 : 1 ≤ N := by rw [hN]; exact Nat.two_pow_pos p
              have hN9 : N ≤ 64 := by rw [hN]; exact Nat.pow_le_pow_right (by decide) (show p ≤ 6 by omega)
              have bx5 := (bx3.drewN q4).drewN q5
              have hB5 := below_drewN (below_drewN hB3 q4) q5
              clear x0 x1 hlt3 bx3 hB3 hcz hzits hN tmn tlm
              generalize (w3.drewN q4).drewN q5 = w5 at *
              have x0 : w5.cell? ⟨w.heap.size, 0, none⟩ = some (.int .i64 (p : Int)) := bx5.at_ 0
              have x1 : w5.cell? ⟨w.heap.size, 1, none⟩ = some (.slice A l c) := bx5.at_ 1
              have hlt5 := bx5.lt
              go_wp2_with fail
              refine (copyPolar_any p A l c F _ (by omega) (HI.out.below hB5)).mono ?_
              rintro r wa ⟨Aa, ca, rfl, hca, hIa, hba⟩
              have hBa := hB5.trans (hba.mono hB5.size)
              go_wp2_with fail
              refine (DistanceOf_ok p Aa l ca F _ hOk.out (by omega) (hIa.weak (Nat.zero_le _))).mono ?_
              rintro r wb ⟨b, v, hbl, hmin, rfl, Ab, cb, rfl, hcb, hIb, hbb⟩
              obtain ⟨T, hT⟩ : ∃ T : Int, T = 2 ^ onesN p (F b).toNat := ⟨_, rfl⟩
              rw [← hT]
              have HT := hide hT
              have hT1 : 1 ≤ T := by rw [hT]; exact (pow2_le _ (Nat.le_trans (onesN_le p _) (by omega))).1
              have hT9 : T ≤ 65536 := by rw [hT]; exact (pow2_le _ (Nat.le_trans (onesN_le p _) (by omega))).2
              clear hT
              have hBb := hBa.trans (hbb.mono hBa.size)
              have bxb := (bx5.below hba).below hbb
              have HMin := hide hmin
              have HIb := hide (hIb.weak (Nat.zero_le _))
              clear x0 x1 hlt5 bx5 hB5 hba hbb hBa hIa hIb hmin
              have x0 : wb.cell? ⟨w.heap.size, 0, none⟩ = some (.int .i64 (p : Int)) := bxb.at_ 0
              have x1 : wb.cell? ⟨w.heap.size, 1, none⟩ = some (.slice A l c) := bxb.at_ 1
              have hltb := bxb.lt
              go_wp2_with fail
              refine (copyPolar_any p A l c F _ (by omega) (HI.out.below hBb)).mono ?_
              rintro r wc1 ⟨Ac1, cc1, rfl, hcc1, hIc1, hbc1⟩
              have hBc1 := hBb.trans (hbc1.mono hBb.size)
              go_wp2_with fail
              refine (copyInts_any C l d B _ (by omega) (HJ.out.below hBc1)).mono ?_
              rintro r wd1 ⟨vd1, rfl, Ad1, cd1, rfl, hcd1, hId1, hbd1⟩
              have hBd1 := hBc1.trans (hbd1.mono hBc1.size)
              go_wp2_with fail
              refine (Encode_ok p Ac1 Ad1 l cc1 cd1 F B _ hOk.out (by omega) ((hIc1.below hbd1).weak (Nat.zero_le _)) (hId1.weak (Nat.zero_le _)) hBits.out).mono ?_
              rintro r wf ⟨ve1, rfl, Ae1, ce1, rfl, hce1, hIe1, hbe1⟩
              rw [← hNN.out] at hce1 hIe1 ⊢
              have hbEf1 : Below wb.heap.size wb wf := (hbc1.trans (hbd1.mono hbc1.size)).trans (hbe1.mono (Nat.le_trans hbc1.size hbd1.size))
              have hBf := hBb.trans (hbEf1.mono hBb.size)
              have bxf := bxb.below hbEf1
              have HU := hide (hIe1.weak (Nat.zero_le _))
              have HIb := hide (HIb.out.below hbEf1)
              clear x0 x1 hltb hbc1 hBc1 hbd1 hBd1 hbe1 hIc1 hId1 hIe1 bxb hBb
              have x0 : wf.cell? ⟨w.heap.size, 0, none⟩ = some (.int .i64 (p : Int)) := bxf.at_ 0
              have x1 : wf.cell? ⟨w.heap.size, 1, none⟩ = some (.slice A l c) := bxf.at_ 1
              have hltf := bxf.lt
              go_wp2_with fail
              refine (copyPolar_any p A l c F _ (by omega) (HI.out.below hBf)).mono ?_
              rintro r wc2 ⟨Ac2, cc2, rfl, hcc2, hIc2, hbc2⟩
              have hBc2 := hBf.trans (hbc2.mono hBf.size)
              go_wp2_with fail
              refine (copyInts_any E l e Z _ (by omega) (HK.out.below hBc2)).mono ?_
              rintro r wd2 ⟨vd2, rfl, Ad2, cd2, rfl, hcd2, hId2, hbd2⟩
              have hBd2 := hBc2.trans (hbd2.mono hBc2.size)
              go_wp2_with fail
              refine (Encode_ok p Ac2 Ad2 l cc2 cd2 F Z _ hOk.out (by omega) ((hIc2.below hbd2).weak (Nat.zero_le _)) (hId2.weak (Nat.zero_le _)) hZits.out).mono ?_
              rintro r wg ⟨ve2, rfl, Ae2, ce2, rfl, hce2, hIe2, hbe2⟩
              rw [← hNN.out] at hce2 hIe2 ⊢
              have hbEf2 : Below wf.heap.size wf wg := (hbc2.trans (hbd2.mono hbc2.size)).trans (hbe2.mono (Nat.le_trans hbc2.size hbd2.size))
              have hBg := hBf.trans (hbEf2.mono hBf.size)
              have bxg := bxf.below hbEf2
              have HV := hide (hIe2.weak (Nat.zero_le _))
              have HIb := hide (HIb.out.below hbEf2)
              clear x0 x1 hltf hbc2 hBc2 hbd2 hBd2 hbe2 hIc2 hId2 hIe2 bxf hBf
              have x0 : wg.cell? ⟨w.heap.size, 0, none⟩ = some (.int .i64 (p : Int)) := bxg.at_ 0
              have x1 : wg.cell? ⟨w.heap.size, 1, none⟩ = some (.slice A l c) := bxg.at_ 1
              have hltg := bxg.lt
              have HU := hide (IntsAt.below HU.out hbEf2)
              clear hbEf2 hbEf1
              have eN : (2 : Int) ^ p = (N : Int) := by rw [hNN.out]; simp
              obtain ⟨U, hU⟩ : ∃ U, U = wordF N (fun x => posF F B x l) := ⟨_, rfl⟩
              obtain ⟨V, hV⟩ : ∃ V, V = wordF N (fun x => posF F Z x l) := ⟨_, rfl⟩
              rw [← hU] at HU
              rw [← hV] at HV
              have hUb : ∀ j, IsBit (U j) := fun j => by rw [hU]; exact wordF_bit _ _ _
              have hVb : ∀ j, IsBit (V j) := fun j => by rw [hV]; exact wordF_bit _ _ _
              have HUE := hide hU
              have HVE := hide hV
              have HUb := hide hUb
              have HVb := hide hVb
              clear hU hV hUb hVb
              go_wp2_with fail
              refine (length_any p A l c _ (by omega)).mono ?_
              rintro r wh ⟨rfl, hbh⟩
              rw [eN]
              clear eN
              have hBh := hBg.trans (hbh.mono hBg.size)
              have bxh := bxg.below hbh
              have HU := hide (HU.out.below hbh)
              have HV := hide (HV.out.below hbh)
              have HIb := hide (HIb.out.below hbh)
              clear x0 x1 hbh hBg bxg hltg
              go_wp2_with fail
              refine (areBitsB_any Ae1 N ce1 U _ (by omega) HU.out).mono ?_
              rintro r w2 ⟨rfl, q1, rfl⟩
              rw [bitsB_iff.2 (fun j _ => HUb.out j)]
              go_wp2_with fail
              refine (areBitsB_any Ae2 N ce2 V _ (by omega) (HV.out.drewN q1)).mono ?_
              rintro r w2 ⟨rfl, q2, rfl⟩
              rw [bitsB_iff.2 (fun j _ => HVb.out j)]
              go_wp2_with fail
              refine (areBitsB_any Ab l cb _ _ (by omega) (HIb.out.drewN (q1 + q2))).mono ?_
              rintro r w2 ⟨rfl, q3, rfl⟩
              rw [bitsB_iff.2 (fun j _ => by show IsBit (if j = b then 1 else 0); split; exact .inr rfl; exact .inl rfl)]
              have hBi := below_drewN (below_drewN hBh (q1 + q2)) q3
              have bxi := (bxh.drewN (q1 + q2)).drewN q3
              have HU := hide ((HU.out.drewN (q1 + q2)).drewN q3)
              have HV := hide ((HV.out.drewN (q1 + q2)).drewN q3)
              have HIb := hide ((HIb.out.drewN (q1 + q2)).drewN q3)
              clear hBh bxh
              generalize (wh.drewN (q1 + q2)).drewN q3 = wi at *
              have x0 : wi.cell? ⟨w.heap.size, 0, none⟩ = some (.int .i64 (p : Int)) := bxi.at_ 0
              have x1 : wi.cell? ⟨w.heap.size, 1, none⟩ = some (.slice A l c) := bxi.at_ 1
              have hlti := bxi.lt
              go_wp2_with fail
              refine (copyPolar_any p A l c F _ (by omega) (HI.out.below hBi)).mono ?_
              rintro r wc3 ⟨Ac3, cc3, rfl, hcc3, hIc3, hbc3⟩
              have hBc3 := hBi.trans (hbc3.mono hBi.size)
              go_wp2_with fail
              refine (copyInts_any Ab l cb _ _ (by omega) (HIb.out.below hbc3)).mono ?_
              rintro r wd3 ⟨vd3, rfl, Ad3, cd3, rfl, hcd3, hId3, hbd3⟩
              go_wp2_with fail
              refine (Encode_ok p Ac3 Ad3 l cc3 cd3 F (fun j => if j = b then 1 else 0) _ hOk.out (by omega) ((hIc3.below hbd3).weak (Nat.zero_le _)) (hId3.weak (Nat.zero_le _)) (fun j _ => by show IsBit (if j = b then 1 else 0); split; exact .inr rfl; exact .inl rfl)).mono ?_
              rintro r wj ⟨ve3, rfl, Ae3, ce3, rfl, hce3, hIe3, hbe3⟩
              rw [← hNN.out] at hce3 hIe3 ⊢
              have hij : Below wi.heap.size wi wj := (hbc3.trans (hbd3.mono hbc3.size)).trans (hbe3.mono (Nat.le_trans hbc3.size hbd3.size))
              have HX := hide (hIe3.weak (Nat.zero_le _))
              have HTW := hide (show wt N (wordF N (fun x => posF F (fun j => if j = b then 1 else 0) x l)) = T from by rw [HT.out, hNN.out]; exact told_ones hOk.out hbl)
              clear x0 x1 hlti hbc3 hBc3 hbd3 hbe3 hIc3 hId3 hIe3 HIb
              go_wp2_with fail
              refine (ones_any Ae3 N ce3 _ _ (by omega) HX.out (fun j => wordF_bit _ _ _)).mono ?_
              rintro r w2 ⟨rfl, q4, rfl⟩
              rw [HTW.out]
              have hiw := below_drewN hij q4
              have hBk := hBi.trans (hiw.mono hBi.size)
              have bxk := bxi.below hiw
              have HU := hide (HU.out.below hiw)
              have HV := hide (HV.out.below hiw)
              clear hij hiw HX HTW hBi bxi
              generalize wj.drewN q4 = wk at *
              have tT : decide (T < 1) = false := by simp; omega
              go_wp2_with fail
              go_loopw [16, 17, 19] (fun dv x i wr => ∃ k : Nat, k ≤ N ∧ i = .int .i64 k ∧ dv = .int .i64 (wt k (fun j => (U j + V j) % 2)) ∧ OwnInts wr wk.heap.size x k (fun j => (U j + V j) % 2) ∧ Below wk.heap.size wk wr) (fun _ _ i _ => N - (intOf i).toNat)
              case atStart => exact ⟨0, Nat.zero_le _, rfl, rfl, OwnInts.nil_ _ _ _, Below.refl _ _⟩
              case round =>
                obtain ⟨k, hk, rfl, rfl, hown, hBr⟩ := hrel
                obtain ⟨As, cs, rfl, hcs, hIs⟩ := hown.form
                have hBrs := hBr.size
                by_cases hlt : k < N
                · have hltz : (k : Int) < (N : Int) := by omega
                  obtain ⟨b1, o1, rfl, -, hb1, hcelv1⟩ := HU.out k hlt
                  obtain ⟨b2, o2, rfl, -, hb2, hcelv2⟩ := HV.out k hlt
                  have hcell1 := (hBr.cell (p := ⟨b1, o1 + k, none⟩) hb1).trans hcelv1
                  have hcell2 := (hBr.cell (p := ⟨b2, o2 + k, none⟩) hb2).trans hcelv2
                  have hw0 := wt_nonneg (W := fun j => (U j + V j) % 2) (fun j => by show IsBit _; unfold IsBit; omega) k
                  have hw9 := wt_le (W := fun j => (U j + V j) % 2) (fun j => by show IsBit _; unfold IsBit; omega) k
                  have HS := hide (show wt (k + 1) (fun j => (U j + V j) % 2) = wt k (fun j => (U j + V j) % 2) + (U k + V k) % 2 from rfl)
                  have hu9 := (HUb.out k).le
                  have hv9 := (HVb.out k).le
                  obtain ⟨uu, huu⟩ : ∃ uu, uu = U k := ⟨_, rfl⟩
                  obtain ⟨vv, hvv⟩ : ∃ vv, vv = V k := ⟨_, rfl⟩
                  obtain ⟨dd, hdd⟩ : ∃ dd, dd = wt k (fun j => (U j + V j) % 2) := ⟨_, rfl⟩
                  rw [← huu] at hu9 hcell1 hcelv1
                  rw [← hvv] at hv9 hcell2 hcelv2
                  rw [← hdd] at hw0 hw9 ⊢
                  have HUU := hide huu
                  have HVV := hide hvv
                  have HDD := hide hdd
                  clear huu hvv hdd
                  have SOF := hide (fun W' (h : Below wk.heap.size wk W') => (⟨(h.cell (p := ⟨b1, o1 + k, none⟩) hb1).trans hcelv1, (h.cell (p := ⟨b2, o2 + k, none⟩) hb2).trans hcelv2, h⟩ :
                    W'.cell? ⟨b1, o1 + k, none⟩ = some (.int .i64 uu) ∧ W'.cell? ⟨b2, o2 + k, none⟩ = some (.int .i64 vv) ∧ Below wk.heap.size wk W'))
                  have bb0 := hBr
                  clear hcelv1 hcelv2 hIs
                  go_wp2_with fail
                  go_region_held3 (fun w' => w'.cell? ⟨b1, o1 + k, none⟩ = some (.int .i64 uu) ∧ w'.cell? ⟨b2, o2 + k, none⟩ = some (.int .i64 vv) ∧ Below wk.heap.size wk w')
                    (first | assumption | exact SOF.out _ (by assumption) | exact SOF.out _ bb0.drew | exact SOF.out _ (balloc' (by assumption) (Nat.le_refl _) _) | exact SOF.out _ (balloc' (by assumption) (Nat.le_refl _) _).drew)
                    (first
                      | (refine step_append_ints _ (by rfl) _ _ (by rfl) wk.heap.size 0 (.slice As k cs) k _ (by rfl) ((hown.alloc _).drew) (some ⟨wr.heap.size, 0, none⟩) 1 1 (fun _ => ((IntKind.i64.wrap (uu + vv)).tmod 2)) (by rfl) ((IntsAt.one wr 0 ((IntKind.i64.wrap (uu + vv)).tmod 2) 3 (Nat.zero_le _)).drew) (by omega) (by simp; omega) ?_; intro v' w' h1 hb3; have hb4 := (balloc' hBr (Nat.le_refl _) _).drew.trans hb3))
                  have hcell1' := (SOF.out _ hb4).1
                  have hcell2' := (SOF.out _ hb4).2.1
                  have hqt : (IntKind.i64.wrap (uu + vv)).tmod 2 = (uu + vv) % 2 := by
                    rw [IntWalk.i64_in _ (by omega), Int.tmod_eq_emod_of_nonneg (by omega)]
                  have HQT := hide hqt
                  have q2 : IntKind.i64.wrap (dd + (uu + vv) % 2) = dd + (uu + vv) % 2 := IntWalk.i64_in _ (by omega)
                  go_wp2_with fail
                  go_quiet (fail)
                  go_wp2_with fail
                  refine ⟨⟨k + 1, by omega, by simp, by rw [HS.out, HDD.out, HUU.out, HVV.out], OwnInts.drewN (h1.congr (fun j hj => ?_)) _, below_drewN hb4 _⟩, by simp [intOf]; omega⟩
                  unfold catF
                  by_cases e : j < k
                  · rw [if_pos e]
                  · rw [if_neg e, HQT.out, show j = k by omega, HUU.out, HVV.out]
                · obtain rfl : k = N := by omega
                  have hBm := hBk.trans (hBr.mono hBk.size)
                  have bxm := bxk.below hBr
                  have HBoth := hide (hown.ints.weak (Nat.zero_le _))
                  clear hBk bxk HU HV hown hIs
                  obtain ⟨wm, rfl⟩ : ∃ wm : World, wm = wr := ⟨_, rfl⟩
                  obtain ⟨df, hdf⟩ : ∃ df, df = wt k (fun j => (U j + V j) % 2) := ⟨_, rfl⟩
                  rw [← hdf]
                  have HDF := hide hdf
                  clear hdf hBr hBrs
                  have HJm := hide (HJ.out.below hBm)
                  have HKm := hide (HK.out.below hBm)
                  go_wp2_with fail
                  go_loopw [18, 20] (fun x i wr => ∃ k : Nat, k ≤ l ∧ i = .int .i64 k ∧ OwnInts wr wm.heap.size x k (fun j => (B j + Z j) % 2) ∧ Below wm.heap.size wm wr) (fun _ i _ => l - (intOf i).toNat)
                  case atStart => exact ⟨0, Nat.zero_le _, rfl, OwnInts.nil_ _ _ _, Below.refl _ _⟩
                  case round =>
                    obtain ⟨i, hi, rfl, hown, hBr⟩ := hrel
                    obtain ⟨As2, cs2, rfl, hcs2, hIs2⟩ := hown.form
                    have hBrs := hBr.size
                    by_cases hlt2 : i < l
                    · have hltz2 : (i : Int) < (l : Int) := by omega
                      obtain ⟨b1, o1, rfl, -, hb1, hcelv1⟩ := HJm.out i hlt2
                      obtain ⟨b2, o2, rfl, -, hb2, hcelv2⟩ := HKm.out i hlt2
                      have hcell1 := (hBr.cell (p := ⟨b1, o1 + i, none⟩) hb1).trans hcelv1
                      have hcell2 := (hBr.cell (p := ⟨b2, o2 + i, none⟩) hb2).trans hcelv2
                      have hu9 := (hBits.out i hlt2).le
                      have hv9 := (hZits.out i hlt2).le
                      obtain ⟨uu, huu⟩ : ∃ uu, uu = B i := ⟨_, rfl⟩
                      obtain ⟨vv, hvv⟩ : ∃ vv, vv = Z i := ⟨_, rfl⟩
                      rw [← huu] at hu9 hcell1 hcelv1
                      rw [← hvv] at hv9 hcell2 hcelv2
                      have HUU := hide huu
                      have HVV := hide hvv
                      clear huu hvv
                      have SOF := hide (fun W' (h : Below wm.heap.size wm W') => (⟨(h.cell (p := ⟨b1, o1 + i, none⟩) hb1).trans hcelv1, (h.cell (p := ⟨b2, o2 + i, none⟩) hb2).trans hcelv2, h⟩ :
                        W'.cell? ⟨b1, o1 + i, none⟩ = some (.int .i64 uu) ∧ W'.cell? ⟨b2, o2 + i, none⟩ = some (.int .i64 vv) ∧ Below wm.heap.size wm W'))
                      have bb0 := hBr
                      clear hcelv1 hcelv2 hIs2
                      go_wp2_with fail
                      go_region_held3 (fun w' => w'.cell? ⟨b1, o1 + i, none⟩ = some (.int .i64 uu) ∧ w'.cell? ⟨b2, o2 + i, none⟩ = some (.int .i64 vv) ∧ Below wm.heap.size wm w')
                        (first | assumption | exact SOF.out _ (by assumption) | exact SOF.out _ bb0.drew | exact SOF.out _ (balloc' (by assumption) (Nat.le_refl _) _) | exact SOF.out _ (balloc' (by assumption) (Nat.le_refl _) _).drew)
                        (first
                          | (refine step_append_ints _ (by rfl) _ _ (by rfl) wm.heap.size 0 (.slice As2 i cs2) i _ (by rfl) ((hown.alloc _).drew) (some ⟨wr.heap.size, 0, none⟩) 1 1 (fun _ => ((IntKind.i64.wrap (uu + vv)).tmod 2)) (by rfl) ((IntsAt.one wr 0 ((IntKind.i64.wrap (uu + vv)).tmod 2) 3 (Nat.zero_le _)).drew) (by omega) (by simp; omega) ?_; intro v' w' h1 hb3; have hb4 := (balloc' hBr (Nat.le_refl _) _).drew.trans hb3))
                      have hqt : (IntKind.i64.wrap (uu + vv)).tmod 2 = (uu + vv) % 2 := by
                        rw [IntWalk.i64_in _ (by omega), Int.tmod_eq_emod_of_nonneg (by omega)]
                      have HQT := hide hqt
                      go_wp2_with fail
                      refine ⟨⟨i + 1, by omega, by simp, h1.congr (fun j hj => ?_), hb4⟩, by simp [intOf]; omega⟩
                      unfold catF
                      by_cases e : j < i
                      · rw [if_pos e]
                      · rw [if_neg e, HQT.out, show j = i by omega, HUU.out, HVV.out]
                    · obtain rfl : i = l := by omega
                      have hBn := hBm.trans (hBr.mono hBm.size)
                      have bxn := bxm.below hBr
                      have HBoth := hide (HBoth.out.below hBr)
                      have x0 : wr.cell? ⟨w.heap.size, 0, none⟩ = some (.int .i64 (p : Int)) := bxn.at_ 0
                      have x1 : wr.cell? ⟨w.heap.size, 1, none⟩ = some (.slice A i c) := bxn.at_ 1
                      have hltn := bxn.lt
                      have HSum := hide (hown.ints.weak (Nat.zero_le _))
                      clear hown hIs2 hBm bxm HJm HKm hBr hBrs
                      go_wp2_with fail
                      refine (copyPolar_any p A i c F _ (by omega) (HI.out.below hBn)).mono ?_
                      rintro r wo ⟨Ao, co, rfl, hco, hIo, hbo⟩
                      have hBo := hBn.trans (hbo.mono hBn.size)
                      go_wp2_with fail
                      refine (Encode_ok p Ao As2 i co cs2 F (fun j => (B j + Z j) % 2) _ hOk.out (by omega) (hIo.weak (Nat.zero_le _)) (HSum.out.below hbo) (fun j _ => by show IsBit _; unfold IsBit; omega)).mono ?_
                      rintro r wq ⟨vq, rfl, Aq, cq, rfl, hcq, hIq, hbq⟩
                      rw [← hNN.out] at hcq hIq ⊢
                      have hBq := hBo.trans (hbq.mono hBo.size)
                      have HBoth := hide ((HBoth.out.below hbo).below hbq)
                      have HWS := hide (show ∀ j, wordF k (fun x => posF F (fun j => (B j + Z j) % 2) x i) j = (U j + V j) % 2 from fun j => by
                        have h := words_sum (p := p) (n := i) F B Z j
                        rw [← hNN.out, ← HUE.out, ← HVE.out] at h
                        exact h)
                      clear x0 x1 hltn hbo hBo hIo HSum bxn hBn
                      go_wp2_with fail
                      refine (ints_any Aq As k k cq cs _ _ _ (by omega) (by omega) (hIq.weak (Nat.zero_le _)) HBoth.out).mono ?_
                      rintro r w2 ⟨rfl, q5, rfl⟩
                      rw [intsB_iff.2 ⟨rfl, fun j _ => HWS.out j⟩]
                      have hBs := below_drewN hBq q5
                      by_cases he : ∀ x, x < i → B x = Z x
                      · have hd0 : df = 0 := by
                          rw [HDF.out, HUE.out, HVE.out, hNN.out]
                          exact blocks_same he
                        subst hd0
                        go_wp2_with fail
                        refine (ints_any C E i i d e B Z _ (by omega) (by omega) (HJ.out.below hBs) (HK.out.below hBs)).mono ?_
                        rintro r w2 ⟨rfl, q6, rfl⟩
                        rw [intsB_iff.2 ⟨rfl, he⟩]
                        go_wp2_with fail
                        go_ret
                        exact ⟨rfl, below_drewN hBq _⟩
                      · have hdT : T ≤ df := by
                          rw [HDF.out, HUE.out, HVE.out, hNN.out, HT.out]
                          exact blocks_apart hOk.out hBits.out hZits.out HMin.out he
                        have hne : intsB i B i Z = false := by rw [← Bool.not_eq_true, intsB_iff]; exact fun h => he h.2
                        have tdT : decide (T ≤ df) = true := by simpa using hdT
                        go_wp2_with fail
                        refine (ints_any C E i i d e B Z _ (by omega) (by omega) (HJ.out.below hBs) (HK.out.below hBs)).mono ?_
                        rintro r w2 ⟨rfl, q6, rfl⟩
                        rw [hne]
                        go_wp2_with fail
                        refine (ints_any C E i i d e B Z _ (by omega) (by omega) (HJ.out.below (below_drewN hBq _)) (HK.out.below (below_drewN hBq _))).mono ?_
                        rintro r w2 ⟨rfl, q7, rfl⟩
                        rw [hne]
                        go_wp2_with fail
                        go_ret
                        exact ⟨rfl, below_drewN hBq _⟩
            · have t5 : (bitsErrR l Z != 0) = true := by simpa using hcz
              generalize bitsErrR l Z = ce at *
              clear hcz
              go_wp2_with fail
              go_ret
              exact ⟨rfl, below_drewN hB3 _⟩
          · have t4 : (bitsErrR l B != 0) = true := by simpa using hbz
            generalize bitsErrR l B = be at *
            clear hbz
            go_wp2_with fail
            go_ret
            exact ⟨rfl, below_drewN hB3 _⟩
        · have tlm : ((l : Int) != (m : Int)) = true := by simp; omega
          clear hlm
          go_wp2_with fail
          go_ret
          exact ⟨rfl, hB3⟩
      · have tmn : ((m : Int) != (n : Int)) = true := by simp; omega
        clear hmn
        go_wp2_with fail
        go_ret
        exact ⟨rfl, hB3⟩
    · have t3 : (polarErrI p n F != 0) = true := by simpa using hz
      generalize polarErrI p n F = pe at *
      clear hz
      go_wp2_with fail
      go_ret
      exact ⟨rfl, hB3⟩
  · have d66 : decide (n ≤ 66) = false := by simpa using h66
    go_enter Try.func7, Try.ntmps7
    go_wp2_with fail
    refine (awake_any _).mono ?_
    rintro r w1 ⟨rfl, hb1⟩
    have bx1 : Box w1 w.heap.size 51 #[.int .i64 p, .slice A n c] := (Box.made rfl).below hb1
    have hB1 := below_of_alloc hb1
    have x0 : w1.cell? ⟨w.heap.size, 0, none⟩ = some (.int .i64 p) := bx1.at_ 0
    have x1 : w1.cell? ⟨w.heap.size, 1, none⟩ = some (.slice A n c) := bx1.at_ 1
    have hlt1 := bx1.lt
    go_wp2_with fail
    refine (small_any p A n c _ hn).mono ?_
    rintro r w2 ⟨rfl, hb2⟩
    go_wp2_with fail
    go_ret
    exact ⟨rfl, hB1.trans (hb2.mono hB1.size)⟩
end Go.Proofs.Ytdimjagmecnldaa
