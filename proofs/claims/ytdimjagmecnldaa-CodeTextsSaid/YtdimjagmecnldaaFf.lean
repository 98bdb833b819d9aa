/- CodeTexts: the walk. -/
import Derived.Test.YtdimjagmecnldaaFc
import Derived.Test.YtdimjagmecnldaaFd
import Derived.Test.YtdimjagmecnldaaFe
import Derived.Test.YtdimjagmecnldaaEj
namespace Go.Proofs.Ytdimjagmecnldaa
open Go.RowKit Go.Shelf Go.Lib
set_option maxHeartbeats 4000000 in
set_option maxRecDepth 100000 in
theorem codeTexts_walk (A : Option Addr) (n c : Nat) (F : Nat → Int) (s : ByteArray) (w : World) (hn : n ≤ 9223372036854775807) (hs : s.size ≤ 9223372036854775807) (hI : IntsAt w 0 A n F) :
    Calls Try.prog 3 #[.slice A n c, .string s] w fun e w' => e = .returned (.bool true) ∧ Below w.heap.size w w' := by
  have HI := hide hI
  clear hI
  by_cases h1 : 210 < n
  · have d1 : decide ((210 : Int) < (n : Int)) = true := by simp; omega
    go_enter Try.func3, Try.ntmps3
    go_wp2_with (go_at_call 9; refine (awake_any _).mono ?_; rintro e w1 ⟨rfl, hb1⟩)
    go_ret
    exact ⟨rfl, hb1⟩
  · by_cases h2 : 210 < s.size
    · have d1 : decide ((210 : Int) < (n : Int)) = false := by simp; omega
      have d2 : decide ((210 : Int) < (s.size : Int)) = true := by simp; omega
      go_enter Try.func3, Try.ntmps3
      go_wp2_with (go_at_call 9; refine (awake_any _).mono ?_; rintro e w1 ⟨rfl, hb1⟩)
      go_ret
      exact ⟨rfl, hb1⟩
    · have d1 : decide ((210 : Int) < (n : Int)) = false := by simp; omega
      have d2 : decide ((210 : Int) < (s.size : Int)) = false := by simp; omega
      go_enter Try.func3, Try.ntmps3
      go_wp2_with fail
      refine (awake_any _).mono ?_
      rintro e w1 ⟨rfl, hb1⟩
      have hn2 : n ≤ 210 := by omega
      have hs2 : s.size ≤ 210 := by omega
      clear h1 h2
      go_wp2_with fail
      refine (copyInts_any A n c F _ (by omega) (HI.out.below hb1)).mono ?_
      rintro e w2 ⟨v2, rfl, A2, c2, rfl, hc2, hI2, hb2⟩
      go_wp2_with fail
      refine (formatBits_any A2 n c2 F _ (by omega) (hI2.weak (Nat.zero_le _))).mono ?_
      rintro e w3 ⟨rfl, hb3⟩
      have hB3 : Below w.heap.size w w3 := (hb1.trans (hb2.mono hb1.size)).trans (hb3.mono (Nat.le_trans hb1.size hb2.size))
      clear hb1 hb2 hb3 hI2
      go_wp2_with fail
      refine (parseBits_any s _ (by omega)).mono ?_
      rintro e w4 ⟨v4, rfl, A4, c4, rfl, hc4, hI4, hb4⟩
      have hB4 : Below w.heap.size w w4 := hB3.trans (hb4.mono hB3.size)
      clear hb4
      go_wp2_with fail
      refine (parseBitsR_any s _ (by omega)).mono ?_
      rintro e w5 ⟨v5, rfl, A5, c5, rfl, hc5, hI5, hb5⟩
      have hB5 : Below w.heap.size w w5 := hB4.trans (hb5.mono hB4.size)
      have hJ5 := hI4.below hb5
      clear hb5 hI4 hB4 hB3
      have hpl : parseLen s ≤ 210 := by unfold parseLen; split <;> omega
      generalize parseErr s = er at *
      go_wp2_with fail
      refine (formatBitsR_any A n c F _ (by omega) (HI.out.below hB5)).mono ?_
      rintro e w6 ⟨rfl, q6, rfl⟩
      go_wp2_with fail
      refine (ints_any A4 A5 (parseLen s) (parseLen s) c4 c5 (textBit s) (textBit s) _ (by omega) (by omega) ((hJ5.weak (Nat.zero_le _)).drewN q6) ((hI5.weak (Nat.zero_le _)).drewN q6)).mono ?_
      rintro e w7 ⟨rfl, q7, hw7⟩
      rw [intsB_iff.2 ⟨rfl, fun _ _ => rfl⟩]
      have hB7 : Below w.heap.size w w7 := by rw [hw7]; exact below_drewN (below_drewN hB5 q6) q7
      clear hw7 hJ5 hI5 hB5
      go_wp2_with fail
      refine (areBitsB_any A n c F _ (by omega) (HI.out.below hB7)).mono ?_
      rintro e w8 ⟨rfl, q8, hw8⟩
      have hB8 : Below w.heap.size w w8 := by rw [hw8]; exact below_drewN hB7 q8
      clear hw8 hB7
      cases hb : bitsB n F
      · go_wp2_with fail
        go_ret
        exact ⟨rfl, hB8⟩
      · have HBT := hide (bitsB_iff.1 hb)
        clear hb
        by_cases h200 : 200 < n
        · have d3 : decide ((200 : Int) < (n : Int)) = true := by simp; omega
          go_wp2_with fail
          go_ret
          exact ⟨rfl, hB8⟩
        · have d3 : decide ((200 : Int) < (n : Int)) = false := by simp; omega
          have HPF := hide (parse_fmt (show n ≤ 200 by omega) HBT.out)
          clear h200
          go_wp2_with fail
          refine (parseBits_any ⟨(fmtL n F).toArray⟩ _ (by rw [size_fmt]; omega)).mono ?_
          rw [HPF.out.1, HPF.out.2.1]
          rintro e w9 ⟨v9, rfl, A9, c9, rfl, hc9, hI9, hb9⟩
          have hB9 : Below w.heap.size w w9 := hB8.trans (hb9.mono hB8.size)
          go_wp2_with fail
          refine (ints_any A9 A n n c9 c _ F _ (by omega) (by omega) (hI9.weak (Nat.zero_le _)) (HI.out.below hB9)).mono ?_
          rintro e wa ⟨rfl, qa, hwa⟩
          rw [intsB_iff.2 ⟨rfl, HPF.out.2.2⟩]
          have hBa : Below w.heap.size w wa := by rw [hwa]; exact below_drewN hB9 qa
          clear hwa
          go_wp2_with fail
          go_ret
          exact ⟨rfl, hBa⟩
end Go.Proofs.Ytdimjagmecnldaa
