/- AreBits -/
import Derived.Test.YtdimjagmecnldaaCd
import Derived.Test.YtdimjagmecnldaaEq
import Derived.Test.YtdimjagmecnldaaEp
namespace Go.Proofs.Ytdimjagmecnldaa
open Go.RowKit
set_option maxHeartbeats 1000000 in
theorem areBitsB_any (A : Option Addr) (n c : Nat) (F : Nat → Int) (w : World) (hn : n ≤ 100000) (hI : IntsAt w 0 A n F) :
    Calls Try.prog 16 #[.slice A n c] w fun e w' => e = .returned (.bool (bitsB n F)) ∧ ∃ q, w' = w.drewN q := by
  have HI := hide hI
  clear hI
  go_enter Try.func16, Try.ntmps16
  go_wp2_with fail
  go_loopw [3] (fun i wr => ∃ k q : Nat, k ≤ n ∧ i = .int .i64 k ∧ wr = w.drewN q ∧ Hid (∀ j, j < k → IsBit (F j))) (fun i _ => n - (intOf i).toNat)
  case atStart => exact ⟨0, 0, Nat.zero_le _, rfl, rfl, hide fun j h => absurd h (Nat.not_lt_zero _)⟩
  case round =>
    obtain ⟨k, q, hk, rfl, rfl, HZ⟩ := hrel
    by_cases hlt : k < n
    · have hltz : (k : Int) < (n : Int) := by omega
      obtain ⟨b, o, rfl, -, hb, hcell⟩ := HI.out k hlt
      by_cases h0 : F k = 0
      · have t1 : (F k != 0) = false := by simpa using h0
        have HB := hide (show IsBit (F k) from .inl h0)
        clear h0
        go_wp2_with fail
        go_roundw
        case rel => exact ⟨k + 1, q, by omega, by go_num, rfl, hide fun j hj => (by
          rcases Nat.lt_or_ge j k with h | h
          · exact HZ.out j h
          · obtain rfl : j = k := by omega
            exact HB.out)⟩
        case measure => simp [intOf]; omega
      · have t1 : (F k != 0) = true := by simpa using h0
        by_cases h1 : F k = 1
        · have t2 : (F k != 1) = false := by simpa using h1
          have HB := hide (show IsBit (F k) from .inr h1)
          clear h0 h1
          go_wp2_with fail
          go_roundw
          case rel => exact ⟨k + 1, q, by omega, by go_num, rfl, hide fun j hj => (by
            rcases Nat.lt_or_ge j k with h | h
            · exact HZ.out j h
            · obtain rfl : j = k := by omega
              exact HB.out)⟩
          case measure => simp [intOf]; omega
        · have t2 : (F k != 1) = true := by simpa using h1
          have HB := hide (show bitsB n F = false from by
            rw [← Bool.not_eq_true, bitsB_iff]
            intro h
            have := h k hlt
            unfold IsBit at this
            omega)
          clear h0 h1
          go_wp2_with fail
          go_ret
          exact ⟨ret_bool HB.out.symm, q, rfl⟩
    · obtain rfl : k = n := by omega
      go_wp2_with fail
      go_ret
      exact ⟨ret_bool (bitsB_iff.2 HZ.out).symm, q, rfl⟩

theorem byteN_fmt (n : Nat) (F : Nat → Int) (j : Nat) (hj : j < n) : byteN ⟨(fmtL n F).toArray⟩ j = (digitB (F j)).toNat := by
  have h : j < (⟨(fmtL n F).toArray⟩ : ByteArray).size := by simpa [ByteArray.size, fmtL_len] using hj
  rw [byteN_at h]
  have e : (⟨(fmtL n F).toArray⟩ : ByteArray)[j] = (fmtL n F)[j]'(by rw [fmtL_len]; exact hj) := rfl
  rw [e]
  simp [fmtL]
theorem size_fmt (n : Nat) (F : Nat → Int) : (⟨(fmtL n F).toArray⟩ : ByteArray).size = n := by simp [ByteArray.size, fmtL_len]
theorem parse_fmt {n : Nat} {F : Nat → Int} (hn : n ≤ 200) (hb : ∀ k, k < n → IsBit (F k)) : parseErr ⟨(fmtL n F).toArray⟩ = 0 ∧ parseLen ⟨(fmtL n F).toArray⟩ = n ∧ ∀ j, j < n → textBit ⟨(fmtL n F).toArray⟩ j = F j := by
  have hok : okText ⟨(fmtL n F).toArray⟩ = true := okText_iff.2 fun j hj => by
    rw [size_fmt] at hj
    rw [byteN_fmt n F j hj]
    rcases hb j hj with h | h <;> rw [h] <;> rfl
  have e : parseErr ⟨(fmtL n F).toArray⟩ = 0 := by
    unfold parseErr
    rw [if_neg (by rw [size_fmt]; omega), if_pos hok]
  refine ⟨e, by unfold parseLen; rw [if_pos e, size_fmt], fun j hj => ?_⟩
  unfold textBit
  rw [byteN_fmt n F j hj]
  rcases hb j hj with h | h <;> rw [h] <;> rfl
end Go.Proofs.Ytdimjagmecnldaa
