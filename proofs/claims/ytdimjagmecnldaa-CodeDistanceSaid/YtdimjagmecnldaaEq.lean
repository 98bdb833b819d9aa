/- FormatBits of both -/
import Derived.Test.YtdimjagmecnldaaCd
import Derived.Laws.IdiomStrings
namespace Go.Proofs.Ytdimjagmecnldaa
open Go.RowKit
def digitB (x : Int) : UInt8 := if x = 0 then 48 else if x = 1 then 49 else 63
def fmtL (n : Nat) (F : Nat → Int) : List UInt8 := (List.range n).map fun j => digitB (F j)
theorem byteInfo : (Try.prog.info? 5).map (fun i => (i.zero, i.size, i.bytes)) = some (some (.int .u8 0), 1, 1) := by kernel_rfl
theorem fmtL_len (n : Nat) (F : Nat → Int) : (fmtL n F).length = n := by simp [fmtL]
theorem fmtL_succ (n : Nat) (F : Nat → Int) : fmtL (n + 1) F = fmtL n F ++ [digitB (F n)] := by simp [fmtL, List.range_succ]
theorem bytes_snoc (L : List UInt8) (x : UInt8) : (⟨L.toArray⟩ : ByteArray) ++ ⟨#[x]⟩ = ⟨(L ++ [x]).toArray⟩ := by
  apply ByteArray.ext
  simp
set_option maxHeartbeats 1000000 in
theorem formatBits_any (A : Option Addr) (n c : Nat) (F : Nat → Int) (w : World) (hn : n ≤ 1000) (hI : IntsAt w 0 A n F) :
    Calls Try.prog 10 #[.slice A n c] w fun e w' => e = .returned (.string ⟨(fmtL n F).toArray⟩) ∧ Below w.heap.size w w' := by
  obtain ⟨i0, hi, hz0, hz1, hz2⟩ := info_parts byteInfo
  have hmk := fun W => run_make_row (P := Try.prog) 69 5 i0 (.int .u8 0) Try.underlying69 hi hz0 hz1 rfl .i64 .i64 n (by rw [hz2]; omega) (by omega) W
  have HI := hide hI
  clear hI
  go_enter Try.func10, Try.ntmps10
  go_wp2_with fail
  clear hmk
  go_loopw [11] (fun i wr => ∃ k : Nat, k ≤ n ∧ i = .int .i64 k ∧ wr.rowIs w.heap.size 5 n (fun x => .int .u8 (if x < k then ((digitB (F x)).toNat : Int) else 0)) ∧ Below w.heap.size w wr) (fun i _ => n - (intOf i).toNat)
  case atStart =>
    exact ⟨0, Nat.zero_le _, rfl, (World.rowIs_made w (.int .u8 0) n 5).congr (fun _ _ => by simp), (Below.refl _ _).alloc (Nat.le_refl _) _⟩
  case round =>
    obtain ⟨k, hk, rfl, hR, hB⟩ := hrel
    by_cases hlt : k < n
    · have hltz : (k : Int) < (n : Int) := by omega
      have hI := HI.out.below hB
      obtain ⟨b, o, rfl, -, hb, hcell⟩ := hI k hlt
      have hc := hR.cell hlt
      have hf := hR.frozen k
      have CG : ∀ (d : UInt8), digitB (F k) = d → ∀ y, y < n → (if y = k then Value.int .u8 ((d.toNat : Nat) : Int) else .int .u8 (if y < k then ((digitB (F y)).toNat : Int) else 0)) = .int .u8 (if y < k + 1 then ((digitB (F y)).toNat : Int) else 0) := fun d hd y _ => by
        by_cases e : y = k
        · subst e
          rw [if_pos rfl, if_pos (Nat.lt_succ_self _), hd]
        · rw [if_neg e]
          by_cases e2 : y < k
          · rw [if_pos e2, if_pos (by omega)]
          · rw [if_neg e2, if_neg (by omega)]
      have HCG := hide CG
      clear CG hI
      by_cases h0 : F k = 0
      · have t1 : (F k == 0) = true := by simpa using h0
        have HD := hide (show digitB (F k) = 48 from if_pos h0)
        clear h0
        go_wp2_with fail
        go_roundw
        case rel => exact ⟨k + 1, by omega, by go_num, (hR.set k _).congr (HCG.out 48 HD.out), hB.setCell (by exact Nat.le_refl _) _⟩
        case measure => simp [intOf]; omega
      · have t1 : (F k == 0) = false := by simpa using h0
        by_cases h1 : F k = 1
        · have t2 : (F k == 1) = true := by simpa using h1
          have HD := hide (show digitB (F k) = 49 from by unfold digitB; rw [if_neg h0, if_pos h1])
          clear h0 h1
          go_wp2_with fail
          go_roundw
          case rel => exact ⟨k + 1, by omega, by go_num, (hR.set k _).congr (HCG.out 49 HD.out), hB.setCell (by exact Nat.le_refl _) _⟩
          case measure => simp [intOf]; omega
        · have t2 : (F k == 1) = false := by simpa using h1
          have HD := hide (show digitB (F k) = 63 from by unfold digitB; rw [if_neg h0, if_neg h1])
          clear h0 h1
          go_wp2_with fail
          go_roundw
          case rel => exact ⟨k + 1, by omega, by go_num, (hR.set k _).congr (HCG.out 63 HD.out), hB.setCell (by exact Nat.le_refl _) _⟩
          case measure => simp [intOf]; omega
    · obtain rfl : k = n := by omega
      have hcv := run_convert_bytes_back (P := Try.prog) wr 69 9 5 ⟨w.heap.size, 0, none⟩ k (fmtL k F) Try.underlying69 Try.underlying5 Try.underlying9 (fun j hj => by
        rw [fmtL_len] at hj
        rw [Addr.add_lit]
        have := hR.cell hj
        rw [if_pos hj] at this
        simp only [Nat.zero_add] at this ⊢
        rw [this]
        simp [fmtL])
      rw [fmtL_len] at hcv
      go_wp2_with fail
      go_ret
      exact ⟨rfl, hB⟩
set_option maxHeartbeats 1000000 in
theorem formatBitsR_any (A : Option Addr) (n c : Nat) (F : Nat → Int) (w : World) (hn : n ≤ 1000) (hI : IntsAt w 0 A n F) :
    Calls Try.prog 14 #[.slice A n c] w fun e w' => e = .returned (.string ⟨(fmtL n F).toArray⟩) ∧ ∃ q, w' = w.drewN q := by
  have HI := hide hI
  clear hI
  go_enter Try.func14, Try.ntmps14
  go_wp2_with fail
  go_loopw [3, 4] (fun t i wr => ∃ k : Nat, k ≤ n ∧ i = .int .i64 k ∧ t = .string ⟨(fmtL k F).toArray⟩ ∧ ∃ q, wr = w.drewN q) (fun _ i _ => n - (intOf i).toNat)
  case atStart => exact ⟨0, Nat.zero_le _, rfl, rfl, 0, rfl⟩
  case round =>
    obtain ⟨k, hk, rfl, rfl, q, rfl⟩ := hrel
    by_cases hlt : k < n
    · have hltz : (k : Int) < (n : Int) := by omega
      obtain ⟨b, o, rfl, -, hb, hcell⟩ := HI.out k hlt
      have hl1 : ¬ 9223372036854775807 < (fmtL k F).length + 1 := by rw [fmtL_len]; omega
      have HS := hide (fmtL_succ k F)
      by_cases h0 : F k = 0
      · have t1 : (F k == 0) = true := by simpa using h0
        have HD := hide (show digitB (F k) = 48 from if_pos h0)
        clear h0
        go_wp2_with fail
        go_roundw
        case rel => exact ⟨k + 1, by omega, by go_num, by rw [bytes_snoc, HS.out, HD.out], q, rfl⟩
        case measure => simp [intOf]; omega
      · have t1 : (F k == 0) = false := by simpa using h0
        by_cases h1 : F k = 1
        · have t2 : (F k == 1) = true := by simpa using h1
          have HD := hide (show digitB (F k) = 49 from by unfold digitB; rw [if_neg h0, if_pos h1])
          clear h0 h1
          go_wp2_with fail
          go_roundw
          case rel => exact ⟨k + 1, by omega, by go_num, by rw [bytes_snoc, HS.out, HD.out], q, rfl⟩
          case measure => simp [intOf]; omega
        · have t2 : (F k == 1) = false := by simpa using h1
          have HD := hide (show digitB (F k) = 63 from by unfold digitB; rw [if_neg h0, if_neg h1])
          clear h0 h1
          go_wp2_with fail
          go_roundw
          case rel => exact ⟨k + 1, by omega, by go_num, by rw [bytes_snoc, HS.out, HD.out], q, rfl⟩
          case measure => simp [intOf]; omega
    · obtain rfl : k = n := by omega
      go_wp2_with fail
      go_ret
      exact ⟨rfl, q, rfl⟩
end Go.Proofs.Ytdimjagmecnldaa
