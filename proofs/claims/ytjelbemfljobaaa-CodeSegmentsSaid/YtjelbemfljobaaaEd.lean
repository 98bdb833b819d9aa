/- exploring: wordOf -/
import Derived.Test.YtjelbemfljobaaaCb
namespace Go.Proofs.Ytjelbemfljobaaa
open Go.RowKit
theorem intInfo' : (Try.prog.info? 3).map (fun i => (i.zero, i.size, i.bytes)) = some (some (.int .i64 0), 1, 8) := by kernel_rfl
set_option maxHeartbeats 1000000 in
theorem wordOf_any (A : Option Addr) (n c : Nat) (U : Nat → Int) (w : World) (hn : n ≤ 1000) (hU : IntsAt w 0 A n U) (hb : ∀ k, k < n → IsBit (U k)) :
    Calls Try.prog 103 #[.slice A n c] w fun e w' => ∃ v, e = .returned v ∧ GaveInts w n (wordF n U) v w' := by
  obtain ⟨i0, hi, hz0, hz1, hz2⟩ := info_parts intInfo'
  have hmk := fun W => run_make_row (P := Try.prog) 24 3 i0 (.int .i64 0) Try.underlying24 hi hz0 hz1 rfl .i64 .i64 n (by rw [hz2]; omega) (by omega) W
  have HU := hide hU
  have HB := hide hb
  clear hU hb hi hz0 hz1 hz2
  go_enter Try.func103, Try.ntmps103
  go_wp2_with fail
  clear hmk
  go_loopw [12] (fun i wr => ∃ k : Nat, k ≤ n ∧ i = .int .i64 k ∧ wr.rowIs w.heap.size 3 n (fun x => .int .i64 (if x < k then wordF n U x else 0)) ∧ Below w.heap.size w wr) (fun i _ => n - (intOf i).toNat)
  case atStart =>
    exact ⟨0, Nat.zero_le _, rfl, (World.rowIs_made w (.int .i64 0) n 3).congr (fun j _ => by simp), (Below.refl _ _).alloc (Nat.le_refl _) _⟩
  case round =>
    obtain ⟨k, hk, rfl, hR, hBl⟩ := hrel
    by_cases hlt : k < n
    · have hltz : (k : Int) < (n : Int) := by omega
      go_wp2_with fail
      obtain ⟨wo, hwo⟩ : ∃ wo : World, wo = wr := ⟨_, rfl⟩
      clear hwo
      go_loopw [17] (fun i wr => ∃ m : Nat, m ≤ n ∧ i = .int .i64 m ∧ wr.rowIs w.heap.size 3 n (fun x => .int .i64 (if x = k then wsum U k m else if x < k then wordF n U x else 0)) ∧ Below w.heap.size w wr) (fun i _ => n - (intOf i).toNat)
      case atStart => exact ⟨0, Nat.zero_le _, rfl, hR.congr (fun j _ => by by_cases e : j = k <;> simp [e, wsum]), hBl⟩
      case round =>
        obtain ⟨m, hm, rfl, hS, hBm⟩ := hrel
        by_cases hlm : m < n
        · have hltm : (m : Int) < (n : Int) := by omega
          have hI := HU.out.below (by exact hBm)
          obtain ⟨b, o, rfl, -, hb, hcell⟩ := hI m hlm
          have hc := hS.cell hlt
          have hf := hS.frozen k
          have hand := andI m k (by omega) (by omega)
          by_cases hmk : m &&& k = k
          · have e1 : (m &&& k == k) = true := by simpa using hmk
            have HW := hide (show wsum U k (m + 1) = bits .xor .i64 (wsum U k m) (U m) from by rw [wsum, if_pos hmk, xor1_bits (wsum_bit U k m) (HB.out m hlm)])
            clear hmk
            go_wp2_with fail
            go_roundw
            case rel =>
              exact ⟨m + 1, by omega, by go_num, (hS.set k _).congr (fun x _ => by
                by_cases e : x = k
                · rw [if_pos e, if_pos e, HW.out]
                · rw [if_neg e, if_neg e, if_neg e]), hBm.setCell (by exact Nat.le_refl _) _⟩
            case measure => simp [intOf]; omega
          · have e1 : (m &&& k == k) = false := by simpa using hmk
            have HW := hide (show wsum U k (m + 1) = wsum U k m from by rw [wsum, if_neg hmk])
            clear hmk
            go_wp2_with fail
            go_roundw
            case rel =>
              exact ⟨m + 1, by omega, by go_num, hS.congr (fun x _ => by rw [HW.out]), hBm⟩
            case measure => simp [intOf]; omega
        · obtain rfl : m = n := by omega
          go_wp2_with fail
          go_roundw
          case rel =>
            exact ⟨k + 1, by omega, by go_num, hS.congr (fun x _ => by
              by_cases e : x = k
              · subst e
                rw [if_pos rfl, if_pos (Nat.lt_succ_self _)]; rfl
              · rw [if_neg e]
                by_cases e2 : x < k
                · rw [if_pos e2, if_pos (by omega)]
                · rw [if_neg e2, if_neg (by omega)]), hBm⟩
          case measure => simp [intOf]; omega
    · obtain rfl : k = n := by omega
      go_wp2_with fail
      go_ret
      exact ⟨_, rfl, GaveInts.of_row (hR.congr (fun j hj => by rw [if_pos hj])) (Nat.le_refl _) hBl⟩
end Go.Proofs.Ytjelbemfljobaaa
