/- code: isWithin, unless, firstError, maskOf, CheckPoly, countedError. -/
import Derived.Test.YtjelbemfljobaaaCa
import Derived.Test.YtjelbemfljobaaaCm
namespace Go.Proofs.Ytjelbemfljobaaa
open Go.RowKit

def withinB (n lo hi : Int) : Bool := decide (lo ≤ n) && decide (n ≤ hi)
theorem withinB_yes {n lo hi : Int} (h : lo ≤ n ∧ n ≤ hi) : withinB n lo hi = true := by simp [withinB, h.1, h.2]
theorem withinB_no {n lo hi : Int} (h : ¬ (lo ≤ n ∧ n ≤ hi)) : withinB n lo hi = false := by
  cases e : withinB n lo hi with
  | false => rfl
  | true => exact absurd (by simpa [withinB] using e) h

set_option maxHeartbeats 400000 in
theorem isWithin_any (n lo hi : Int) (w : World) :
    Calls Try.prog 80 #[.int .i64 n, .int .i64 lo, .int .i64 hi] w fun e w' => e = .returned (.bool (withinB n lo hi)) ∧ w = w' := by
  go_enter Try.func80, Try.ntmps80
  go_wp2
  · have h : lo ≤ n := by assumption
    go_ret
    exact ⟨ret_bool (by simp [withinB, h]), rfl⟩
  · have h : n < lo := by assumption
    go_ret
    exact ⟨ret_bool (by simp [withinB]; omega), rfl⟩

set_option maxHeartbeats 400000 in
theorem within_any (n lo hi : Int) (w : World) :
    Calls Try.prog 12 #[.int .i64 n, .int .i64 lo, .int .i64 hi] w fun e w' => e = .returned (.bool (withinB n lo hi)) ∧ w = w' := by
  go_enter Try.func12, Try.ntmps12
  go_wp2
  · have h : lo ≤ n := by assumption
    go_ret
    exact ⟨ret_bool (by simp [withinB, h]), rfl⟩
  · have h : n < lo := by assumption
    go_ret
    exact ⟨ret_bool (by simp [withinB]; omega), rfl⟩

def unI (b : Bool) (e : Int) : Int := if b = true then 0 else e
def firstE : List Int → Int
  | [] => 0
  | e :: r => if e = 0 then firstE r else e
theorem firstE_drop {es : List Int} {k : Nat} (h : ∀ j, j < k → es.getD j 0 = 0) : firstE es = firstE (es.drop k) := by
  induction k generalizing es with
  | zero => rfl
  | succ k ih =>
    cases es with
    | nil => rfl
    | cons e r =>
      have h0 : e = 0 := h 0 (by omega)
      rw [firstE, if_pos h0, List.drop_succ_cons]
      exact ih fun j hj => h (j + 1) (by omega)
theorem firstE_at {es : List Int} {k : Nat} (h : ∀ j, j < k → es.getD j 0 = 0) (hk : k < es.length) (hne : es.getD k 0 ≠ 0) : firstE es = es.getD k 0 := by
  rw [firstE_drop h, List.drop_eq_getElem_cons hk, firstE]
  have : es.getD k 0 = es[k] := by simp [hk]
  rw [this] at hne ⊢
  rw [if_neg hne]
theorem firstE_zero : ∀ {es : List Int}, (∀ e ∈ es, e = 0) → firstE es = 0
  | [], _ => rfl
  | e :: r, h => by
    rw [firstE, if_pos (h e List.mem_cons_self)]
    exact firstE_zero fun x hx => h x (List.mem_cons_of_mem _ hx)

set_option maxHeartbeats 400000 in
theorem unless_any (b : Bool) (e : Int) (w : World) :
    Calls Try.prog 59 #[.bool b, .int .i64 e] w fun x w' => x = .returned (.int .i64 (unI b e)) ∧ w = w' := by
  cases b
  all_goals
    go_enter Try.func59, Try.ntmps59
    go_wp2
    go_ret
    exact ⟨rfl, rfl⟩

set_option maxHeartbeats 400000 in
theorem firstError_any (b c : Nat) (es : List Int) (n : Nat) (w : World) (hn : es.length = n) (h9 : n ≤ 100) (hc : ∀ j, j < es.length → w.cell? ⟨b, j, none⟩ = some (.int .i64 (es.getD j 0))) :
    Calls Try.prog 56 #[.slice (some ⟨b, 0, none⟩) n c] w fun x w' => x = .returned (.int .i64 (firstE es)) ∧ w = w' := by
  subst hn
  have h9' : (es.length : Int) ≤ 100 := by omega
  have HC := hide hc
  clear hc
  go_enter Try.func56, Try.ntmps56
  go_wp2_with fail
  go_loop [7] (fun i => ∃ k : Nat, k ≤ es.length ∧ i = .int .i64 k ∧ ∀ j, j < k → es.getD j 0 = 0) (fun i => es.length - (intOf i).toNat)
  case atStart => exact ⟨0, Nat.zero_le _, rfl, fun j h => absurd h (Nat.not_lt_zero _)⟩
  case round =>
    obtain ⟨k, hk, rfl, hz⟩ := hrel
    have HZ := hide hz
    clear hz
    by_cases hlt : k < es.length
    · have hcell := HC.out k hlt
      by_cases he : es.getD k 0 = 0
      · have HE := hide he
        rw [he] at hcell
        clear he
        go_wp2
        go_round
        case rel =>
          exact ⟨k + 1, by omega, by go_num, fun j hj => by
            rcases Nat.lt_or_ge j k with h | h
            · exact HZ.out j h
            · obtain rfl : j = k := by omega
              exact HE.out⟩
        case measure => simp [intOf]; omega
      · have HE := hide (firstE_at HZ.out hlt he)
        have he' : (es.getD k 0 != 0) = true := by simpa using he
        generalize es.getD k 0 = x at *
        clear he
        go_wp2
        go_ret
        exact ⟨ret_int HE.out.symm, rfl⟩
    · obtain rfl : k = es.length := by omega
      have HE := hide (show firstE es = 0 from firstE_zero fun e he => by
        obtain ⟨j, hj, rfl⟩ := List.getElem_of_mem he
        have := HZ.out j hj
        simpa [hj] using this)
      go_wp2
      go_ret
      exact ⟨ret_int HE.out.symm, rfl⟩

theorem firstError_new (es : List Int) (n : Nat) (t : TypeId) (W : World) (hn : es.length = n) (h9 : n ≤ 100) :
    Calls Try.prog 56 #[.slice (some ⟨W.heap.size, 0, none⟩) n n] ((W.alloc (.cells (es.map (Value.int .i64)).toArray t)).drew) fun x w' => x = .returned (.int .i64 (firstE es)) ∧ (W.alloc (.cells (es.map (Value.int .i64)).toArray t)).drew = w' :=
  firstError_any W.heap.size n es n _ hn h9 fun j hj => by
    have hb : Box (W.alloc (.cells (es.map (Value.int .i64)).toArray t)) W.heap.size t (es.map (Value.int .i64)).toArray := Box.made rfl
    have := hb.at_ j
    show (W.alloc (.cells (es.map (Value.int .i64)).toArray t)).cell? _ = _
    rw [this, List.getElem?_toArray, List.getElem?_map, List.getElem?_eq_getElem hj]
    simp [hj]

theorem firstError_laid (es : List Int) (n : Nat) (t : TypeId) (W : World) (hn : es.length = n) (h9 : n ≤ 100) :
    Calls Try.prog 56 #[.slice (some ⟨W.heap.size, 0, none⟩) n n] (W.alloc (.cells (es.map (Value.int .i64)).toArray t)) fun x w' => x = .returned (.int .i64 (firstE es)) ∧ W.alloc (.cells (es.map (Value.int .i64)).toArray t) = w' :=
  firstError_any W.heap.size n es n _ hn h9 fun j hj => by
    have hb : Box (W.alloc (.cells (es.map (Value.int .i64)).toArray t)) W.heap.size t (es.map (Value.int .i64)).toArray := Box.made rfl
    have := hb.at_ j
    rw [this, List.getElem?_toArray, List.getElem?_map, List.getElem?_eq_getElem hj]
    simp [hj]

def polyV (d t : Int) : Value := .agg #[.int .i64 d, .int .i64 t]
def polyErrI (d t : Int) : Int := if 1 ≤ d ∧ d ≤ 16 then (if 1 ≤ t ∧ t ≤ 2 ^ d.toNat - 1 then (if t % 2 = 0 then 3 else 0) else 2) else 2

theorem pow2_le (d : Nat) (h : d ≤ 16) : 1 ≤ (2 : Int) ^ d ∧ (2 : Int) ^ d ≤ 65536 := by
  have h1 : 2 ^ d ≤ 2 ^ 16 := Nat.pow_le_pow_right (by decide) h
  have h0 : 0 < 2 ^ d := Nat.two_pow_pos d
  have e : ((2 ^ d : Nat) : Int) = (2 : Int) ^ d := by simp
  omega

set_option maxHeartbeats 400000 in
theorem maskOf_any (d : Nat) (t : Int) (w : World) (h : d ≤ 16) :
    Calls Try.prog 120 #[.agg #[.int .i64 (d : Int), .int .i64 t]] w fun e w' => e = .returned (.int .i64 (2 ^ d - 1)) ∧ Below w.heap.size w w' := by
  obtain ⟨h1, h2⟩ := pow2_le d h
  go_enter Try.func120, Try.ntmps120
  go_wp2
  go_ret
  exact ⟨rfl, by (repeat (first | (with_reducible exact Below.refl _ _) | (with_reducible refine below_drewN ?_ _) | (with_reducible refine Below.drew ?_) | (with_reducible refine Below.alloc ?_ (by first | exact Nat.le_refl _ | (simp; done) | (simp; omega) | omega) _) | (with_reducible refine Below.setCell ?_ (by first | exact Nat.le_refl _ | (simp; done) | (simp; omega) | omega) _)))⟩

end Go.Proofs.Ytjelbemfljobaaa
