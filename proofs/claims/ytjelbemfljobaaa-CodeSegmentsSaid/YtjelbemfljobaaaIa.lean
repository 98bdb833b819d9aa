/- Zeros of a make, appended to a row of one's own. -/
import Derived.Test.YtjelbemfljobaaaHe
import Derived.Lib.AppendZerosOnto
namespace Go.Proofs.Ytjelbemfljobaaa
open Go.RowKit Go.Lib
theorem zeroCells_ints (k : Nat) : (Builtin.zeroCells (Value.int .i64 0).cells k).toList = intCells k (fun _ => 0) := by
  apply List.ext_getElem?
  intro j
  rw [intCells_get]
  have hs : (Value.int .i64 0).cells.size = 1 := rfl
  have hz : (Value.int .i64 0).cells = #[.int .i64 0] := rfl
  by_cases hj : j < k
  · rw [if_pos hj]
    simp [Builtin.zeroCells, hz, hj, Nat.mod_one]
  · rw [if_neg hj]
    simp [Builtin.zeroCells, hz, hj]
set_option maxHeartbeats 1000000 in
theorem run_append_zero_ints (w : World) (ty : TypeId) (base : Nat) (v : Value) (n : Nat) (F : Nat → Int) (hown : OwnInts w base v n F) (hn : 0 < n) (k : Nat) (hk : 0 < k) (hnk : n + k ≤ 1000000000) (hbase : base ≤ w.heap.size) :
    ∃ v' w', (Builtin.append_ #[24, 3] ty #[v, .int .i64 (k : Int)]).run Try.prog w = .ok v' w' ∧ OwnInts w' base v' (n + k) (catF n F (fun _ => 0)) ∧ Below base w w' := by
  obtain ⟨i0, hi, hz0, hz1, hz2⟩ := info_parts intInfo
  rcases hown.2 with ⟨-, h0⟩ | ⟨g, cap, cur, rfl, hbg, hg, hnc, hcm, hcs, htake⟩
  · omega
  · rw [Nat.mul_one] at hcs htake
    have hnk0 : k ≠ 0 := by omega
    by_cases hroom : n + k ≤ cap
    · have hst := run_storeCells_at (P := Try.prog) g n 3 (intCells k (fun _ => 0)) 0 cur w hg (by rw [intCells_len]; omega) (fun u hu => by
        obtain ⟨j, -, rfl⟩ := List.mem_map.1 hu
        rfl)
      have hw : IntKind.i64.wrap (k : Int) = k := by rw [IntKind.wrap_i64]; omega
      have h48i : ¬ (281474976710656 < (k : Int) * 8) := by omega
      have hneg : ¬ ((k : Int) < 0) := by omega
      have hzz := zeroCells_ints k
      have hrun : (Builtin.append_ #[24, 3] ty #[.slice (some ⟨g, 0, none⟩) n cap, .int .i64 (k : Int)]).run Try.prog w = .ok (.slice (some ⟨g, 0, none⟩) (n + k) cap) (w.setRow g (cur.toList.take n ++ intCells k (fun _ => 0) ++ cur.toList.drop (n + k)).toArray) := by
        rw [Nat.add_zero, intCells_len] at hst
        simp [Builtin.append_, run_underlying Try.underlying24, run_underlying Try.underlying3, sizeOf, typeInfo, zeroValue, hi, hz0, hz1, hz2, asInt, asIntOf, hw, hroom, hneg, hnk0, h48i, hzz, Addr.add_lit, hst]
      refine ⟨_, _, hrun, ⟨by rw [intCells_len, Nat.mul_one], .inr ⟨g, cap, _, rfl, hbg, setRow_heap w g cur _ 3 _ hg, hroom, hcm, ?_, ?_⟩⟩, (Below.refl _ _).grown (row := some g) ⟨rfl, rfl, rfl, by simp, fun k _ hk => setRow_other w g k _ (fun e => hk (by simp [e]))⟩ hbase (fun k hk => by injection hk with hk; omega)⟩
      · rw [htake]
        simp only [List.size_toArray, List.length_append, intCells_len, List.length_drop, Array.length_toList]
        omega
      · rw [htake, intCells_cat, Nat.mul_one]
        exact List.take_left' (by rw [intCells_len])
    · have hold := run_firstCells_some (P := Try.prog) w.drew i0.size n ⟨g, 0, none⟩ n cap (intCells n F) (by rw [intCells_len, hz1, Nat.mul_one]) (fun j u hu => World.ownsRow.cells hown (g := g) rfl j u hu)
      have hrun := run_append_grow_zeros (P := Try.prog) w 24 3 ty 3 i0 (.int .i64 0) .i64 .i64 Try.underlying24 Try.underlying3 hi hz0 (some ⟨g, 0, none⟩) n cap (intCells n F) hold k hk (by omega) (by omega) (by omega) (by rw [hz2]; omega) (growslice_fits (by omega) (by rw [hz2]; omega))
      have hge := grownCap_ge w (n + k) cap 3
      have hle := grownCap_le_maxLen w (n + k) cap 3 (by unfold maxLen; omega)
      refine ⟨_, _, hrun, ⟨by rw [intCells_len, Nat.mul_one], .inr ⟨w.heap.size, _, _, rfl, hbase, heap_alloc_new w.drew _, hge, hle, ?_, ?_⟩⟩, ((Below.refl _ _).drew).alloc hbase _⟩
      · simp only [Array.size_append, List.size_toArray, size_zeroCells, intCells_len]
        show n + k * 1 + _ * 1 = _
        omega
      · simp only [Array.toList_append, zeroCells_ints]
        rw [intCells_cat, Nat.mul_one]
        exact List.take_left' (by rw [intCells_len])
theorem step_append_zeros {ops : Array Oper} {o : Oper} {a : Act} {K : Act → World → Prop} {Q : Exit → Act → World → Prop} {E : Prop} (w : World) (hgd : o.guard = none) (s x : Operand)
    (ho : o.op = .call { callee := .builtin .append, args := #[s, x], argTypes := #[24, 3] })
    (base : Nat) (v : Value) (n : Nat) (F : Nat → Int) (hs : a.eval s = v) (hown : OwnInts w base v n F) (hn : 0 < n)
    (k : Nat) (hx : a.eval x = .int .i64 (k : Int)) (hk : 0 < k) (hnk : n + k ≤ 1000000000) (hbase : base ≤ w.heap.size)
    (h : ∀ v' w', OwnInts w' base v' (n + k) (catF n F (fun _ => 0)) → Below base w w' → K (a.put o.dst v') w') :
    if Region.wanted o (yielded ops a.tmps) = true then Oper.wp Try.prog o a w K Q else E := by
  have hw : Region.wanted o (yielded ops a.tmps) = true := by simp [Region.wanted, hgd]
  rw [if_pos hw]
  obtain ⟨v', w', hrun, h1, h2⟩ := run_append_zero_ints w o.type base v n F hown hn k hk hnk hbase
  unfold Oper.wp execOp
  simp only [ho, resolve, invoke, builtin, Sem.run_bind, Sem.run_pure, Result.andThen_ok, List.map_toArray, List.map_cons, List.map_nil, hs, hx, hrun]
  exact h v' w' h1 h2
end Go.Proofs.Ytjelbemfljobaaa
