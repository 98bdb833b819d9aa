/- Lists of lists of numbers: read, made by appending, copied, compared. -/
import Derived.Test.YtjelbemfljobaaaHe
import Derived.Test.YtjelbemfljobaaaId
namespace Go.Proofs.Ytjelbemfljobaaa
open Go.RowKit Go.Shelf
/-- A slice of n slices; the slice i has L i numbers F i. -/
def ListsAt (w : World) (lo : Nat) (A : Option Addr) (n : Nat) (L : Nat → Nat) (F : Nat → Nat → Int) : Prop :=
  ∀ i, i < n → ∃ b o Ai ci, A = some ⟨b, o, none⟩ ∧ lo ≤ b ∧ b < w.heap.size ∧ w.cell? ⟨b, o + i, none⟩ = some (.slice Ai (L i) ci) ∧ L i ≤ ci ∧ ci ≤ 9223372036854775807 ∧ IntsAt w lo Ai (L i) (F i)
section
variable {w w' : World} {lo n : Nat} {A : Option Addr} {L : Nat → Nat} {F : Nat → Nat → Int}
theorem ListsAt.nil_ : ListsAt w lo A 0 L F := fun i h => absurd h (Nat.not_lt_zero i)
theorem ListsAt.below (h : ListsAt w lo A n L F) (hb : Below w.heap.size w w') : ListsAt w' lo A n L F := fun i hi => by
  obtain ⟨b, o, Ai, ci, e, h1, h2, h3, h4, h5, h6⟩ := h i hi
  exact ⟨b, o, Ai, ci, e, h1, Nat.lt_of_lt_of_le h2 hb.size, (hb.cell (p := ⟨b, o + i, none⟩) h2).trans h3, h4, h5, h6.below hb⟩
theorem ListsAt.alloc (h : ListsAt w lo A n L F) (x : Obj) : ListsAt (w.alloc x) lo A n L F := h.below ((Below.refl _ _).alloc (Nat.le_refl _) _)
theorem ListsAt.drewN (h : ListsAt w lo A n L F) (m : Nat) : ListsAt (w.drewN m) lo A n L F := h
theorem ListsAt.weak {lo' : Nat} (h : ListsAt w lo A n L F) (hl : lo' ≤ lo) : ListsAt w lo' A n L F := fun i hi => by
  obtain ⟨b, o, Ai, ci, e, h1, h2, h3, h4, h5, h6⟩ := h i hi
  exact ⟨b, o, Ai, ci, e, Nat.le_trans hl h1, h2, h3, h4, h5, h6.weak hl⟩
theorem IntsAt.block {b o k : Nat} {G : Nat → Int} (h : IntsAt w lo (some ⟨b, o, none⟩) n G) (hk : k < n) : lo ≤ b ∧ b < w.heap.size := by
  obtain ⟨b', o', e, h1, h2, -⟩ := h k hk
  injection e with e; injection e with e1 e2; subst e1
  exact ⟨h1, h2⟩
end
theorem OwnInts.block {w : World} {base n c b o : Nat} {m : Option Nat} {F : Nat → Int} (h : OwnInts w base (.slice (some ⟨b, o, none⟩) n c) n F) : base ≤ b ∧ b < w.heap.size := by
  rcases h.2 with ⟨h1, -⟩ | ⟨g, cap, cur, h1, hb, hg, -⟩
  · simp at h1
  · injection h1 with e1; injection e1 with e1; injection e1 with e1; subst e1
    exact ⟨hb, (Array.getElem?_eq_some_iff.1 hg).1⟩
/-- A slice of slices of the call's own: its row, and rows of numbers in other blocks. -/
def OwnLists (w : World) (base : Nat) (v : Value) (n : Nat) (L : Nat → Nat) (F : Nat → Nat → Int) : Prop :=
  ∃ xs : List Value, w.ownsRow base 24 1 v n xs ∧ ∀ i, i < n → ∃ Ai ci, xs[i]? = some (.slice Ai (L i) ci) ∧ L i ≤ ci ∧ ci ≤ 9223372036854775807 ∧ IntsAt w base Ai (L i) (F i) ∧ ∀ b o, Ai = some ⟨b, o, none⟩ → v.ownBlock ≠ some b ∧ b < w.heap.size
section
variable {w w' : World} {base n : Nat} {v : Value} {L : Nat → Nat} {F : Nat → Nat → Int}
theorem OwnLists.nil_ (w : World) (base : Nat) (L : Nat → Nat) (F : Nat → Nat → Int) : OwnLists w base (.slice none 0 0) 0 L F := ⟨[], World.ownsRow_nil _ _ _ _, fun i h => absurd h (Nat.not_lt_zero i)⟩
theorem OwnLists.below (h : OwnLists w base v n L F) (hb : Below w.heap.size w w') : OwnLists w' base v n L F := by
  obtain ⟨xs, h1, h2⟩ := h
  refine ⟨xs, World.ownsRow.kept h1 (row := none) ⟨hb.os, hb.tape, hb.output, hb.size, fun k hk _ => hb.block k hk⟩ (by cases v.ownBlock <;> simp), fun i hi => ?_⟩
  obtain ⟨Ai, ci, e, h3, h4, h5, h6⟩ := h2 i hi
  exact ⟨Ai, ci, e, h3, h4, h5.below hb, fun b o e => ⟨(h6 b o e).1, Nat.lt_of_lt_of_le (h6 b o e).2 hb.size⟩⟩
theorem OwnLists.alloc (h : OwnLists w base v n L F) (o : Obj) : OwnLists (w.alloc o) base v n L F := h.below ((Below.refl _ _).alloc (Nat.le_refl _) _)
theorem OwnLists.drew (h : OwnLists w base v n L F) : OwnLists w.drew base v n L F := h
theorem OwnLists.drewN (h : OwnLists w base v n L F) (q : Nat) : OwnLists (w.drewN q) base v n L F := h
theorem OwnLists.congr {L' : Nat → Nat} {F' : Nat → Nat → Int} (h : OwnLists w base v n L F) (e : ∀ i, i < n → L i = L' i ∧ ∀ k, k < L i → F i k = F' i k) : OwnLists w base v n L' F' := by
  obtain ⟨xs, h1, h2⟩ := h
  refine ⟨xs, h1, fun i hi => ?_⟩
  obtain ⟨Ai, ci, g, h3, h4, h5, h6⟩ := h2 i hi
  obtain ⟨e1, e2⟩ := e i hi
  exact ⟨Ai, ci, by rw [← e1]; exact g, by omega, h4, by rw [← e1]; exact h5.congr e2, h6⟩
theorem OwnLists.form (h : OwnLists w base v n L F) : ∃ A c, v = .slice A n c ∧ n ≤ c ∧ c ≤ 9223372036854775807 ∧ ListsAt w base A n L F := by
  obtain ⟨xs, h1, h2⟩ := h
  have hm9 : maxLen ≤ 9223372036854775807 := by decide
  rcases h1.2 with ⟨rfl, rfl⟩ | ⟨g, cap, cur, rfl, hb, hg, hnc, hm, -⟩
  · exact ⟨_, _, rfl, Nat.le_refl _, by decide, ListsAt.nil_⟩
  · refine ⟨_, _, rfl, hnc, by omega, fun i hi => ?_⟩
    obtain ⟨Ai, ci, e, h3, h4, h5, h6⟩ := h2 i hi
    have hc := World.ownsRow.cells h1 (g := g) rfl i _ e
    rw [Addr.add_lit] at hc
    exact ⟨g, 0, Ai, ci, rfl, hb, (Array.getElem?_eq_some_iff.1 hg).1, hc, h3, h4, h5⟩
theorem OwnLists.lt (h : OwnLists w base v n L F) {k : Nat} (hk : v.ownBlock = some k) : base ≤ k ∧ k < w.heap.size := by
  obtain ⟨xs, h1, -⟩ := h
  exact World.ownsRow.lt h1 k hk
end
theorem IntsAt.grown {w w' : World} {lo n : Nat} {A : Option Addr} {G : Nat → Int} {row : Option Nat} (h : IntsAt w lo A n G) (hg : w.grownBy w' row) (ha : ∀ b o, A = some ⟨b, o, none⟩ → row ≠ some b) : IntsAt w' lo A n G := fun k hk => by
  obtain ⟨b, o, e, h1, h2, h3⟩ := h k hk
  exact ⟨b, o, e, h1, Nat.lt_of_lt_of_le h2 hg.size, (World.cell?_of_block (a := ⟨b, o + k, none⟩) (hg.block b h2 (fun x => ha b o e x.symm))).trans h3⟩
def snocN (n : Nat) (L : Nat → Nat) (m : Nat) (i : Nat) : Nat := if i < n then L i else m
def snocF (n : Nat) (F : Nat → Nat → Int) (G : Nat → Int) (i : Nat) : Nat → Int := if i < n then F i else G
theorem listInfo : (Try.prog.info? 24).map (fun i => (i.zero, i.size, i.bytes)) = some (some (.slice none 0 0), 1, 24) := by kernel_rfl
set_option maxRecDepth 100000 in
theorem run_append_list (w : World) (ty : TypeId) (base : Nat) (v : Value) (n : Nat) (L : Nat → Nat) (F : Nat → Nat → Int) (hown : OwnLists w base v n L F)
    (g1 : Nat) (A : Option Addr) (m c : Nat) (G : Nat → Int) (hc : w.cell? ⟨g1, 0, none⟩ = some (.slice A m c)) (hmc : m ≤ c) (hc9 : c ≤ 9223372036854775807) (hr : IntsAt w base A m G) (ha : ∀ b o, A = some ⟨b, o, none⟩ → v.ownBlock ≠ some b ∧ b < w.heap.size) (hn : n ≤ 1000000) (hbase : base ≤ w.heap.size) :
    ∃ v' w', (Builtin.append_ #[68, 68] ty #[v, .slice (some ⟨g1, 0, none⟩) 1 1]).run Try.prog w = .ok v' w' ∧ OwnLists w' base v' (n + 1) (snocN n L m) (snocF n F G) ∧ Below base w w' ∧ w.grownBy w' v.ownBlock := by
  obtain ⟨i0, hi, hz0, hz1, hz2⟩ := info_parts listInfo
  obtain ⟨xs, h1, h2⟩ := hown
  have hlen : xs.length = n := by rw [h1.1, Nat.mul_one]
  obtain ⟨v', w', hrun, hown', hg, -, hblk⟩ := run_append_own_at (P := Try.prog) w base 68 ty 24 i0 (.slice none 0 0) 1 24 Try.underlying68 hi hz0 hz1 hz2 rfl (by decide) v n xs h1 ⟨g1, 0, none⟩ 1 1 [.slice A m c] rfl
    (fun j u hu => by
      match j, hu with
      | 0, hu =>
        simp at hu
        subst hu
        exact hc
      | j + 1, hu => simp at hu)
    (fun u hu => by
      simp at hu
      subst hu
      rfl) (by unfold maxLen; omega) (by omega) hbase
  have hb : Below base w w' := (Below.refl _ _).grown hg hbase (fun k hk => (World.ownsRow.lt h1 k hk).1)
  refine ⟨v', w', hrun, ⟨_, hown', fun i hi => ?_⟩, hb, hg⟩
  have apart : ∀ (B : Option Addr), (∀ b o, B = some ⟨b, o, none⟩ → v.ownBlock ≠ some b ∧ b < w.heap.size) → ∀ b o, B = some ⟨b, o, none⟩ → v'.ownBlock ≠ some b ∧ b < w'.heap.size := fun B hB b o e => by
    obtain ⟨x1, x2⟩ := hB b o e
    refine ⟨?_, Nat.lt_of_lt_of_le x2 hg.size⟩
    rcases hblk with y | y
    · rw [y]; exact x1
    · rw [y]; intro z; injection z with z; omega
  by_cases hin : i < n
  · obtain ⟨Ai, ci, e, h3, h4, h5, h6⟩ := h2 i hin
    unfold snocN snocF
    rw [if_pos hin, if_pos hin]
    exact ⟨Ai, ci, by rw [List.getElem?_append_left (by omega)]; exact e, h3, h4, h5.grown hg (fun b o e => (h6 b o e).1), apart Ai h6⟩
  · have hi' : i = n := by omega
    unfold snocN snocF
    rw [if_neg hin, if_neg hin]
    refine ⟨A, c, ?_, hmc, hc9, hr.grown hg (fun b o e => (ha b o e).1), apart A ha⟩
    rw [List.getElem?_append_right (by omega), hlen, hi', Nat.sub_self]
    rfl
theorem wp_append_list {o : Oper} {a : Act} {K : Act → World → Prop} {Q : Exit → Act → World → Prop} (w : World) (s x : Operand)
    (ho : o.op = .call { callee := .builtin .append, args := #[s, x], argTypes := #[68, 68] })
    (base : Nat) (v : Value) (n : Nat) (L : Nat → Nat) (F : Nat → Nat → Int) (hs : a.eval s = v) (hown : OwnLists w base v n L F)
    (g1 : Nat) (A : Option Addr) (m c : Nat) (G : Nat → Int) (hx : a.eval x = .slice (some ⟨g1, 0, none⟩) 1 1) (hc : w.cell? ⟨g1, 0, none⟩ = some (.slice A m c)) (hmc : m ≤ c) (hc9 : c ≤ 9223372036854775807) (hr : IntsAt w base A m G) (ha : ∀ b o, A = some ⟨b, o, none⟩ → v.ownBlock ≠ some b ∧ b < w.heap.size) (hn : n ≤ 1000000) (hbase : base ≤ w.heap.size)
    (h : ∀ v' w', OwnLists w' base v' (n + 1) (snocN n L m) (snocF n F G) → Below base w w' → K (a.put o.dst v') w') : o.wp Try.prog a w K Q := by
  obtain ⟨v', w', hrun, h1, h2, -⟩ := run_append_list w o.type base v n L F hown g1 A m c G hc hmc hc9 hr ha hn hbase
  unfold Oper.wp execOp
  simp only [ho, resolve, invoke, builtin, Sem.run_bind, Sem.run_pure, Result.andThen_ok, List.map_toArray, List.map_cons, List.map_nil, hs, hx, hrun]
  exact h v' w' h1 h2
theorem wpList_append_list {ops : Array Oper} {rest : List Oper} {o : Oper} {a : Act} {Q : Exit → Act → World → Prop} (w : World) (hgd : o.guard = none) (s x : Operand)
    (ho : o.op = .call { callee := .builtin .append, args := #[s, x], argTypes := #[68, 68] })
    (base : Nat) (v : Value) (n : Nat) (L : Nat → Nat) (F : Nat → Nat → Int) (hs : a.eval s = v) (hown : OwnLists w base v n L F)
    (g1 : Nat) (A : Option Addr) (m c : Nat) (G : Nat → Int) (hx : a.eval x = .slice (some ⟨g1, 0, none⟩) 1 1) (hc : w.cell? ⟨g1, 0, none⟩ = some (.slice A m c)) (hmc : m ≤ c) (hc9 : c ≤ 9223372036854775807) (hr : IntsAt w base A m G) (ha : ∀ b o, A = some ⟨b, o, none⟩ → v.ownBlock ≠ some b ∧ b < w.heap.size) (hn : n ≤ 1000000) (hbase : base ≤ w.heap.size)
    (h : ∀ v' w', OwnLists w' base v' (n + 1) (snocN n L m) (snocF n F G) → Below base w w' → wpList Try.prog ops Q rest (a.put o.dst v') w') : wpList Try.prog ops Q (o :: rest) a w :=
  wpList_plain hgd fun _ hK => wp_append_list w s x ho base v n L F hs hown g1 A m c G hx hc hmc hc9 hr ha hn hbase fun v' w' h1 h2 => hK _ _ (h v' w' h1 h2)
theorem step_append_list {ops : Array Oper} {o : Oper} {a : Act} {K : Act → World → Prop} {Q : Exit → Act → World → Prop} {E : Prop} (w : World) (hgd : o.guard = none) (s x : Operand)
    (ho : o.op = .call { callee := .builtin .append, args := #[s, x], argTypes := #[68, 68] })
    (base : Nat) (v : Value) (n : Nat) (L : Nat → Nat) (F : Nat → Nat → Int) (hs : a.eval s = v) (hown : OwnLists w base v n L F)
    (g1 : Nat) (A : Option Addr) (m c : Nat) (G : Nat → Int) (hx : a.eval x = .slice (some ⟨g1, 0, none⟩) 1 1) (hc : w.cell? ⟨g1, 0, none⟩ = some (.slice A m c)) (hmc : m ≤ c) (hc9 : c ≤ 9223372036854775807) (hr : IntsAt w base A m G) (ha : ∀ b o, A = some ⟨b, o, none⟩ → v.ownBlock ≠ some b ∧ b < w.heap.size) (hn : n ≤ 1000000) (hbase : base ≤ w.heap.size)
    (h : ∀ v' w', OwnLists w' base v' (n + 1) (snocN n L m) (snocF n F G) → Below base w w' → K (a.put o.dst v') w') :
    if Region.wanted o (yielded ops a.tmps) = true then Oper.wp Try.prog o a w K Q else E := by
  have hw : Region.wanted o (yielded ops a.tmps) = true := by simp [Region.wanted, hgd]
  rw [if_pos hw]
  exact wp_append_list w s x ho base v n L F hs hown g1 A m c G hx hc hmc hc9 hr ha hn hbase h
set_option maxHeartbeats 2000000 in
theorem copyLists_any (A : Option Addr) (n c : Nat) (L : Nat → Nat) (F : Nat → Nat → Int) (w : World) (hn : n ≤ 100000) (hL : ∀ i, i < n → L i ≤ 100000) (hI : ListsAt w 0 A n L F) :
    Calls Try.prog 35 #[.slice A n c] w fun e w' => ∃ v, e = .returned v ∧ OwnLists w' w.heap.size v n L F ∧ Below w.heap.size w w' := by
  have HI := hide hI
  have HL := hide hL
  clear hI hL
  go_enter Try.func35, Try.ntmps35
  go_wp2_with fail
  go_loopw [3, 4] (fun x i wr => ∃ k : Nat, k ≤ n ∧ i = .int .i64 k ∧ OwnLists wr w.heap.size x k L F ∧ Below w.heap.size w wr) (fun _ i _ => n - (intOf i).toNat)
  case atStart => exact ⟨0, Nat.zero_le _, rfl, OwnLists.nil_ _ _ _ _, Below.refl _ _⟩
  case round =>
    obtain ⟨k, hk, rfl, hown, hB⟩ := hrel
    have hBs := hB.size
    by_cases hlt : k < n
    · have hltz : (k : Int) < (n : Int) := by omega
      obtain ⟨b, o, Ai, ci, rfl, -, hb, hcell, hlc, hc9, hIk⟩ := (HI.out.below hB) k hlt
      obtain ⟨As, cs, rfl, hcs, hcs9, hIs⟩ := hown.form
      go_wp2_with fail
      refine (copyInts_own Ai (L k) ci (F k) _ (by have := HL.out k hlt; omega) hIk).mono ?_
      rintro e w2 ⟨v2, rfl, hown2, hb2⟩
      obtain ⟨A2, c2, rfl, hc2, hI2⟩ := hown2.form
      have hcap := hown2.cap_any
      have hb2s := hb2.size
      go_wp2_with (at_builtin; refine wpList_append_list _ rfl (.tmp 11) (.tmp 17) rfl w.heap.size (.slice As k cs) k L F rfl ((hown.below hb2).alloc _) w2.heap.size A2 (L k) c2 (F k) rfl ((Box.made rfl : Box _ w2.heap.size 24 #[.slice A2 (L k) c2]).at_ 0) hc2 hcap.2 ((hI2.weak hBs).alloc _) (fun b' o' e => (by subst e; exact ⟨fun z => (by have h1 := (hown2.block (m := none)).1; have h2 := (hown.lt z).2; omega), (by have := (hown2.block (m := none)).2; simp; omega)⟩)) (by omega) (by simp; omega) ?_; intro v' w' h1 hb3)
      refine ⟨⟨k + 1, by omega, by simp, h1.congr (fun i hi => ?_), ((hB.trans (hb2.mono hBs)).alloc (by omega) _).trans hb3⟩, by simp [intOf]; omega⟩
      unfold snocN snocF
      by_cases e : i < k
      · rw [if_pos e, if_pos e]; exact ⟨rfl, fun _ _ => rfl⟩
      · obtain rfl : i = k := by omega
        rw [if_neg e, if_neg e]; exact ⟨rfl, fun _ _ => rfl⟩
    · obtain rfl : k = n := by omega
      go_wp2_with fail
      go_ret
      exact ⟨_, rfl, hown, hB⟩
theorem quiet_add {P : Program} {f : FuncId} {args : Array Value} {w : World} {a n : Nat} {v : Value}
    (h : Calls P f args (w.drewN (a + n)) fun e w' => e = .returned v ∧ ∃ q, w' = (w.drewN (a + n)).drewN q) :
    Calls P f args (w.drewN (a + n)) fun e w'' => e = .returned v ∧ ∃ m, w'' = w.drewN (a + m) :=
  h.mono fun _ _ ⟨he, q, hq⟩ => ⟨he, n + q, by rw [hq, World.drewN_drewN, Nat.add_assoc]⟩
/-- Are two lists of lists equal? -/
def listsB (n : Nat) (L : Nat → Nat) (F : Nat → Nat → Int) (m : Nat) (M : Nat → Nat) (G : Nat → Nat → Int) : Bool := n == m && (List.range n).all fun i => intsB (L i) (F i) (M i) (G i)
theorem listsB_iff {n m : Nat} {L M : Nat → Nat} {F G : Nat → Nat → Int} : listsB n L F m M G = true ↔ n = m ∧ ∀ i, i < n → intsB (L i) (F i) (M i) (G i) = true := by simp [listsB]
set_option maxHeartbeats 2000000 in
theorem lists_same (A C : Option Addr) (n c d : Nat) (L : Nat → Nat) (F : Nat → Nat → Int) (w : World) (hn : n ≤ 100000) (hL : ∀ i, i < n → L i ≤ 100000) (hF : ListsAt w 0 A n L F) (hG : ListsAt w 0 C n L F) :
    Calls Try.prog 40 #[.slice A n c, .slice C n d] w fun e w' => e = .returned (.bool true) ∧ ∃ q, w' = w.drewN q := by
  have HF := hide hF
  have HG := hide hG
  have HL := hide hL
  clear hF hG hL
  go_enter Try.func40, Try.ntmps40
  go_wp2_with fail
  go_loopw [5] (fun i wr => ∃ k q : Nat, k ≤ n ∧ i = .int .i64 k ∧ wr = w.drewN q) (fun i _ => n - (intOf i).toNat)
  case atStart => exact ⟨0, 0, Nat.zero_le _, rfl, rfl⟩
  case round =>
    obtain ⟨k, q, hk, rfl, rfl⟩ := hrel
    by_cases hlt : k < n
    · have hltz : (k : Int) < (n : Int) := by omega
      obtain ⟨b, o, Ai, ci, rfl, -, hb, hcell, -, -, hIk⟩ := HF.out k hlt
      obtain ⟨b2, o2, Ci, di, rfl, -, hb2, hcell2, -, -, hJk⟩ := HG.out k hlt
      have HE := hide (show intsB (L k) (F k) (L k) (F k) = true from intsB_iff.2 ⟨rfl, fun _ _ => rfl⟩)
      have hl9 := HL.out k hlt
      have HQ := hide (fun W hW1 hW2 => (ints_any Ai Ci (L k) (L k) ci di (F k) (F k) W hl9 hl9 hW1 hW2))
      rw [HE.out] at HQ
      have HIk := hide hIk
      have HJk := hide hJk
      clear hIk hJk hl9
      go_wp2_with fail
      go_quiet ((go_at_call 19; exact quiet_add (HQ.out _ HIk.out HJk.out)))
      go_wp2_with fail
      go_roundw
      case rel => exact ⟨k + 1, _, by omega, by go_num, by first | rfl | exact World.drewN_drewN _ _ _⟩
      case measure => simp [intOf]; omega
    · obtain rfl : k = n := by omega
      go_wp2_with fail
      go_ret
      exact ⟨rfl, _, rfl⟩
end Go.Proofs.Ytjelbemfljobaaa
