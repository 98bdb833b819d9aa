/- Lemmas: Ma, Mc, Qa. -/
import Derived.Test.YtdkoohfcpikgiaaBk04
import Derived.Test.YtdkoohfcpikgiaaBk05
set_option linter.unusedVariables false
set_option linter.unusedSimpArgs false
/- Lists of lists of numbers: read, made by appending, copied, compared. -/
namespace Go.Proofs.Ytdkoohfcpikgiaa
open Go.RowKit Go.Shelf
/-- A slice of n slices; the slice i has L i numbers F i. -/
def ListsAt (w : World) (lo : Nat) (A : Option Addr) (n : Nat) (L : Nat → Nat) (F : Nat → Nat → Int) : Prop :=
  ∀ i, i < n → ∃ b o Ai ci, A = some ⟨b, o, none⟩ ∧ lo ≤ b ∧ b < w.heap.size ∧ w.cell? ⟨b, o + i, none⟩ = some (.slice Ai (L i) ci) ∧ L i ≤ ci ∧ ci ≤ 9223372036854775807 ∧ IntsAt w lo Ai (L i) (F i)
section
variable {w w' : World} {lo n : Nat} {A : Option Addr} {L : Nat → Nat} {F : Nat → Nat → Int}
theorem ListsAt.nil_ : ListsAt w lo A 0 L F := fun i h => absurd h (Nat.not_lt_zero i)
theorem ListsAt.below (h : ListsAt w lo A n L F) (hb : Below w.heap.size w w') : ListsAt w' lo A n L F := fun i hi => by
  obtain ⟨b, o, Ai, ci, e, h1, h2, h3, h4, h5, h6⟩ := h i hi
  exact ⟨b, o, Ai, ci, e, h1, Nat.lt_of_lt_of_le h2 hb.size, (hb.cell (p := ⟨b, o + i, none⟩) h2).trans h3, h4, h5, h6.below hb⟩
theorem ListsAt.alloc (h : ListsAt w lo A n L F) (x : Obj) : ListsAt (w.alloc x) lo A n L F := h.below ((Below.refl _ _).alloc (Nat.le_refl _) _)
theorem ListsAt.drewN (h : ListsAt w lo A n L F) (m : Nat) : ListsAt (w.drewN m) lo A n L F := h
theorem ListsAt.weak {lo' : Nat} (h : ListsAt w lo A n L F) (hl : lo' ≤ lo) : ListsAt w lo' A n L F := fun i hi => by
  obtain ⟨b, o, Ai, ci, e, h1, h2, h3, h4, h5, h6⟩ := h i hi
  exact ⟨b, o, Ai, ci, e, Nat.le_trans hl h1, h2, h3, h4, h5, h6.weak hl⟩
theorem IntsAt.block {b o k : Nat} {G : Nat → Int} (h : IntsAt w lo (some ⟨b, o, none⟩) n G) (hk : k < n) : lo ≤ b ∧ b < w.heap.size := by
  obtain ⟨b', o', e, h1, h2, -⟩ := h k hk
  injection e with e; injection e with e1 e2; subst e1
  exact ⟨h1, h2⟩
end
theorem OwnInts.block {w : World} {base n c b o : Nat} {m : Option Nat} {F : Nat → Int} (h : OwnInts w base (.slice (some ⟨b, o, none⟩) n c) n F) : base ≤ b ∧ b < w.heap.size := by
  rcases h.2 with ⟨h1, -⟩ | ⟨g, cap, cur, h1, hb, hg, -⟩
  · simp at h1
  · injection h1 with e1; injection e1 with e1; injection e1 with e1; subst e1
    exact ⟨hb, (Array.getElem?_eq_some_iff.1 hg).1⟩
/-- A slice of slices of the call's own: its row, and rows of numbers in other blocks. -/
def OwnLists (w : World) (base : Nat) (v : Value) (n : Nat) (L : Nat → Nat) (F : Nat → Nat → Int) : Prop :=
  ∃ xs : List Value, w.ownsRow base 25 1 v n xs ∧ ∀ i, i < n → ∃ Ai ci, xs[i]? = some (.slice Ai (L i) ci) ∧ L i ≤ ci ∧ ci ≤ 9223372036854775807 ∧ IntsAt w base Ai (L i) (F i) ∧ ∀ b o, Ai = some ⟨b, o, none⟩ → v.ownBlock ≠ some b ∧ b < w.heap.size
section
variable {w w' : World} {base n : Nat} {v : Value} {L : Nat → Nat} {F : Nat → Nat → Int}
theorem OwnLists.nil_ (w : World) (base : Nat) (L : Nat → Nat) (F : Nat → Nat → Int) : OwnLists w base (.slice none 0 0) 0 L F := ⟨[], World.ownsRow_nil _ _ _ _, fun i h => absurd h (Nat.not_lt_zero i)⟩
theorem OwnLists.below (h : OwnLists w base v n L F) (hb : Below w.heap.size w w') : OwnLists w' base v n L F := by
  obtain ⟨xs, h1, h2⟩ := h
  refine ⟨xs, World.ownsRow.kept h1 (row := none) ⟨hb.os, hb.tape, hb.output, hb.size, fun k hk _ => hb.block k hk⟩ (by cases v.ownBlock <;> simp), fun i hi => ?_⟩
  obtain ⟨Ai, ci, e, h3, h4, h5, h6⟩ := h2 i hi
  exact ⟨Ai, ci, e, h3, h4, h5.below hb, fun b o e => ⟨(h6 b o e).1, Nat.lt_of_lt_of_le (h6 b o e).2 hb.size⟩⟩
theorem OwnLists.alloc (h : OwnLists w base v n L F) (o : Obj) : OwnLists (w.alloc o) base v n L F := h.below ((Below.refl _ _).alloc (Nat.le_refl _) _)
theorem OwnLists.drew (h : OwnLists w base v n L F) : OwnLists w.drew base v n L F := h
theorem OwnLists.drewN (h : OwnLists w base v n L F) (q : Nat) : OwnLists (w.drewN q) base v n L F := h
theorem OwnLists.congr {L' : Nat → Nat} {F' : Nat → Nat → Int} (h : OwnLists w base v n L F) (e : ∀ i, i < n → L i = L' i ∧ ∀ k, k < L i → F i k = F' i k) : OwnLists w base v n L' F' := by
  obtain ⟨xs, h1, h2⟩ := h
  refine ⟨xs, h1, fun i hi => ?_⟩
  obtain ⟨Ai, ci, g, h3, h4, h5, h6⟩ := h2 i hi
  obtain ⟨e1, e2⟩ := e i hi
  exact ⟨Ai, ci, by rw [← e1]; exact g, by omega, h4, by rw [← e1]; exact h5.congr e2, h6⟩
theorem OwnLists.form (h : OwnLists w base v n L F) : ∃ A c, v = .slice A n c ∧ n ≤ c ∧ c ≤ 9223372036854775807 ∧ ListsAt w base A n L F := by
  obtain ⟨xs, h1, h2⟩ := h
  have hm9 : maxLen ≤ 9223372036854775807 := by decide
  rcases h1.2 with ⟨rfl, rfl⟩ | ⟨g, cap, cur, rfl, hb, hg, hnc, hm, -⟩
  · exact ⟨_, _, rfl, Nat.le_refl _, by decide, ListsAt.nil_⟩
  · refine ⟨_, _, rfl, hnc, by omega, fun i hi => ?_⟩
    obtain ⟨Ai, ci, e, h3, h4, h5, h6⟩ := h2 i hi
    have hc := World.ownsRow.cells h1 (g := g) rfl i _ e
    rw [Addr.add_lit] at hc
    exact ⟨g, 0, Ai, ci, rfl, hb, (Array.getElem?_eq_some_iff.1 hg).1, hc, h3, h4, h5⟩
theorem OwnLists.lt (h : OwnLists w base v n L F) {k : Nat} (hk : v.ownBlock = some k) : base ≤ k ∧ k < w.heap.size := by
  obtain ⟨xs, h1, -⟩ := h
  exact World.ownsRow.lt h1 k hk
end
theorem IntsAt.grown {w w' : World} {lo n : Nat} {A : Option Addr} {G : Nat → Int} {row : Option Nat} (h : IntsAt w lo A n G) (hg : w.grownBy w' row) (ha : ∀ b o, A = some ⟨b, o, none⟩ → row ≠ some b) : IntsAt w' lo A n G := fun k hk => by
  obtain ⟨b, o, e, h1, h2, h3⟩ := h k hk
  exact ⟨b, o, e, h1, Nat.lt_of_lt_of_le h2 hg.size, (World.cell?_of_block (a := ⟨b, o + k, none⟩) (hg.block b h2 (fun x => ha b o e x.symm))).trans h3⟩
def snocN (n : Nat) (L : Nat → Nat) (m : Nat) (i : Nat) : Nat := if i < n then L i else m
def snocF (n : Nat) (F : Nat → Nat → Int) (G : Nat → Int) (i : Nat) : Nat → Int := if i < n then F i else G
theorem listInfo : (Try.prog.info? 25).map (fun i => (i.zero, i.size, i.bytes)) = some (some (.slice none 0 0), 1, 24) := by kernel_rfl
set_option maxRecDepth 100000 in
theorem run_append_list (w : World) (ty : TypeId) (base : Nat) (v : Value) (n : Nat) (L : Nat → Nat) (F : Nat → Nat → Int) (hown : OwnLists w base v n L F)
    (g1 : Nat) (A : Option Addr) (m c : Nat) (G : Nat → Int) (hc : w.cell? ⟨g1, 0, none⟩ = some (.slice A m c)) (hmc : m ≤ c) (hc9 : c ≤ 9223372036854775807) (hr : IntsAt w base A m G) (ha : ∀ b o, A = some ⟨b, o, none⟩ → v.ownBlock ≠ some b ∧ b < w.heap.size) (hn : n ≤ 1000000) (hbase : base ≤ w.heap.size) :
    ∃ v' w', (Builtin.append_ #[22, 22] ty #[v, .slice (some ⟨g1, 0, none⟩) 1 1]).run Try.prog w = .ok v' w' ∧ OwnLists w' base v' (n + 1) (snocN n L m) (snocF n F G) ∧ Below base w w' ∧ w.grownBy w' v.ownBlock := by
  obtain ⟨i0, hi, hz0, hz1, hz2⟩ := info_parts listInfo
  obtain ⟨xs, h1, h2⟩ := hown
  have hlen : xs.length = n := by rw [h1.1, Nat.mul_one]
  obtain ⟨v', w', hrun, hown', hg, -, hblk⟩ := run_append_own_at (P := Try.prog) w base 22 ty 25 i0 (.slice none 0 0) 1 24 Try.underlying22 hi hz0 hz1 hz2 rfl (by decide) v n xs h1 ⟨g1, 0, none⟩ 1 1 [.slice A m c] rfl
    (fun j u hu => by
      match j, hu with
      | 0, hu =>
        simp at hu
        subst hu
        exact hc
      | j + 1, hu => simp at hu)
    (fun u hu => by
      simp at hu
      subst hu
      rfl) (by unfold maxLen; omega) (by omega) hbase
  have hb : Below base w w' := (Below.refl _ _).grown hg hbase (fun k hk => (World.ownsRow.lt h1 k hk).1)
  refine ⟨v', w', hrun, ⟨_, hown', fun i hi => ?_⟩, hb, hg⟩
  have apart : ∀ (B : Option Addr), (∀ b o, B = some ⟨b, o, none⟩ → v.ownBlock ≠ some b ∧ b < w.heap.size) → ∀ b o, B = some ⟨b, o, none⟩ → v'.ownBlock ≠ some b ∧ b < w'.heap.size := fun B hB b o e => by
    obtain ⟨x1, x2⟩ := hB b o e
    refine ⟨?_, Nat.lt_of_lt_of_le x2 hg.size⟩
    rcases hblk with y | y
    · rw [y]; exact x1
    · rw [y]; intro z; injection z with z; omega
  by_cases hin : i < n
  · obtain ⟨Ai, ci, e, h3, h4, h5, h6⟩ := h2 i hin
    unfold snocN snocF
    rw [if_pos hin, if_pos hin]
    exact ⟨Ai, ci, by rw [List.getElem?_append_left (by omega)]; exact e, h3, h4, h5.grown hg (fun b o e => (h6 b o e).1), apart Ai h6⟩
  · have hi' : i = n := by omega
    unfold snocN snocF
    rw [if_neg hin, if_neg hin]
    refine ⟨A, c, ?_, hmc, hc9, hr.grown hg (fun b o e => (ha b o e).1), apart A ha⟩
    rw [List.getElem?_append_right (by omega), hlen, hi', Nat.sub_self]
    rfl
theorem wp_append_list {o : Oper} {a : Act} {K : Act → World → Prop} {Q : Exit → Act → World → Prop} (w : World) (s x : Operand)
    (ho : o.op = .call { callee := .builtin .append, args := #[s, x], argTypes := #[22, 22] })
    (base : Nat) (v : Value) (n : Nat) (L : Nat → Nat) (F : Nat → Nat → Int) (hs : a.eval s = v) (hown : OwnLists w base v n L F)
    (g1 : Nat) (A : Option Addr) (m c : Nat) (G : Nat → Int) (hx : a.eval x = .slice (some ⟨g1, 0, none⟩) 1 1) (hc : w.cell? ⟨g1, 0, none⟩ = some (.slice A m c)) (hmc : m ≤ c) (hc9 : c ≤ 9223372036854775807) (hr : IntsAt w base A m G) (ha : ∀ b o, A = some ⟨b, o, none⟩ → v.ownBlock ≠ some b ∧ b < w.heap.size) (hn : n ≤ 1000000) (hbase : base ≤ w.heap.size)
    (h : ∀ v' w', OwnLists w' base v' (n + 1) (snocN n L m) (snocF n F G) → Below base w w' → K (a.put o.dst v') w') : o.wp Try.prog a w K Q := by
  obtain ⟨v', w', hrun, h1, h2, -⟩ := run_append_list w o.type base v n L F hown g1 A m c G hc hmc hc9 hr ha hn hbase
  unfold Oper.wp execOp
  simp only [ho, resolve, invoke, builtin, Sem.run_bind, Sem.run_pure, Result.andThen_ok, List.map_toArray, List.map_cons, List.map_nil, hs, hx, hrun]
  exact h v' w' h1 h2
theorem wpList_append_list {ops : Array Oper} {rest : List Oper} {o : Oper} {a : Act} {Q : Exit → Act → World → Prop} (w : World) (hgd : o.guard = none) (s x : Operand)
    (ho : o.op = .call { callee := .builtin .append, args := #[s, x], argTypes := #[22, 22] })
    (base : Nat) (v : Value) (n : Nat) (L : Nat → Nat) (F : Nat → Nat → Int) (hs : a.eval s = v) (hown : OwnLists w base v n L F)
    (g1 : Nat) (A : Option Addr) (m c : Nat) (G : Nat → Int) (hx : a.eval x = .slice (some ⟨g1, 0, none⟩) 1 1) (hc : w.cell? ⟨g1, 0, none⟩ = some (.slice A m c)) (hmc : m ≤ c) (hc9 : c ≤ 9223372036854775807) (hr : IntsAt w base A m G) (ha : ∀ b o, A = some ⟨b, o, none⟩ → v.ownBlock ≠ some b ∧ b < w.heap.size) (hn : n ≤ 1000000) (hbase : base ≤ w.heap.size)
    (h : ∀ v' w', OwnLists w' base v' (n + 1) (snocN n L m) (snocF n F G) → Below base w w' → wpList Try.prog ops Q rest (a.put o.dst v') w') : wpList Try.prog ops Q (o :: rest) a w :=
  wpList_plain hgd fun _ hK => wp_append_list w s x ho base v n L F hs hown g1 A m c G hx hc hmc hc9 hr ha hn hbase fun v' w' h1 h2 => hK _ _ (h v' w' h1 h2)
theorem step_append_list {ops : Array Oper} {o : Oper} {a : Act} {K : Act → World → Prop} {Q : Exit → Act → World → Prop} {E : Prop} (w : World) (hgd : o.guard = none) (s x : Operand)
    (ho : o.op = .call { callee := .builtin .append, args := #[s, x], argTypes := #[22, 22] })
    (base : Nat) (v : Value) (n : Nat) (L : Nat → Nat) (F : Nat → Nat → Int) (hs : a.eval s = v) (hown : OwnLists w base v n L F)
    (g1 : Nat) (A : Option Addr) (m c : Nat) (G : Nat → Int) (hx : a.eval x = .slice (some ⟨g1, 0, none⟩) 1 1) (hc : w.cell? ⟨g1, 0, none⟩ = some (.slice A m c)) (hmc : m ≤ c) (hc9 : c ≤ 9223372036854775807) (hr : IntsAt w base A m G) (ha : ∀ b o, A = some ⟨b, o, none⟩ → v.ownBlock ≠ some b ∧ b < w.heap.size) (hn : n ≤ 1000000) (hbase : base ≤ w.heap.size)
    (h : ∀ v' w', OwnLists w' base v' (n + 1) (snocN n L m) (snocF n F G) → Below base w w' → K (a.put o.dst v') w') :
    if Region.wanted o (yielded ops a.tmps) = true then Oper.wp Try.prog o a w K Q else E := by
  have hw : Region.wanted o (yielded ops a.tmps) = true := by simp [Region.wanted, hgd]
  rw [if_pos hw]
  exact wp_append_list w s x ho base v n L F hs hown g1 A m c G hx hc hmc hc9 hr ha hn hbase h
set_option maxHeartbeats 2000000 in
theorem copyLists_any (A : Option Addr) (n c : Nat) (L : Nat → Nat) (F : Nat → Nat → Int) (w : World) (hn : n ≤ 100000) (hL : ∀ i, i < n → L i ≤ 100000) (hI : ListsAt w 0 A n L F) :
    Calls Try.prog 31 #[.slice A n c] w fun e w' => ∃ v, e = .returned v ∧ OwnLists w' w.heap.size v n L F ∧ Below w.heap.size w w' := by
  have HI := hide hI
  have HL := hide hL
  clear hI hL
  go_enter Try.func31, Try.ntmps31
  go_wp2_with fail
  go_loopw [3, 4] (fun x i wr => ∃ k : Nat, k ≤ n ∧ i = .int .i64 k ∧ OwnLists wr w.heap.size x k L F ∧ Below w.heap.size w wr) (fun _ i _ => n - (intOf i).toNat)
  case atStart => exact ⟨0, Nat.zero_le _, rfl, OwnLists.nil_ _ _ _ _, Below.refl _ _⟩
  case round =>
    obtain ⟨k, hk, rfl, hown, hB⟩ := hrel
    have hBs := hB.size
    by_cases hlt : k < n
    · have hltz : (k : Int) < (n : Int) := by omega
      obtain ⟨b, o, Ai, ci, rfl, -, hb, hcell, hlc, hc9, hIk⟩ := (HI.out.below hB) k hlt
      obtain ⟨As, cs, rfl, hcs, hcs9, hIs⟩ := hown.form
      go_wp2_with fail
      refine (copyInts_own Ai (L k) ci (F k) _ (by have := HL.out k hlt; omega) hIk).mono ?_
      rintro e w2 ⟨v2, rfl, hown2, hb2⟩
      obtain ⟨A2, c2, rfl, hc2, hI2⟩ := hown2.form
      have hcap := hown2.cap_any
      have hb2s := hb2.size
      go_wp2_with (at_builtin; refine wpList_append_list _ rfl (.tmp 11) (.tmp 17) rfl w.heap.size (.slice As k cs) k L F rfl ((hown.below hb2).alloc _) w2.heap.size A2 (L k) c2 (F k) rfl ((Box.made rfl : Box _ w2.heap.size 25 #[.slice A2 (L k) c2]).at_ 0) hc2 hcap.2 ((hI2.weak hBs).alloc _) (fun b' o' e => (by subst e; exact ⟨fun z => (by have h1 := (hown2.block (m := none)).1; have h2 := (hown.lt z).2; omega), (by have := (hown2.block (m := none)).2; simp; omega)⟩)) (by omega) (by simp; omega) ?_; intro v' w' h1 hb3)
      refine ⟨⟨k + 1, by omega, by simp, h1.congr (fun i hi => ?_), ((hB.trans (hb2.mono hBs)).alloc (by omega) _).trans hb3⟩, by simp [intOf]; omega⟩
      unfold snocN snocF
      by_cases e : i < k
      · rw [if_pos e, if_pos e]; exact ⟨rfl, fun _ _ => rfl⟩
      · obtain rfl : i = k := by omega
        rw [if_neg e, if_neg e]; exact ⟨rfl, fun _ _ => rfl⟩
    · obtain rfl : k = n := by omega
      go_wp2_with fail
      go_ret
      exact ⟨_, rfl, hown, hB⟩
theorem quiet_add {P : Program} {f : FuncId} {args : Array Value} {w : World} {a n : Nat} {v : Value}
    (h : Calls P f args (w.drewN (a + n)) fun e w' => e = .returned v ∧ ∃ q, w' = (w.drewN (a + n)).drewN q) :
    Calls P f args (w.drewN (a + n)) fun e w'' => e = .returned v ∧ ∃ m, w'' = w.drewN (a + m) :=
  h.mono fun _ _ ⟨he, q, hq⟩ => ⟨he, n + q, by rw [hq, World.drewN_drewN, Nat.add_assoc]⟩
/-- Are two lists of lists equal? -/
def listsB (n : Nat) (L : Nat → Nat) (F : Nat → Nat → Int) (m : Nat) (M : Nat → Nat) (G : Nat → Nat → Int) : Bool := n == m && (List.range n).all fun i => intsB (L i) (F i) (M i) (G i)
theorem listsB_iff {n m : Nat} {L M : Nat → Nat} {F G : Nat → Nat → Int} : listsB n L F m M G = true ↔ n = m ∧ ∀ i, i < n → intsB (L i) (F i) (M i) (G i) = true := by simp [listsB]
end Go.Proofs.Ytdkoohfcpikgiaa
/- The error of a segment; whether a number stands in a list; what is joined (without a walk). -/
namespace Go.Proofs.Ytdkoohfcpikgiaa
open Go.RowKit Go.Shelf
/-- Are the last d of n bits the remainder of those ahead? -/
def rightB (d t n : Nat) (F : Nat → Int) : Bool := intsB d (remB d t (n - d) F) d (fun j => F (n - d + j))
def segErrI (d t a n : Nat) (F : Nat → Int) : Int := if n = a + d then (if bitsB n F = true then (if rightB d t n F = true then 0 else 21) else 15) else 10
theorem areBits_b (A : Option Addr) (n c : Nat) (F : Nat → Int) (w : World) (hn : n ≤ 100000) (hI : IntsAt w 0 A n F) :
    Calls Try.prog 53 #[.slice A n c] w fun e w' => e = .returned (.bool (bitsB n F)) ∧ Below w.heap.size w w' :=
  (areBits_any A n c F w hn hI).mono fun _ _ ⟨h, q, hq⟩ => ⟨h, by rw [hq]; exact below_drewN (Below.refl _ _) q⟩
/-- Does a number stand in a list? -/
def hasB (n : Nat) (F : Nat → Int) (x : Int) : Bool := anyN n fun j => F j == x
theorem hasB_iff {n : Nat} {F : Nat → Int} {x : Int} : hasB n F x = true ↔ ∃ j, j < n ∧ F j = x := by
  unfold hasB
  rw [anyN_iff]
  simp
/-- The bits of segments of a bits each, one behind the other. -/
def allF (a : Nat) (F : Nat → Nat → Int) (j : Nat) : Int := F (j / a) (j % a)
theorem allF_snoc {a k : Nat} {F : Nat → Nat → Int} (ha : 0 < a) {j : Nat} (hj : j < k * a + a) : catF (k * a) (allF a F) (F k) j = allF a F j := by
  unfold catF
  by_cases h : j < k * a
  · rw [if_pos h]
  · rw [if_neg h]
    obtain ⟨r, hr⟩ : ∃ r, r = j - k * a := ⟨_, rfl⟩
    have e : j = a * k + r := by rw [Nat.mul_comm]; omega
    unfold allF
    rw [← hr, e, Nat.mul_add_div ha, Nat.mul_add_mod, Nat.div_eq_of_lt (by omega), Nat.mod_eq_of_lt (by omega)]
    rfl
/-- The number of the first error. -/
def firstIdx (g : Nat → Int) : Nat → Nat
  | 0 => 0
  | n + 1 => if firstBad g n = 0 then n else firstIdx g n
theorem firstIdx_at {g : Nat → Int} {k : Nat} (h : firstBad g k = 0) (hk : g k ≠ 0) : ∀ n, k < n → firstIdx g n = k
  | 0, hn => absurd hn (Nat.not_lt_zero _)
  | n + 1, hn => by
    unfold firstIdx
    rcases Nat.lt_or_ge k n with h1 | h1
    · have := firstBad_at h hk n h1
      rw [this, if_neg hk]
      exact firstIdx_at h hk n h1
    · obtain rfl : k = n := by omega
      rw [if_pos h]
/-- What joining n segments gives: an error, the number beside it, and which bits. -/
def joinErrI (x y m len n : Nat) (L : Nat → Nat) (F : Nat → Nat → Int) : Int :=
  if n = cntN x m len then
    (if firstBad (fun i => segErrI x y (aheadN x m len) (L i) (F i)) n = 0 then (if hasB (cntN x m len * aheadN x m len - len) (allF (aheadN x m len) F) 1 = true then 3 else 0)
     else firstBad (fun i => segErrI x y (aheadN x m len) (L i) (F i)) n)
  else 10
def joinNum (x y m len n : Nat) (L : Nat → Nat) (F : Nat → Nat → Int) : Nat :=
  if n = cntN x m len then (if firstBad (fun i => segErrI x y (aheadN x m len) (L i) (F i)) n = 0 then 0 else firstIdx (fun i => segErrI x y (aheadN x m len) (L i) (F i)) n) else 0
def joinF (x m len : Nat) (F : Nat → Nat → Int) (j : Nat) : Int := allF (aheadN x m len) F (cntN x m len * aheadN x m len - len + j)
def GaveJoin (err : Int) (num : Nat) (len : Nat) (G : Nat → Int) (w : World) (e : Ending) (w' : World) : Prop :=
  (∃ v, e = .returned (.tuple #[v, .int .i64 (num : Int), .int .i64 err]) ∧ ((err ≠ 0 ∧ v = .slice none 0 0) ∨ (err = 0 ∧ ∃ A c, v = .slice A len c ∧ IntsAt w' 0 A len G))) ∧ Below w.heap.size w w'
theorem segErr_zero {d t a n : Nat} {F : Nat → Int} (h : segErrI d t a n F = 0) : n = a + d ∧ ∀ k, k < n → IsBit (F k) := by
  unfold segErrI at h
  by_cases h1 : n = a + d
  · rw [if_pos h1] at h
    by_cases h2 : bitsB n F = true
    · exact ⟨h1, bitsB_iff.1 h2⟩
    · rw [if_neg h2] at h; exact absurd h (by decide)
  · rw [if_neg h1] at h; exact absurd h (by decide)
theorem joinErr_def (x y m len n : Nat) (L : Nat → Nat) (F : Nat → Nat → Int) : joinErrI x y m len n L F = if n = cntN x m len then
    (if firstBad (fun i => segErrI x y (aheadN x m len) (L i) (F i)) n = 0 then (if hasB (cntN x m len * aheadN x m len - len) (allF (aheadN x m len) F) 1 = true then 3 else 0)
     else firstBad (fun i => segErrI x y (aheadN x m len) (L i) (F i)) n)
  else 10 := rfl
theorem joinNum_def (x y m len n : Nat) (L : Nat → Nat) (F : Nat → Nat → Int) : joinNum x y m len n L F = if n = cntN x m len then (if firstBad (fun i => segErrI x y (aheadN x m len) (L i) (F i)) n = 0 then 0 else firstIdx (fun i => segErrI x y (aheadN x m len) (L i) (F i)) n) else 0 := rfl
theorem joinF_def (x m len : Nat) (F : Nat → Nat → Int) : joinF x m len F = fun j => allF (aheadN x m len) F (cntN x m len * aheadN x m len - len + j) := rfl
theorem OwnInts.made (w : World) (base g f : Nat) (hb : base ≤ w.heap.size) (hg : g = w.heap.size) (hf : f ≤ maxLen) : OwnInts (w.alloc (.cells (madeCells #[.int .i64 0] f) 3)) base (.slice (some ⟨g, 0, none⟩) f f) f (fun _ => 0) :=
  hg ▸ ⟨by rw [intCells_len, Nat.mul_one], .inr ⟨w.heap.size, f, _, rfl, hb, heap_alloc_new w _, Nat.le_refl _, hf, by simp [madeCells], by
    apply List.ext_getElem?
    intro j
    rw [intCells_get, Nat.mul_one]
    by_cases hj : j < f
    · rw [if_pos hj]; simp [madeCells, hj, Nat.mod_one]
    · rw [if_neg hj]; simp [madeCells, hj]⟩⟩
end Go.Proofs.Ytdkoohfcpikgiaa
/- Parity-check codes: which are right, the word of bits, rows that fail, flipping (without a walk). -/
namespace Go.Proofs.Ytdkoohfcpikgiaa
open Go.RowKit
/-- The error of a position of a row whose check bit is ck. -/
def rposErr (ck : Int) (F : Nat → Int) (k : Nat) : Int := if 0 ≤ F k ∧ F k ≤ ck then (if 0 < k ∧ F k ≤ F (k - 1) then 9 else 0) else 2
def rowErrI (ck : Int) (L : Nat) (F : Nat → Int) : Int :=
  if L < 2 then 10 else if 8 < L then 8 else if firstBad (rposErr ck F) L = 0 then (if F (L - 1) = ck then 0 else 23) else firstBad (rposErr ck F) L
theorem rposErr_two {ck : Int} {k : Nat} {F : Nat → Int} (h : ¬ (0 ≤ F k ∧ F k ≤ ck)) : rposErr ck F k = 2 := if_neg h
theorem rposErr_nine {ck : Int} {k : Nat} {F : Nat → Int} (h : 0 ≤ F k ∧ F k ≤ ck) (h2 : F k ≤ beforeI F k) : rposErr ck F k = 9 := by
  unfold rposErr
  rw [if_pos h]
  cases k with
  | zero => have : F 0 ≤ -1 := h2; omega
  | succ j => exact if_pos ⟨Nat.succ_pos _, h2⟩
theorem rposErr_zero {ck : Int} {k : Nat} {F : Nat → Int} (h : 0 ≤ F k ∧ F k ≤ ck) (h2 : ¬ F k ≤ beforeI F k) : rposErr ck F k = 0 := by
  unfold rposErr
  rw [if_pos h]
  cases k with
  | zero => exact if_neg (by omega)
  | succ j => exact if_neg (fun hh => h2 hh.2)
def parRow (m : Int) (L : Nat → Nat) (R : Nat → Nat → Int) (i : Nat) : Int := rowErrI (m + i) (L i) (R i)
/-- The error of a parity-check code, and the row beside it. -/
def parErrI (m : Int) (n : Nat) (L : Nat → Nat) (R : Nat → Nat → Int) : Int :=
  if 1 ≤ m ∧ m ≤ 40 then (if n = 0 then 10 else if 20 < n then 8 else firstBad (parRow m L R) n) else 2
def parNum (m : Int) (n : Nat) (L : Nat → Nat) (R : Nat → Nat → Int) : Nat :=
  if 1 ≤ m ∧ m ≤ 40 then (if n = 0 then 0 else if 20 < n then 0 else if firstBad (parRow m L R) n = 0 then 0 else firstIdx (parRow m L R) n) else 0
theorem parErrI_rows {m : Int} {n : Nat} {L : Nat → Nat} {R : Nat → Nat → Int} (h : 1 ≤ m ∧ m ≤ 40) (h0 : ¬ n = 0) (h20 : ¬ 20 < n) : parErrI m n L R = firstBad (parRow m L R) n := by
  unfold parErrI; rw [if_pos h, if_neg h0, if_neg h20]
theorem parNum_rows {m : Int} {n : Nat} {L : Nat → Nat} {R : Nat → Nat → Int} (h : 1 ≤ m ∧ m ≤ 40) (h0 : ¬ n = 0) (h20 : ¬ 20 < n) : parNum m n L R = if firstBad (parRow m L R) n = 0 then 0 else firstIdx (parRow m L R) n := by
  unfold parNum; rw [if_pos h, if_neg h0, if_neg h20]
/-- A row that is right. -/
structure RowOk (ck : Int) (L : Nat) (F : Nat → Int) : Prop where
  two : 2 ≤ L
  most : L ≤ 8
  range : ∀ k, k < L → 0 ≤ F k ∧ F k ≤ ck
  order : ∀ k, k + 1 < L → F k < F (k + 1)
  last : F (L - 1) = ck
theorem rowOk_of {ck : Int} {L : Nat} {F : Nat → Int} (h : rowErrI ck L F = 0) : RowOk ck L F := by
  unfold rowErrI at h
  by_cases h1 : L < 2
  · rw [if_pos h1] at h; exact absurd h (by decide)
  rw [if_neg h1] at h
  by_cases h2 : 8 < L
  · rw [if_pos h2] at h; exact absurd h (by decide)
  rw [if_neg h2] at h
  by_cases h3 : firstBad (rposErr ck F) L = 0
  · rw [if_pos h3] at h
    have ha := firstBad_all h3
    have hr : ∀ k, k < L → 0 ≤ F k ∧ F k ≤ ck := fun k hk => by
      have := ha k hk
      unfold rposErr at this
      by_cases e : 0 ≤ F k ∧ F k ≤ ck
      · exact e
      · rw [if_neg e] at this; exact absurd this (by decide)
    refine ⟨by omega, by omega, hr, fun k hk => ?_, ?_⟩
    · have := ha (k + 1) hk
      unfold rposErr at this
      rw [if_pos (hr (k + 1) hk)] at this
      by_cases e : 0 < k + 1 ∧ F (k + 1) ≤ F (k + 1 - 1)
      · rw [if_pos e] at this; exact absurd this (by decide)
      · rw [Nat.add_sub_cancel] at e; omega
    · by_cases e : F (L - 1) = ck
      · exact e
      · rw [if_neg e] at h; exact absurd h (by decide)
  · rw [if_neg h3] at h; exact absurd h h3
/-- Positions ahead of the last one are below it. -/
theorem RowOk.below {ck : Int} {L : Nat} {F : Nat → Int} (h : RowOk ck L F) : ∀ k, k + 1 < L → F k < ck := by
  have step : ∀ d k, k + d + 1 < L → F k < F (k + d + 1) := fun d => by
    induction d with
    | zero => exact fun k hk => h.order k hk
    | succ d ih =>
      intro k hk
      have h1 := ih k (by omega)
      have h2 := h.order (k + d + 1) (by omega)
      rw [show k + (d + 1) + 1 = k + d + 1 + 1 by omega]
      omega
  intro k hk
  have h1 := step (L - 1 - k - 1) k (by omega)
  rw [show k + (L - 1 - k - 1) + 1 = L - 1 by omega, h.last] at h1
  exact h1
/-- A parity-check code that is right. -/
structure ParOk (m n : Nat) (L : Nat → Nat) (R : Nat → Nat → Int) : Prop where
  one : 1 ≤ m
  most : m ≤ 40
  some_ : 0 < n
  rows : n ≤ 20
  row : ∀ i, i < n → RowOk ((m : Int) + i) (L i) (R i)
theorem parOk_of {m : Int} {n : Nat} {L : Nat → Nat} {R : Nat → Nat → Int} (h : parErrI m n L R = 0) : 1 ≤ m ∧ ParOk m.toNat n L R := by
  unfold parErrI at h
  by_cases h1 : 1 ≤ m ∧ m ≤ 40
  · rw [if_pos h1] at h
    by_cases h2 : n = 0
    · rw [if_pos h2] at h; exact absurd h (by decide)
    rw [if_neg h2] at h
    by_cases h3 : 20 < n
    · rw [if_pos h3] at h; exact absurd h (by decide)
    rw [if_neg h3] at h
    have ha := firstBad_all h
    exact ⟨h1.1, by omega, by omega, by omega, by omega, fun i hi => rowOk_of (by
      have := ha i hi
      unfold parRow at this
      rwa [show m = ((m.toNat : Nat) : Int) by omega] at this)⟩
  · rw [if_neg h1] at h; exact absurd h (by decide)
/-- Positions of a right code are places of a word. -/
theorem ParOk.place {m n : Nat} {L : Nat → Nat} {R : Nat → Nat → Int} (h : ParOk m n L R) {i k : Nat} (hi : i < n) (hk : k < L i) : 0 ≤ R i k ∧ (R i k).toNat < m + n := by
  have := (h.row i hi).range k hk
  omega

/-- The sum of the numbers at the positions. -/
def psum (X R : Nat → Int) : Nat → Int
  | 0 => 0
  | k + 1 => psum X R k + X (R k).toNat
theorem psum_congr {X Y R : Nat → Int} : ∀ {k : Nat}, (∀ j, j < k → X (R j).toNat = Y (R j).toNat) → psum X R k = psum Y R k
  | 0, _ => rfl
  | k + 1, h => by
    unfold psum
    rw [psum_congr (k := k) (fun j hj => h j (by omega)), h k (by omega)]
theorem psum_in {X R : Nat → Int} : ∀ {k : Nat}, (∀ j, j < k → IsBit (X (R j).toNat)) → 0 ≤ psum X R k ∧ psum X R k ≤ k
  | 0, _ => ⟨Int.le_refl _, Int.le_refl _⟩
  | k + 1, h => by
    have h1 := psum_in (k := k) (fun j hj => h j (by omega))
    have h2 := (h k (by omega)).le
    unfold psum
    omega
theorem psum_xor {X R : Nat → Int} {k : Nat} (h : IsBit (X (R k).toNat)) : bits .xor .i64 (psum X R k % 2) (X (R k).toNat) = psum X R (k + 1) % 2 := by
  have hb : IsBit (psum X R k % 2) := by unfold IsBit; omega
  rw [xor1_bits hb h]
  unfold xor1
  show _ = (psum X R k + X (R k).toNat) % 2
  omega
def oddB (X : Nat → Int) (L : Nat) (R : Nat → Int) : Bool := psum X R L % 2 == 1
theorem oddB_congr {X Y R : Nat → Int} {L : Nat} (h : ∀ j, j < L → X (R j).toNat = Y (R j).toNat) : oddB X L R = oddB Y L R := by unfold oddB; rw [psum_congr h]

/-- The numbers below n of which something holds. -/
def pickL (p : Nat → Bool) (n : Nat) : List Nat := (List.range n).filter p
def pickN (p : Nat → Bool) (n : Nat) : Nat := (pickL p n).length
def pickF (p : Nat → Bool) (n : Nat) (j : Nat) : Int := ((pickL p n)[j]?.getD 0 : Nat)
theorem pickL_yes {p : Nat → Bool} {k : Nat} (h : p k = true) : pickL p (k + 1) = pickL p k ++ [k] := by unfold pickL; rw [List.range_succ, List.filter_append]; simp [h]
theorem pickL_no {p : Nat → Bool} {k : Nat} (h : p k = false) : pickL p (k + 1) = pickL p k := by unfold pickL; rw [List.range_succ, List.filter_append]; simp [h]
theorem pickN_yes {p : Nat → Bool} {k : Nat} (h : p k = true) : pickN p (k + 1) = pickN p k + 1 := by unfold pickN; rw [pickL_yes h]; simp
theorem pickN_no {p : Nat → Bool} {k : Nat} (h : p k = false) : pickN p (k + 1) = pickN p k := by unfold pickN; rw [pickL_no h]
theorem pickF_no {p : Nat → Bool} {k : Nat} (h : p k = false) (j : Nat) : pickF p (k + 1) j = pickF p k j := by unfold pickF; rw [pickL_no h]
theorem pickF_yes {p : Nat → Bool} {k : Nat} (h : p k = true) {j : Nat} (hj : j < pickN p k + 1) : catF (pickN p k) (pickF p k) (fun _ => (k : Int)) j = pickF p (k + 1) j := by
  unfold catF pickF
  rw [pickL_yes h]
  by_cases e : j < pickN p k
  · rw [if_pos e, List.getElem?_append_left e]
  · rw [if_neg e]
    have : j = pickN p k := by omega
    subst this
    unfold pickN
    simp
theorem pickN_le (p : Nat → Bool) (n : Nat) : pickN p n ≤ n := by
  unfold pickN pickL
  have := List.length_filter_le p (List.range n)
  rwa [List.length_range] at this
theorem pickN_zero (p : Nat → Bool) : pickN p 0 = 0 := rfl
theorem pickN_congr {p q : Nat → Bool} {n : Nat} (h : ∀ i, i < n → p i = q i) : pickN p n = pickN q n := by
  unfold pickN pickL
  rw [List.filter_congr (fun i hi => h i (List.mem_range.1 hi))]
theorem pickN_none {p : Nat → Bool} {n : Nat} (h : ∀ i, i < n → p i = false) : pickN p n = 0 := by
  unfold pickN pickL
  rw [List.length_eq_zero_iff, List.filter_eq_nil_iff]
  intro i hi e
  rw [h i (List.mem_range.1 hi)] at e
  cases e

/-- Which rows fail. -/
def failP (L : Nat → Nat) (R : Nat → Nat → Int) (X : Nat → Int) (i : Nat) : Bool := oddB X (L i) (R i)
def failN (n : Nat) (L : Nat → Nat) (R : Nat → Nat → Int) (X : Nat → Int) : Nat := pickN (failP L R X) n
theorem failN_le (n : Nat) (L : Nat → Nat) (R : Nat → Nat → Int) (X : Nat → Int) : failN n L R X ≤ n := pickN_le _ _
/-- One bit is changed. -/
def flipF (X : Nat → Int) (i : Nat) : Nat → Int := setF X i (1 - X i)
theorem flipF_bit {X : Nat → Int} {N : Nat} (h : ∀ j, j < N → IsBit (X j)) (i : Nat) : ∀ j, j < N → IsBit (flipF X i j) := fun j hj => by
  have := h j hj
  unfold flipF setF
  split
  · subst_vars; unfold IsBit at this ⊢; omega
  · exact this
theorem flipF_twice (X : Nat → Int) (i : Nat) : setF (flipF X i) i (1 - flipF X i i) = X := by
  funext j
  unfold flipF setF
  by_cases e : j = i
  · rw [if_pos e, if_pos rfl, e]; omega
  · rw [if_neg e, if_neg e]
theorem bit_xor {x : Int} (h : IsBit x) : bits .xor .i64 x 1 = 1 - x := by
  rw [xor1_bits h (.inr rfl)]
  unfold xor1
  unfold IsBit at h
  omega

/-- The first place with the least number, if this is less than now; and the least. -/
def scanF (f : Nat → Nat) (now : Nat) : Nat → Int × Nat
  | 0 => (-1, now)
  | k + 1 => if f k < (scanF f now k).2 then ((k : Int), f k) else scanF f now k
theorem scanF_spec (f : Nat → Nat) (now : Nat) : ∀ N, ((scanF f now N).1 = -1 ∧ (scanF f now N).2 = now ∧ ∀ j, j < N → now ≤ f j) ∨
    (∃ i, i < N ∧ (scanF f now N).1 = (i : Int) ∧ (scanF f now N).2 = f i ∧ f i < now ∧ (∀ j, j < N → f i ≤ f j) ∧ ∀ j, j < i → f i < f j)
  | 0 => .inl ⟨rfl, rfl, fun j h => absurd h (Nat.not_lt_zero _)⟩
  | k + 1 => by
    unfold scanF
    rcases scanF_spec f now k with ⟨h1, h2, h3⟩ | ⟨i, hi, h1, h2, h3, h4, h5⟩
    · by_cases hk : f k < now
      · rw [h2, if_pos hk]
        exact .inr ⟨k, Nat.lt_succ_self _, rfl, rfl, hk, fun j hj => by
          rcases Nat.lt_or_ge j k with e | e
          · have := h3 j e; omega
          · obtain rfl : j = k := by omega
            exact Nat.le_refl _, fun j hj => by have := h3 j hj; omega⟩
      · rw [h2, if_neg hk]
        exact .inl ⟨h1, h2, fun j hj => by
          rcases Nat.lt_or_ge j k with e | e
          · exact h3 j e
          · obtain rfl : j = k := by omega
            omega⟩
    · by_cases hk : f k < f i
      · rw [h2, if_pos hk]
        exact .inr ⟨k, Nat.lt_succ_self _, rfl, rfl, by omega, fun j hj => by
          rcases Nat.lt_or_ge j k with e | e
          · have := h4 j e; omega
          · obtain rfl : j = k := by omega
            exact Nat.le_refl _, fun j hj => by have := h4 j hj; omega⟩
      · rw [h2, if_neg hk]
        exact .inr ⟨i, by omega, h1, h2, h3, fun j hj => by
          rcases Nat.lt_or_ge j k with e | e
          · exact h4 j e
          · obtain rfl : j = k := by omega
            omega, h5⟩
theorem scanF_none {f : Nat → Nat} {now N : Nat} (h : ∀ j, j < N → now ≤ f j) : (scanF f now N).1 = -1 := by
  rcases scanF_spec f now N with ⟨h1, -⟩ | ⟨i, hi, -, -, h3, -⟩
  · exact h1
  · have := h i hi; omega
theorem scanF_at {f : Nat → Nat} {now N i : Nat} (hi : i < N) (h1 : f i < now) (h2 : ∀ j, j < N → f i ≤ f j) (h3 : ∀ j, j < i → f i < f j) : (scanF f now N).1 = (i : Int) := by
  rcases scanF_spec f now N with ⟨-, -, g⟩ | ⟨k, hk, g1, -, -, g4, g5⟩
  · have := g i hi; omega
  · rw [g1]
    rcases Nat.lt_trichotomy i k with e | e | e
    · have := g5 i e; have := h2 k hk; omega
    · rw [e]
    · have := h3 k e; have := g4 i hi; omega
theorem scanF_le (f : Nat → Nat) (now : Nat) (N : Nat) : (scanF f now N).2 ≤ now := by
  rcases scanF_spec f now N with ⟨-, h2, -⟩ | ⟨i, -, -, h2, h3, -⟩ <;> omega

section
variable (n : Nat) (L : Nat → Nat) (R : Nat → Nat → Int)
/-- How many rows fail with one bit changed. -/
def behindN (X : Nat → Int) (i : Nat) : Nat := failN n L R (flipF X i)
/-- The bit that is changed next, of N, or -1. -/
def nextI (N : Nat) (X : Nat → Int) : Int := (scanF (behindN n L R X) (failN n L R X) N).1
/-- The word behind c changes. -/
def iterF (N : Nat) (X : Nat → Int) : Nat → Nat → Int
  | 0 => X
  | c + 1 => if 0 ≤ nextI n L R N (iterF N X c) then flipF (iterF N X c) (nextI n L R N (iterF N X c)).toNat else iterF N X c
/-- Behind c changes, each one called for. -/
def Iter (N : Nat) (X : Nat → Int) (c : Nat) (Z : Nat → Int) : Prop := Z = iterF n L R N X c ∧ ∀ d, d < c → 0 ≤ nextI n L R N (iterF n L R N X d)
end
section
variable {n : Nat} {L : Nat → Nat} {R : Nat → Nat → Int}
theorem nextI_spec (N : Nat) (X : Nat → Int) : (nextI n L R N X = -1 ∧ ∀ j, j < N → failN n L R X ≤ behindN n L R X j) ∨
    ∃ i, i < N ∧ nextI n L R N X = (i : Int) ∧ behindN n L R X i < failN n L R X := by
  rcases scanF_spec (behindN n L R X) (failN n L R X) N with ⟨h1, -, h3⟩ | ⟨i, hi, h1, -, h3, -⟩
  · exact .inl ⟨h1, h3⟩
  · exact .inr ⟨i, hi, h1, h3⟩
theorem Iter.zero (N : Nat) (X : Nat → Int) : Iter n L R N X 0 X := ⟨rfl, fun d h => absurd h (Nat.not_lt_zero _)⟩
theorem Iter.step {N c i : Nat} {X Z : Nat → Int} (h : Iter n L R N X c Z) (hi : nextI n L R N Z = (i : Int)) : Iter n L R N X (c + 1) (flipF Z i) := by
  obtain ⟨rfl, h2⟩ := h
  refine ⟨?_, fun d hd => ?_⟩
  · show _ = if 0 ≤ nextI n L R N (iterF n L R N X c) then _ else _
    rw [if_pos (by rw [hi]; omega), hi]
    rfl
  · rcases Nat.lt_or_ge d c with e | e
    · exact h2 d e
    · obtain rfl : d = c := by omega
      rw [hi]; omega
theorem Iter.fewer {N c : Nat} {X Z : Nat → Int} (h : Iter n L R N X c Z) : failN n L R Z + c ≤ failN n L R X := by
  obtain ⟨rfl, h2⟩ := h
  induction c with
  | zero => exact Nat.le_refl _
  | succ c ih =>
    have h1 := ih (fun d hd => h2 d (by omega))
    have h0 := h2 c (Nat.lt_succ_self _)
    rcases nextI_spec (n := n) (L := L) (R := R) N (iterF n L R N X c) with ⟨g1, -⟩ | ⟨i, hi, g1, g2⟩
    · rw [g1] at h0; exact absurd h0 (by decide)
    · have e : iterF n L R N X (c + 1) = flipF (iterF n L R N X c) i := by
        show (if 0 ≤ nextI n L R N (iterF n L R N X c) then _ else _) = _
        rw [if_pos h0, g1]
        rfl
      rw [e]
      have : failN n L R (flipF (iterF n L R N X c) i) < failN n L R (iterF n L R N X c) := g2
      omega
theorem Iter.bits {N c M : Nat} {X Z : Nat → Int} (h : Iter n L R N X c Z) (hX : ∀ j, j < M → IsBit (X j)) : ∀ j, j < M → IsBit (Z j) := by
  obtain ⟨rfl, -⟩ := h
  induction c with
  | zero => exact hX
  | succ c ih =>
    show ∀ j, j < M → IsBit ((if 0 ≤ nextI n L R N (iterF n L R N X c) then _ else _ : Nat → Int) j)
    split
    · exact flipF_bit ih _
    · exact ih
/-- Flipping ends with one word. -/
theorem Iter.same {N c d : Nat} {X Y Z : Nat → Int} (h : Iter n L R N X c Y) (h1 : nextI n L R N Y = -1) (k : Iter n L R N X d Z) (k1 : nextI n L R N Z = -1) : c = d ∧ Y = Z := by
  obtain ⟨rfl, h2⟩ := h
  obtain ⟨rfl, k2⟩ := k
  rcases Nat.lt_trichotomy c d with e | e | e
  · have := k2 c e; rw [h1] at this; exact absurd this (by decide)
  · subst e; exact ⟨rfl, rfl⟩
  · have := h2 d e; rw [k1] at this; exact absurd this (by decide)
end

/-- The word of bits behind r rows. -/
def encF (m : Nat) (L : Nat → Nat) (R : Nat → Nat → Int) (B : Nat → Int) : Nat → Nat → Int
  | 0 => B
  | r + 1 => catF (m + r) (encF m L R B r) (fun _ => psum (encF m L R B r) (R r) (L r - 1) % 2)
theorem encF_bit {m : Nat} {L : Nat → Nat} {R : Nat → Nat → Int} {B : Nat → Int} (hB : ∀ j, j < m → IsBit (B j)) : ∀ r j, j < m + r → IsBit (encF m L R B r j)
  | 0, j, hj => hB j hj
  | r + 1, j, hj => by
    show IsBit (catF (m + r) (encF m L R B r) _ j)
    unfold catF
    split
    · exact encF_bit hB r j (by assumption)
    · show IsBit (psum (encF m L R B r) (R r) (L r - 1) % 2)
      unfold IsBit; omega
theorem encF_keep {m : Nat} {L : Nat → Nat} {R : Nat → Nat → Int} {B : Nat → Int} {r j : Nat} (hj : j < m + r) : encF m L R B (r + 1) j = encF m L R B r j := if_pos hj
theorem encF_begin {m : Nat} {L : Nat → Nat} {R : Nat → Nat → Int} {B : Nat → Int} : ∀ {r j : Nat}, j < m → encF m L R B r j = B j
  | 0, _, _ => rfl
  | r + 1, j, hj => by rw [encF_keep (by omega)]; exact encF_begin hj
theorem encF_late {m : Nat} {L : Nat → Nat} {R : Nat → Nat → Int} {B : Nat → Int} {r : Nat} : ∀ {d j : Nat}, j < m + r → encF m L R B (r + d) j = encF m L R B r j
  | 0, _, _ => rfl
  | d + 1, j, hj => by rw [← Nat.add_assoc, encF_keep (by omega)]; exact encF_late hj
/-- A 0 behind the word changes nothing of the row. -/
theorem psum_open {m r : Nat} {L : Nat → Nat} {R : Nat → Nat → Int} {E : Nat → Int} (h : RowOk ((m : Int) + r) (L r) (R r)) : psum (catF (m + r) E (fun _ => 0)) (R r) (L r) = psum E (R r) (L r - 1) := by
  have h2 := h.two
  obtain ⟨l, hl⟩ : ∃ l, L r = l + 1 := ⟨L r - 1, by omega⟩
  have hlast := h.last
  have hbel := h.below
  have hrng := h.range
  rw [hl, Nat.add_sub_cancel] at *
  show psum (catF (m + r) E (fun _ => 0)) (R r) l + catF (m + r) E (fun _ => 0) (R r l).toNat = psum E (R r) l
  have e1 : psum (catF (m + r) E (fun _ => 0)) (R r) l = psum E (R r) l := psum_congr fun j hj => by
    have a1 := hbel j (by omega)
    have a2 := hrng j (by omega)
    unfold catF
    rw [if_pos (by omega)]
  have e2 : catF (m + r) E (fun _ => 0) (R r l).toNat = 0 := by
    rw [hlast]
    unfold catF
    rw [if_neg (by omega)]
  rw [e1, e2, Int.add_zero]
/-- The word of bits fails in no row. -/
theorem encF_right {m n : Nat} {L : Nat → Nat} {R : Nat → Nat → Int} {B : Nat → Int} (h : ParOk m n L R) (i : Nat) (hi : i < n) : oddB (encF m L R B n) (L i) (R i) = false := by
  have hr := h.row i hi
  have h2 := hr.two
  have hlast := hr.last
  have hbel := hr.below
  have hrng := hr.range
  obtain ⟨l, hl⟩ : ∃ l, L i = l + 1 := ⟨L i - 1, by omega⟩
  obtain ⟨d, hd⟩ : ∃ d, n = i + 1 + d := ⟨n - (i + 1), by omega⟩
  have e0 : oddB (encF m L R B n) (L i) (R i) = oddB (encF m L R B (i + 1)) (L i) (R i) := oddB_congr fun j hj => by
    have := hrng j hj
    rw [hd]
    exact encF_late (by omega)
  rw [e0]
  unfold oddB
  rw [hl] at hlast hbel hrng
  rw [Nat.add_sub_cancel] at hlast
  have e1 : psum (encF m L R B (i + 1)) (R i) l = psum (encF m L R B i) (R i) l := psum_congr fun j hj => by
    have a1 := hbel j (by omega)
    have a2 := hrng j (by omega)
    exact encF_keep (by omega)
  have e2 : encF m L R B (i + 1) (R i l).toNat = psum (encF m L R B i) (R i) l % 2 := by
    show catF (m + i) (encF m L R B i) (fun _ => psum (encF m L R B i) (R i) (L i - 1) % 2) (R i l).toNat = _
    rw [hlast, hl, Nat.add_sub_cancel]
    unfold catF
    rw [if_neg (by omega)]
  rw [show psum (encF m L R B (i + 1)) (R i) (L i) = psum (encF m L R B (i + 1)) (R i) l + encF m L R B (i + 1) (R i l).toNat from by rw [hl]; rfl]
  rw [e1, e2]
  simp
  omega
end Go.Proofs.Ytdkoohfcpikgiaa
