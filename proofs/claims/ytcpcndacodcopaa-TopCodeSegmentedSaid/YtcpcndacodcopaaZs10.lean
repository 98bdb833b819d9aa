/- Lemmas: Mj, Jg. -/
import Derived.StillTailTactics
import Derived.OrdersIn
import Derived.Test.YtcpcndacodcopaaZs02
import Derived.Test.YtcpcndacodcopaaZs05
import Derived.Test.YtcpcndacodcopaaZs06
import Derived.Test.YtcpcndacodcopaaZs07
set_option linter.unusedVariables false
set_option linter.unusedSimpArgs false
/- slices.Concat of two and checked: their result is the call's own, its capacity is bounded. -/
namespace Go.Proofs.Ytcpcndacodcopaa
open Go.RowKit Go.Lib
set_option maxHeartbeats 4000000 in
theorem concat_own (g t : Nat) (A C : Option Addr) (n m c d e0 : Nat) (F G : Nat → Int) (w : World) (hn : n ≤ 1000000) (hm : m ≤ 1000000) (bx : Box w g t #[.slice A n c, .slice C m d]) (hF : IntsAt w 0 A n F) (hG : IntsAt w 0 C m G) :
    Calls Try.prog 88 #[.slice (some ⟨g, 0, none⟩) 2 e0] w fun e w' => ∃ v, e = .returned v ∧ OwnInts w' w.heap.size v (n + m) (catF n F G) ∧ Below w.heap.size w w' := by
  have HF := hide hF
  have HG := hide hG
  have y0 := bx.at_ 0
  have y1 := bx.at_ 1
  simp only [List.getElem?_toArray] at y0 y1
  clear hF hG
  go_enter Try.func88, Try.ntmps88
  go_wp2_with fail
  go_loopw [3, 11] (fun z i wr => ZAt n m i z ∧ wr = w) (fun _ i _ => 2 - (intOf i).toNat)
  case atStart => exact ⟨.inl ⟨rfl, rfl⟩, rfl⟩
  case round =>
    obtain ⟨hz, rfl⟩ := hrel
    rcases hz with ⟨rfl, rfl⟩ | ⟨rfl, rfl⟩ | ⟨rfl, rfl⟩
    · go_wp2_with fail
      go_roundw
      case rel => exact ⟨.inr (.inl ⟨rfl, rfl⟩), by first | rfl | trivial⟩
      case measure => simp [intOf]
    · go_wp2_with fail
      go_roundw
      case rel => exact ⟨.inr (.inr ⟨rfl, rfl⟩), by first | rfl | trivial⟩
      case measure => simp [intOf]
    · go_wp2_with fail
      rw [show (n : Int) + m = ((n + m : Nat) : Int) from by omega]
      refine (grow_any (n + m) _ (by omega)).mono ?_
      rintro e w1 ⟨v, rfl, hown, hb1⟩
      have z0 := (bx.below hb1).at_ 0
      have z1 := (bx.below hb1).at_ 1
      simp only [List.getElem?_toArray] at z0 z1
      go_wp2_with fail
      obtain ⟨wo, rfl⟩ : ∃ wo : World, wo = wr := ⟨_, rfl⟩
      go_loopw [6, 27] (fun v i wx => OAt wo n m F G i v wx ∧ Below wo.heap.size wo wx) (fun _ i _ => 2 - (intOf i).toNat)
      case atStart => exact ⟨.inl ⟨rfl, hown⟩, hb1⟩
      case round =>
        clear z0 z1
        obtain ⟨ho, hB⟩ := hrel
        have z0 := (bx.below hB).at_ 0
        have z1 := (bx.below hB).at_ 1
        simp only [List.getElem?_toArray] at z0 z1
        have hF := HF.out.below hB
        have hG := HG.out.below hB
        have hs := hB.size
        rcases ho with ⟨rfl, ho⟩ | ⟨rfl, ho⟩ | ⟨rfl, ho⟩
        · obtain ⟨A', c', rfl, -, -⟩ := ho.form
          go_wp2_with (at_builtin; refine wpList_append_ints _ rfl (.tmp 31) (.tmp 32) rfl wo.heap.size 0 (.slice A' 0 c') 0 (fun _ => 0) rfl ho A n c F rfl hF (by omega) hs ?_; intro v' w' h1 hb2)
          go_roundw
          case rel => exact ⟨.inr (.inl ⟨rfl, by rw [Nat.zero_add] at h1; exact h1.congr fun j _ => by simp [catF]⟩), hB.trans hb2⟩
          case measure => simp [intOf]
        · obtain ⟨A', c', rfl, -, -⟩ := ho.form
          go_wp2_with (at_builtin; refine wpList_append_ints _ rfl (.tmp 31) (.tmp 32) rfl wo.heap.size 0 (.slice A' n c') n F rfl ho C m d G rfl hG (by omega) hs ?_; intro v' w' h1 hb2)
          go_roundw
          case rel => exact ⟨.inr (.inr ⟨rfl, h1⟩), hB.trans hb2⟩
          case measure => simp [intOf]
        · go_wp2_with fail
          go_ret
          exact ⟨_, rfl, ho, hB⟩
set_option maxHeartbeats 1000000 in
theorem checked_own (d t : Nat) (A : Option Addr) (n c : Nat) (F : Nat → Int) (w : World) (h0 : 1 ≤ d) (h1 : d ≤ 16) (t1 : t < 2 ^ d) (hn : n ≤ 100000) (hI : IntsAt w 0 A n F) (hb : ∀ k, k < n → IsBit (F k)) :
    Calls Try.prog 48 #[.agg #[.int .i64 (d : Int), .int .i64 (t : Int)], .slice A n c] w fun e w' => ∃ A' c', e = .returned (.slice A' (n + d) c') ∧ n + d ≤ c' ∧ c' ≤ 9223372036854775807 ∧ IntsAt w' w.heap.size A' (n + d) (catF n F (remB d t n F)) ∧ Below w.heap.size w w' := by
  have HI := hide hI
  have HB := hide hb
  clear hI hb
  go_enter Try.func48, Try.ntmps48
  go_wp2_with fail
  refine (remainder_any d t A n c F _ h0 h1 t1 hn (HI.out.alloc _) HB.out).mono ?_
  rintro e w1 ⟨v, rfl, A1, c1, rfl, hc1, hI1, hb1⟩
  have hB1 := below_of_alloc hb1
  have hI0 := HI.out.below hB1
  have hs1 := hB1.size
  go_wp2_with fail
  refine (concat_own w1.heap.size 26 A A1 n d c c1 2 F (remB d t n F) _ (by omega) (by omega) (Box.made rfl) (hI0.alloc _) ((hI1.weak (Nat.zero_le _)).alloc _)).mono ?_
  rintro e w2 ⟨v, rfl, hown2, hb2⟩
  obtain ⟨A2, c2, rfl, hc2, hI2⟩ := hown2.form
  have hc29 := hown2.cap_any.2
  have hB2 := hB1.trans ((below_of_alloc hb2).mono hs1)
  go_wp2_with fail
  go_ret
  exact ⟨A2, c2, rfl, hc2, hc29, hI2.weak (by simp; omega), hB2⟩
end Go.Proofs.Ytcpcndacodcopaa
/- A region whose last operation stores, inside a round of a range over a function: its orders come to one end. -/
namespace Go.Proofs.Ytcpcndacodcopaa
open Go
/-- An operation that is about no function. -/
def plainOp (o : Oper) : Bool := match o.op with
  | .move .. | .assign .. | .load .. | .store .. | .binOp .. | .fieldAddr .. | .indexAddr .. => true
  | _ => false
theorem run_val {P : Program} {s : Sem Value} {w : World} {r : Result Next} (h : ((do pure (.value (← s))) : Sem Next).run P w = r) : (∃ v w', r = .ok (.value v) w') ∨ (∃ w', r = .ok .skip w') ∨ ∃ x w', r = .halt x w' := by
  rw [Sem.run_bind] at h
  cases hs : s.run P w with
  | ok v w' => rw [hs] at h; exact .inl ⟨v, w', h.symm⟩
  | halt x w' => rw [hs] at h; exact .inr (.inr ⟨x, w', h.symm⟩)
theorem run_unit {P : Program} {s : Sem Unit} {w : World} {r : Result Next} (h : ((do s; pure .skip) : Sem Next).run P w = r) : (∃ v w', r = .ok (.value v) w') ∨ (∃ w', r = .ok .skip w') ∨ ∃ x w', r = .halt x w' := by
  rw [Sem.run_bind] at h
  cases hs : s.run P w with
  | ok v w' => rw [hs] at h; exact .inr (.inl ⟨w', h.symm⟩)
  | halt x w' => rw [hs] at h; exact .inr (.inr ⟨x, w', h.symm⟩)
theorem plain_result {P : Program} {o : Oper} (hp : plainOp o = true) (ρ : Operand → Value) (w : World) {r : Result Next} (h : (execOp ρ o).run P w = r) : (∃ v w', r = .ok (.value v) w') ∨ (∃ w', r = .ok .skip w') ∨ ∃ x w', r = .halt x w' := by
  unfold plainOp at hp
  unfold execOp at h
  cases ho : o.op <;> rw [ho] at hp h <;> first | (simp at hp; done) | exact run_val h | exact run_unit h | (exact .inl ⟨_, _, h.symm⟩)
theorem plain_wpIn {F : Fence} {n : Nat} {P : Program} {o : Oper} (hp : plainOp o = true) {a : Act} {w : World} {K : Act → World → Prop} {Q : Exit → Act → World → Prop} (h : o.wp P a w K Q) : o.wpIn F n P a w K Q := by
  have hd : ∀ c, o.op ≠ .defer c := fun c e => by unfold plainOp at hp; rw [e] at hp; cases hp
  refine ⟨fun f hf => ?_, ?_⟩
  · exfalso
    unfold Oper.about at hf
    unfold plainOp at hp
    cases ho : o.op <;> rw [ho] at hp hf <;> first | cases hf | cases hp
  · rw [Oper.semAt_eq _ _ _ hd]
    unfold Oper.wp at h
    rcases plain_result hp a.eval w (rfl : (execOp a.eval o).run P w = _) with ⟨v, w', e⟩ | ⟨w', e⟩ | ⟨x, w', e⟩
    · rw [e] at h ⊢; exact h
    · rw [e] at h ⊢; exact h
    · rw [e] at h ⊢; cases x <;> first | exact h | exact h.elim
theorem plain_about {P : Program} {o : Oper} (hp : plainOp o = true) (w : World) (ρ : Operand → Value) {f : FuncId} (hf : o.about P w ρ = some f) : False := by
  unfold Oper.about at hf
  unfold plainOp at hp
  cases ho : o.op <;> rw [ho] at hp hf <;> first | cases hf | cases hp
theorem wpAnyIn_of_plain {F : Fence} {n : Nat} {P : Program} {md : Region.Mode} {ops : Array Oper} {Q : Exit → Act → World → Prop} (hQ : ¬ LetsOut Q) (hp : ∀ (i : Nat) o, ops[i]? = some o → plainOp o = true) : ∀ (fuel : Nat) (listed : Array Bool) (a : Act) (w : World), wpAny P md ops Q fuel listed a w → wpAnyIn F n P md ops Q fuel listed a w
  | 0, _, _, _, h => h
  | fuel + 1, listed, a, w, h => by
    refine ⟨h.1, fun i hi => ?_⟩
    have h2 := h.2 i hi
    unfold wpOp at h2
    unfold wpOpIn
    cases ho : ops[i]? with
    | none =>
      rw [ho] at h2
      exact wpAnyIn_of_plain hQ hp fuel _ a w h2
    | some o =>
      rw [ho] at h2
      simp only at h2 ⊢
      by_cases hw : Region.wanted o (yielded ops a.tmps) = true
      · rw [if_pos hw] at h2 ⊢
        exact plain_wpIn (hp i o ho) (Oper.wp_mono (fun a' w' h' => wpAnyIn_of_plain hQ hp fuel _ a' w' h') (h2.resolve_right fun h => hQ h.2))
      · rw [if_neg hw] at h2 ⊢
        exact ⟨fun f hf => (plain_about (hp i o ho) _ _ hf).elim, wpAnyIn_of_plain hQ hp fuel _ _ w h2⟩
theorem wpIn_region_tail {F : Fence} {g : Nat} {P : Program} {id : Nat} {Q : Exit → Act → World → Prop} {a : Act} {w : World} {l : List Oper} (n : Nat) (hm : P.follows .mixedOrders = true) (hB : Region.lexTailB .any l.toArray n = true) (hp : l.all plainOp = true) (hQ : ¬ LetsOut Q)
    (h : wpStill P l.toArray { w with drawn := w.drawn + 1 } (fun a' => wpList P l.toArray Q (l.drop n) a' { w with drawn := w.drawn + 1 }) (l.take n) a) : (Code.region id l.toArray true).wpIn F g P Q a w := by
  simp only [Region.lexTailB, Bool.and_eq_true, decide_eq_true_eq] at hB
  obtain ⟨⟨⟨⟨hsel, hn⟩, hs⟩, hc⟩, hlex⟩ := hB
  have hn' : n < l.length := by simpa using hn
  have htl : (l.take n).length = n := by simp; omega
  have hdl : (l.drop n).length = l.toArray.size - n := by simp
  have inv0 : HeadInv .any l.toArray n (Array.replicate l.toArray.size false) :=
    ⟨by simp, fun j oj _ hl => (by rw [getD_replicate_false] at hl; cases hl), fun t _ ht => getD_in (by simpa using ht) (getD_replicate_false _ _)⟩
  have H := wpAnyL_lex (md := .any) (g := l.toArray.size - n) hsel hs hc hn (l.take n) 0 _ a (fun j hj => by
    have hj' : j < n := by rw [htl] at hj; exact hj
    simp [hj']) (by simpa using htl) inv0 (by rw [htl]; exact hlex) h
  refine wpIn_region_any hm (wpAnyIn_of_plain hQ (fun i o ho => ?_) _ _ _ _ ?_)
  · have hmem : o ∈ l := by
      rw [List.getElem?_toArray] at ho
      exact List.mem_of_getElem? ho
    exact List.all_eq_true.1 hp o hmem
  · have := wpAny_of_head (Q' := Q) (g := l.toArray.size - n) (fun listed a' hL => by
      have := wpAny_of_seq (md := .any) (Q' := Q) (l.drop n) n listed a' { w with drawn := w.drawn + 1 } (fun j => by simp [List.getElem?_drop]) (by rw [hdl]; exact hL.1) hL.2
      rwa [hdl] at this) _ _ _ H
    rw [htl, show n + (l.toArray.size - n) = l.toArray.size by omega] at this
    exact this
end Go.Proofs.Ytcpcndacodcopaa
