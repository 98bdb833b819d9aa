/- A region whose last operation stores, inside a round of a range over a function: its orders come to one end. -/
import Derived.Test.YtjelbemfljobaaaJc
import Derived.StillTailTactics
import Derived.OrdersIn
namespace Go.Proofs.Ytjelbemfljobaaa
open Go
/-- An operation that is about no function. -/
def plainOp (o : Oper) : Bool := match o.op with
  | .move .. | .assign .. | .load .. | .store .. | .binOp .. | .fieldAddr .. | .indexAddr .. => true
  | _ => false
theorem run_val {P : Program} {s : Sem Value} {w : World} {r : Result Next} (h : ((do pure (.value (← s))) : Sem Next).run P w = r) : (∃ v w', r = .ok (.value v) w') ∨ (∃ w', r = .ok .skip w') ∨ ∃ x w', r = .halt x w' := by
  rw [Sem.run_bind] at h
  cases hs : s.run P w with
  | ok v w' => rw [hs] at h; exact .inl ⟨v, w', h.symm⟩
  | halt x w' => rw [hs] at h; exact .inr (.inr ⟨x, w', h.symm⟩)
theorem run_unit {P : Program} {s : Sem Unit} {w : World} {r : Result Next} (h : ((do s; pure .skip) : Sem Next).run P w = r) : (∃ v w', r = .ok (.value v) w') ∨ (∃ w', r = .ok .skip w') ∨ ∃ x w', r = .halt x w' := by
  rw [Sem.run_bind] at h
  cases hs : s.run P w with
  | ok v w' => rw [hs] at h; exact .inr (.inl ⟨w', h.symm⟩)
  | halt x w' => rw [hs] at h; exact .inr (.inr ⟨x, w', h.symm⟩)
theorem plain_result {P : Program} {o : Oper} (hp : plainOp o = true) (ρ : Operand → Value) (w : World) {r : Result Next} (h : (execOp ρ o).run P w = r) : (∃ v w', r = .ok (.value v) w') ∨ (∃ w', r = .ok .skip w') ∨ ∃ x w', r = .halt x w' := by
  unfold plainOp at hp
  unfold execOp at h
  cases ho : o.op <;> rw [ho] at hp h <;> first | (simp at hp; done) | exact run_val h | exact run_unit h | (exact .inl ⟨_, _, h.symm⟩)
theorem plain_wpIn {F : Fence} {n : Nat} {P : Program} {o : Oper} (hp : plainOp o = true) {a : Act} {w : World} {K : Act → World → Prop} {Q : Exit → Act → World → Prop} (h : o.wp P a w K Q) : o.wpIn F n P a w K Q := by
  have hd : ∀ c, o.op ≠ .defer c := fun c e => by unfold plainOp at hp; rw [e] at hp; cases hp
  refine ⟨fun f hf => ?_, ?_⟩
  · exfalso
    unfold Oper.about at hf
    unfold plainOp at hp
    cases ho : o.op <;> rw [ho] at hp hf <;> first | cases hf | cases hp
  · rw [Oper.semAt_eq _ _ _ hd]
    unfold Oper.wp at h
    rcases plain_result hp a.eval w (rfl : (execOp a.eval o).run P w = _) with ⟨v, w', e⟩ | ⟨w', e⟩ | ⟨x, w', e⟩
    · rw [e] at h ⊢; exact h
    · rw [e] at h ⊢; exact h
    · rw [e] at h ⊢; cases x <;> first | exact h | exact h.elim
theorem plain_about {P : Program} {o : Oper} (hp : plainOp o = true) (w : World) (ρ : Operand → Value) {f : FuncId} (hf : o.about P w ρ = some f) : False := by
  unfold Oper.about at hf
  unfold plainOp at hp
  cases ho : o.op <;> rw [ho] at hp hf <;> first | cases hf | cases hp
theorem wpAnyIn_of_plain {F : Fence} {n : Nat} {P : Program} {md : Region.Mode} {ops : Array Oper} {Q : Exit → Act → World → Prop} (hQ : ¬ LetsOut Q) (hp : ∀ (i : Nat) o, ops[i]? = some o → plainOp o = true) : ∀ (fuel : Nat) (listed : Array Bool) (a : Act) (w : World), wpAny P md ops Q fuel listed a w → wpAnyIn F n P md ops Q fuel listed a w
  | 0, _, _, _, h => h
  | fuel + 1, listed, a, w, h => by
    refine ⟨h.1, fun i hi => ?_⟩
    have h2 := h.2 i hi
    unfold wpOp at h2
    unfold wpOpIn
    cases ho : ops[i]? with
    | none =>
      rw [ho] at h2
      exact wpAnyIn_of_plain hQ hp fuel _ a w h2
    | some o =>
      rw [ho] at h2
      simp only at h2 ⊢
      by_cases hw : Region.wanted o (yielded ops a.tmps) = true
      · rw [if_pos hw] at h2 ⊢
        exact plain_wpIn (hp i o ho) (Oper.wp_mono (fun a' w' h' => wpAnyIn_of_plain hQ hp fuel _ a' w' h') (h2.resolve_right fun h => hQ h.2))
      · rw [if_neg hw] at h2 ⊢
        exact ⟨fun f hf => (plain_about (hp i o ho) _ _ hf).elim, wpAnyIn_of_plain hQ hp fuel _ _ w h2⟩
theorem wpIn_region_tail {F : Fence} {g : Nat} {P : Program} {id : Nat} {Q : Exit → Act → World → Prop} {a : Act} {w : World} {l : List Oper} (n : Nat) (hm : P.follows .mixedOrders = true) (hB : Region.lexTailB .any l.toArray n = true) (hp : l.all plainOp = true) (hQ : ¬ LetsOut Q)
    (h : wpStill P l.toArray { w with drawn := w.drawn + 1 } (fun a' => wpList P l.toArray Q (l.drop n) a' { w with drawn := w.drawn + 1 }) (l.take n) a) : (Code.region id l.toArray true).wpIn F g P Q a w := by
  simp only [Region.lexTailB, Bool.and_eq_true, decide_eq_true_eq] at hB
  obtain ⟨⟨⟨⟨hsel, hn⟩, hs⟩, hc⟩, hlex⟩ := hB
  have hn' : n < l.length := by simpa using hn
  have htl : (l.take n).length = n := by simp; omega
  have hdl : (l.drop n).length = l.toArray.size - n := by simp
  have inv0 : HeadInv .any l.toArray n (Array.replicate l.toArray.size false) :=
    ⟨by simp, fun j oj _ hl => (by rw [getD_replicate_false] at hl; cases hl), fun t _ ht => getD_in (by simpa using ht) (getD_replicate_false _ _)⟩
  have H := wpAnyL_lex (md := .any) (g := l.toArray.size - n) hsel hs hc hn (l.take n) 0 _ a (fun j hj => by
    have hj' : j < n := by rw [htl] at hj; exact hj
    simp [hj']) (by simpa using htl) inv0 (by rw [htl]; exact hlex) h
  refine wpIn_region_any hm (wpAnyIn_of_plain hQ (fun i o ho => ?_) _ _ _ _ ?_)
  · have hmem : o ∈ l := by
      rw [List.getElem?_toArray] at ho
      exact List.mem_of_getElem? ho
    exact List.all_eq_true.1 hp o hmem
  · have := wpAny_of_head (Q' := Q) (g := l.toArray.size - n) (fun listed a' hL => by
      have := wpAny_of_seq (md := .any) (Q' := Q) (l.drop n) n listed a' { w with drawn := w.drawn + 1 } (fun j => by simp [List.getElem?_drop]) (by rw [hdl]; exact hL.1) hL.2
      rwa [hdl] at this) _ _ _ H
    rw [htl, show n + (l.toArray.size - n) = l.toArray.size by omega] at this
    exact this
end Go.Proofs.Ytjelbemfljobaaa
