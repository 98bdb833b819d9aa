/- Lemmas: Pq, Pr. -/
import Derived.Deep.DeepCutAuto
import Derived.Test.YtnglmfdcnoglhaaBk01
import Derived.Test.YtnglmfdcnoglhaaBk04
import Derived.Test.YtnglmfdcnoglhaaBk08
import Derived.Test.YtnglmfdcnoglhaaBk09
import Derived.Test.YtnglmfdcnoglhaaBk10
import Derived.Test.YtnglmfdcnoglhaaBk16
set_option linter.unusedVariables false
set_option linter.unusedSimpArgs false
/- Two buffers, two blocks: what each buffer holds, reception by reception; mathematics for TopCodeNeverMixed. -/
namespace Go.Proofs.Ytnglmfdcnoglhaa
open Go.RowKit Go.Shelf
/-- The places that the first versions send. -/
def vmB (N k v p : Nat) : Bool := (List.range v).any fun u => sentB u N k p
theorem vmB_succ (N k v p : Nat) : vmB N k (v + 1) p = (vmB N k v p || sentB v N k p) := by unfold vmB; rw [List.range_succ, List.any_append]; simp
/-- Buffer b: its toggle t, its count c, and sums that tell W wherever the first u versions have sent. -/
structure HasB (N k : Nat) (T K : Nat → Int) (S : Nat → Nat → Int) (b : Nat) (t : Int) (c : Nat) (W : Nat → Int) (u : Nat) : Prop where
  tog : T b = t
  cnt : K b = (c : Int)
  part : ∃ mark, (∀ p, vmB N k u p = true → mark p = true) ∧ Part (S b) W mark N
  le : ∀ p, p < N → -((c : Int) * 80000) ≤ S b p ∧ S b p ≤ (c : Int) * 80000
theorem gather_less {v n k : Nat} {x : Nat → Int} (hk : k ≤ 80) (hx : ∀ i, i < k → -1000 ≤ x i ∧ x i ≤ 1000) : ∀ i, i ≤ k → ∀ p, -((i : Int) * 1000) ≤ gatherF v n x i p ∧ gatherF v n x i p ≤ (i : Int) * 1000
  | 0, _, p => by unfold gatherF; exact ⟨by decide, by decide⟩
  | i + 1, hi, p => by
    have ih := gather_less (v := v) (n := n) hk hx i (by omega) p
    have h1 := hx i (by omega)
    unfold gatherF
    split <;> omega
theorem HasB.begun {N k : Nat} (b : Nat) (W : Nat → Int) : HasB N k (fun _ => -1) (fun _ => 0) (fun _ _ => 0) b (-1) 0 W 0 :=
  ⟨rfl, rfl, ⟨fun _ => false, fun p h => by simp [vmB] at h, Part.none⟩, fun _ _ => ⟨by decide, by decide⟩⟩
theorem HasB.keeps {N k a b c u : Nat} {T K : Nat → Int} {S : Nat → Nat → Int} {t t' : Int} {W x : Nat → Int} (h : HasB N k T K S b t c W u) (hb : b ≠ a) : HasB N k (setF T a t') (behK T K a t') (behS T S a t' x) b t c W u := by
  have e1 : setF T a t' b = T b := if_neg hb
  have e2 : behK T K a t' b = K b := if_neg hb
  have e3 : behS T S a t' x b = S b := if_neg hb
  exact ⟨by rw [e1]; exact h.tog, by rw [e2]; exact h.cnt, by rw [e3]; exact h.part, by rw [e3]; exact h.le⟩
theorem HasB.fresh {N k a : Nat} {T K : Nat → Int} {S : Nat → Nat → Int} {t' : Int} {W x : Nat → Int} (hne : t' ≠ T a) (hk : k ≤ 80) (hx : ∀ i, i < k → -1000 ≤ x i ∧ x i ≤ 1000) (ht : ∀ i, i < k → Tells (x i) (W (placeN 0 N i))) : HasB N k (setF T a t') (behK T K a t') (behS T S a t' (gatherF 0 N x k)) a t' 1 W 1 := by
  have e3 : behS T S a t' (gatherF 0 N x k) a = gatherF 0 N x k := by
    show (if a = a then (if t' = T a then _ else _) else _) = _
    rw [if_pos rfl, if_neg hne]
  have hg := gather_less (v := 0) (n := N) hk hx k (Nat.le_refl k)
  refine ⟨if_pos rfl, ?_, ⟨fun p => false || sentB 0 N k p, fun p h => ?_, ?_⟩, fun p _ => ?_⟩
  · show (if a = a then (if t' = T a then _ else _) else _) = _
    rw [if_pos rfl, if_neg hne]; rfl
  · rw [vmB_succ] at h
    exact h
  · rw [e3]
    have hp := (Part.none (W := W) (N := N)).add ht
    intro p hp2
    have := hp p hp2
    simp only [Int.zero_add] at this
    exact this
  · rw [e3]
    have := hg p
    omega
theorem HasB.adds {N k a c u v : Nat} {T K : Nat → Int} {S : Nat → Nat → Int} {t' : Int} {W x : Nat → Int} (h : HasB N k T K S a t' c W u) (hk : k ≤ 80) (hx : ∀ i, i < k → -1000 ≤ x i ∧ x i ≤ 1000) (ht : ∀ i, i < k → Tells (x i) (W (placeN v N i))) (u' : Nat) (hu : ∀ p, vmB N k u' p = true → vmB N k u p = true ∨ sentB v N k p = true) : HasB N k (setF T a t') (behK T K a t') (behS T S a t' (gatherF v N x k)) a t' (c + 1) W u' := by
  have e3 : behS T S a t' (gatherF v N x k) a = fun p => S a p + gatherF v N x k p := by
    show (if a = a then (if t' = T a then _ else _) else _) = _
    rw [if_pos rfl, if_pos h.tog.symm]
  have hg := gather_less (v := v) (n := N) hk hx k (Nat.le_refl k)
  obtain ⟨mark, hm, hp⟩ := h.part
  refine ⟨if_pos rfl, ?_, ⟨fun p => mark p || sentB v N k p, fun p h2 => ?_, ?_⟩, fun p hp2 => ?_⟩
  · show (if a = a then (if t' = T a then _ else _) else _) = _
    rw [if_pos rfl, if_pos h.tog.symm, h.cnt]; rfl
  · rcases hu p h2 with h3 | h3
    · show (mark p || sentB v N k p) = true
      rw [hm p h3]; rfl
    · show (mark p || sentB v N k p) = true
      rw [h3, Bool.or_true]
  · rw [e3]; exact hp.add ht
  · rw [e3]
    have h1 := hg p
    have h2 := h.le p hp2
    show -(((c + 1 : Nat) : Int) * 80000) ≤ S a p + gatherF v N x k p ∧ S a p + gatherF v N x k p ≤ ((c + 1 : Nat) : Int) * 80000
    omega
/-- Where block i goes, with which toggle. -/
def mixP (i : Nat) : Nat := if i = 1 then 1 else 0
def mixT (i : Nat) : Int := if i < 2 then 0 else 1
def mixW (i : Nat) (Wo Wb : Nat → Int) : Nat → Int := if i < 2 then Wo else Wb
/-- The buffers ahead of version v of block i. -/
def MixI (N k : Nat) (T K : Nat → Int) (S : Nat → Nat → Int) (Wo Wb : Nat → Int) (i v : Nat) : Prop :=
  (i = 0 → HasB N k T K S 0 (if v = 0 then -1 else 0) v Wo v ∧ HasB N k T K S 1 (-1) 0 Wo 0) ∧
  (i = 1 → HasB N k T K S 0 0 4 Wo 4 ∧ HasB N k T K S 1 (if v = 0 then -1 else 0) v Wo v) ∧
  (i = 2 → (if v = 0 then HasB N k T K S 0 0 4 Wo 4 else HasB N k T K S 0 1 v Wb v) ∧ HasB N k T K S 1 0 4 Wo 4) ∧
  (i = 3 → HasB N k T K S 0 1 (4 + v) Wb 4 ∧ HasB N k T K S 1 0 4 Wo 4) ∧
  (i = 4 → HasB N k T K S 0 1 8 Wb 4 ∧ HasB N k T K S 1 0 4 Wo 4)
theorem MixI.over {N k : Nat} {T K : Nat → Int} {S : Nat → Nat → Int} {Wo Wb : Nat → Int} {i : Nat} (h : MixI N k T K S Wo Wb i 4) (hi : i < 4) : MixI N k T K S Wo Wb (i + 1) 0 := by
  obtain ⟨h0, h1, h2, h3, -⟩ := h
  unfold MixI
  rcases (by omega : i = 0 ∨ i = 1 ∨ i = 2 ∨ i = 3) with rfl | rfl | rfl | rfl
  · obtain ⟨a, b⟩ := h0 rfl
    exact ⟨fun h => by omega, fun _ => ⟨a, b⟩, fun h => by omega, fun h => by omega, fun h => by omega⟩
  · obtain ⟨a, b⟩ := h1 rfl
    exact ⟨fun h => by omega, fun h => by omega, fun _ => ⟨a, b⟩, fun h => by omega, fun h => by omega⟩
  · obtain ⟨a, b⟩ := h2 rfl
    exact ⟨fun h => by omega, fun h => by omega, fun h => by omega, fun _ => ⟨a, b⟩, fun h => by omega⟩
  · obtain ⟨a, b⟩ := h3 rfl
    exact ⟨fun h => by omega, fun h => by omega, fun h => by omega, fun h => by omega, fun _ => ⟨a, b⟩⟩
theorem MixI.next {N k : Nat} {T K : Nat → Int} {S : Nat → Nat → Int} {Wo Wb x : Nat → Int} {i v : Nat} (h : MixI N k T K S Wo Wb i v) (ok : BufOk 2 N T K S) (hi : i < 4) (hv : v < 4) (hk : k ≤ 80) (hx : ∀ j, j < k → -1000 ≤ x j ∧ x j ≤ 1000) (ht : ∀ j, j < k → Tells (x j) (mixW i Wo Wb (placeN v N j))) :
    (mixT i = T (mixP i) → ∀ p, p < N → -1000000000 ≤ S (mixP i) p + gatherF v N x k p ∧ S (mixP i) p + gatherF v N x k p ≤ 1000000000) ∧
    BufOk 2 N (setF T (mixP i) (mixT i)) (behK T K (mixP i) (mixT i)) (behS T S (mixP i) (mixT i) (gatherF v N x k)) ∧
    MixI N k (setF T (mixP i) (mixT i)) (behK T K (mixP i) (mixT i)) (behS T S (mixP i) (mixT i) (gatherF v N x k)) Wo Wb i (v + 1) := by
  have hg := gather_less (v := v) (n := N) hk hx k (Nat.le_refl k)
  have hkz : (k : Int) * 1000 ≤ 80 * 1000 := by omega
  have hP : mixP i < 2 := by unfold mixP; split <;> decide
  have hT : 0 ≤ mixT i ∧ mixT i ≤ 1 := by unfold mixT; split <;> decide
  have vv : ∀ p, vmB N k (v + 1) p = true → vmB N k v p = true ∨ sentB v N k p = true := fun p h => by rw [vmB_succ, Bool.or_eq_true] at h; exact h
  -- the bound of what is there, and its count
  have hold : (∀ p, p < N → -640000 ≤ S (mixP i) p ∧ S (mixP i) p ≤ 640000) ∧ K (mixP i) ≤ 8 := by
    obtain ⟨h0, h1, h2, h3, -⟩ := h
    have use : ∀ b t c W u, c ≤ 8 → HasB N k T K S b t c W u → (∀ p, p < N → -640000 ≤ S b p ∧ S b p ≤ 640000) ∧ K b ≤ 8 := fun b t c W u hc hh => ⟨fun p hp => by have := hh.le p hp; omega, by rw [hh.cnt]; omega⟩
    rcases (by omega : i = 0 ∨ i = 1 ∨ i = 2 ∨ i = 3) with rfl | rfl | rfl | rfl
    · exact use 0 _ _ _ _ (by omega) (h0 rfl).1
    · exact use 1 _ _ _ _ (by omega) (h1 rfl).2
    · have h4 := (h2 rfl).1
      by_cases hv0 : v = 0
      · rw [if_pos hv0] at h4; exact use 0 _ _ _ _ (by omega) h4
      · rw [if_neg hv0] at h4; exact use 0 _ _ _ _ (by omega) h4
    · exact use 0 _ _ _ _ (by omega) (h3 rfl).1
  obtain ⟨hold, hcnt⟩ := hold
  refine ⟨fun _ p hp => by have := hold p hp; have := hg p; omega, ?_, ?_⟩
  · refine ok.next hT hP (by omega) fun p hp => ?_
    have h1 := hold p hp
    have h2 := hg p
    show -900000000 ≤ (if mixP i = mixP i then (if mixT i = T (mixP i) then fun j => S (mixP i) j + gatherF v N x k j else gatherF v N x k) else S (mixP i)) p ∧ (if mixP i = mixP i then (if mixT i = T (mixP i) then fun j => S (mixP i) j + gatherF v N x k j else gatherF v N x k) else S (mixP i)) p ≤ 900000000
    rw [if_pos rfl]
    split <;> (try dsimp only) <;> omega
  · obtain ⟨h0, h1, h2, h3, -⟩ := h
    rcases (by omega : i = 0 ∨ i = 1 ∨ i = 2 ∨ i = 3) with rfl | rfl | rfl | rfl
    · obtain ⟨a, b⟩ := h0 rfl
      refine ⟨fun _ => ⟨?_, b.keeps (by decide)⟩, fun h => by omega, fun h => by omega, fun h => by omega, fun h => by omega⟩
      rw [if_neg (Nat.succ_ne_zero v)]
      by_cases hv0 : v = 0
      · subst hv0
        exact HasB.fresh (by show (0 : Int) ≠ T 0; rw [a.tog]; decide) hk hx ht
      · rw [if_neg hv0] at a
        exact a.adds hk hx ht (v + 1) vv
    · obtain ⟨a, b⟩ := h1 rfl
      refine ⟨fun h => by omega, fun _ => ⟨a.keeps (by decide), ?_⟩, fun h => by omega, fun h => by omega, fun h => by omega⟩
      rw [if_neg (Nat.succ_ne_zero v)]
      by_cases hv0 : v = 0
      · subst hv0
        exact HasB.fresh (by show (0 : Int) ≠ T 1; rw [b.tog]; decide) hk hx ht
      · rw [if_neg hv0] at b
        exact b.adds hk hx ht (v + 1) vv
    · obtain ⟨a, b⟩ := h2 rfl
      refine ⟨fun h => by omega, fun h => by omega, fun _ => ⟨?_, b.keeps (by decide)⟩, fun h => by omega, fun h => by omega⟩
      rw [if_neg (Nat.succ_ne_zero v)]
      by_cases hv0 : v = 0
      · subst hv0
        rw [if_pos rfl] at a
        exact HasB.fresh (by show (1 : Int) ≠ T 0; rw [a.tog]; decide) hk hx ht
      · rw [if_neg hv0] at a
        exact a.adds hk hx ht (v + 1) vv
    · obtain ⟨a, b⟩ := h3 rfl
      exact ⟨fun h => by omega, fun h => by omega, fun h => by omega, fun _ => ⟨a.adds hk hx ht 4 (fun p h => .inl h), b.keeps (by decide)⟩, fun h => by omega⟩
theorem MixI.begun {N k : Nat} (Wo Wb : Nat → Int) : MixI N k (fun _ => -1) (fun _ => 0) (fun _ _ => 0) Wo Wb 0 0 :=
  ⟨fun _ => ⟨HasB.begun 0 Wo, HasB.begun 1 Wo⟩, fun h => by omega, fun h => by omega, fun h => by omega, fun h => by omega⟩
theorem HasB.tells {N k b c : Nat} {T K : Nat → Int} {S : Nat → Nat → Int} {t : Int} {W : Nat → Int} (h : HasB N k T K S b t c W 4) (hk : N ≤ 4 * k) : ∀ p, p < N → Tells (S b p) (W p) := fun p hp => by
  obtain ⟨mark, hm, hpt⟩ := h.part
  obtain ⟨v, hv, hs⟩ := four_all hp hk
  have hmk := hm p (by unfold vmB; rw [List.any_eq_true]; exact ⟨v, List.mem_range.2 hv, hs⟩)
  rcases hpt p hp with ⟨-, h2⟩ | ⟨-, h2⟩
  · rw [hmk] at h2; exact absurd h2 (by decide)
  · exact h2
end Go.Proofs.Ytnglmfdcnoglhaa
/- TopCodeNeverMixed: the walk. -/
namespace Go.Proofs.Ytnglmfdcnoglhaa
open Go.RowKit Go.Shelf
/-- What the loops over blocks and versions keep. -/
structure MixS (w : World) (hb gk : Nat) (cv kv : Array Value) (D : Option Addr) (cD N : Nat) (W : World) : Prop where
  bc : Box W w.heap.size 28 cv
  bb : Box W hb 36 #[.int .i64 (N : Int), .slice D 2 cD]
  bk : Box W gk 24 kv
  below : Below w.heap.size w W
theorem MixS.kept {w : World} {hb gk : Nat} {cv kv : Array Value} {D : Option Addr} {cD N : Nat} {W W' : World} (h : MixS w hb gk cv kv D cD N W) (hb' : Below W.heap.size W W') : MixS w hb gk cv kv D cD N W' :=
  ⟨h.bc.below hb', h.bb.below hb', h.bk.below hb', h.below.trans (hb'.mono h.below.size)⟩
theorem mixP_mod {j : Nat} (h : j < 2) : j % 2 = mixP j := by unfold mixP; split <;> omega
set_option maxHeartbeats 40000000 in
set_option maxRecDepth 100000 in
theorem topNeverMixed_walk (d t p k : Int) (A C C2 : Option Addr) (n c m e m2 e2 : Nat) (F B B2 : Nat → Int) (w : World) (hn : n ≤ 9223372036854775807) (hm : m ≤ 9223372036854775807) (hm2 : m2 ≤ 9223372036854775807) (hI : IntsAt w 0 A n F) (hJ : IntsAt w 0 C m B) (hJ2 : IntsAt w 0 C2 m2 B2) :
    Calls Try.prog 4 #[.agg #[.int .i64 d, .int .i64 t, .int .i64 p, .slice A n c, .int .i64 k], .slice C m e, .slice C2 m2 e2] w fun r w' => r = .returned (.bool true) ∧ Below w.heap.size w w' := by
  have HI := hide hI
  have HJ := hide hJ
  have HJ2 := hide hJ2
  clear hI hJ hJ2
  go_enter Try.func4, Try.ntmps4
  go_wp2_with fail
  refine (coded_any _).mono ?_
  rintro r w1 ⟨rfl, hb1⟩
  have bc1 : Box w1 w.heap.size 28 #[.int .i64 d, .int .i64 t, .int .i64 p, .slice A n c, .int .i64 k] := (Box.made rfl).below hb1
  have hB1 : Below w.heap.size w w1 := ((Below.refl _ _).alloc (Nat.le_refl _) _).trans (hb1.mono (by simp))
  clear hb1
  obtain ⟨z0, z1, z2, z3, z4, hlz⟩ := chain_cells bc1
  go_wp2_with fail
  refine (codeRight_any d t p k A C n c m e F B _ hn hm (HI.out.below hB1) (HJ.out.below hB1)).mono ?_
  rintro r w2 ⟨rfl, hb2⟩
  have bc2 := bc1.below hb2
  have hB2 := hB1.trans (hb2.mono hB1.size)
  clear bc1 hB1 hb2 z0 z1 z2 z3 z4 hlz
  cases hcr : codeRightB d t p n F k m B
  · go_wp2_with fail
    go_ret
    exact ⟨rfl, hB2⟩
  · obtain ⟨z0, z1, z2, z3, z4, hlz⟩ := chain_cells bc2
    have HCR := hide hcr
    clear hcr
    go_wp2_with fail
    refine (codeRight_any d t p k A C2 n c m2 e2 F B2 _ hn hm2 (HI.out.below hB2) (HJ2.out.below hB2)).mono ?_
    rintro r w2' ⟨rfl, hb2⟩
    have bc3 := bc2.below hb2
    have hB3 := hB2.trans (hb2.mono hB2.size)
    clear bc2 hB2 hb2 z0 z1 z2 z3 z4 hlz
    cases hcr : codeRightB d t p n F k m2 B2
    · go_wp2_with fail
      go_ret
      exact ⟨rfl, hB3⟩
    · obtain ⟨x2, y2, q2, k2, rfl, rfl, rfl, rfl, ok⟩ := sendOk_of HCR.out
      obtain ⟨x3, y3, q3, k3, f1, f2, f3, f4, ok2⟩ := sendOk_of hcr
      obtain rfl : x3 = x2 := by omega
      obtain rfl : y3 = y2 := by omega
      obtain rfl : q3 = q2 := by omega
      obtain rfl : k3 = k2 := by omega
      clear hcr HCR f1 f2 f3 f4
      have OK := hide ok
      have OK2 := hide ok2
      have hl2 := ok.len
      have hn9 := ok.n9
      have hk80 := ok.k80
      have hk1 := ok.k1
      have hq6 := ok.q6
      have hms := ok.sum
      have hms2 := ok2.sum
      have hm66 : m ≤ 66 := by omega
      have hm266 : m2 ≤ 66 := by omega
      have HRC := hide (fun W A' C' c' e' S h1 h2 h3 h4 hW hW2 => Recovered_ok x3 y3 q3 k3 n m A' C' c' e' F B S W ok h1 h2 h3 h4 hW hW2)
      have HRC2 := hide (fun W A' C' c' e' S h1 h2 h3 h4 hW hW2 => Recovered_ok x3 y3 q3 k3 n m2 A' C' c' e' F B2 S W ok2 h1 h2 h3 h4 hW hW2)
      have HLN := hide (fun A' c' W => length_any q3 A' n c' W (by omega))
      obtain ⟨N, hN⟩ : ∃ N, N = 2 ^ q3 := ⟨_, rfl⟩
      have eN : (2 : Int) ^ q3 = (N : Int) := by rw [hN]; simp
      rw [eN] at HLN
      rw [← hN] at hl2 HRC HRC2
      have HN := hide hN
      obtain ⟨N1, N9⟩ := hl2
      clear ok ok2 eN hN hms hms2
      obtain ⟨z0, z1, z2, z3, z4, hlz⟩ := chain_cells bc3
      go_wp2_with fail
      refine (HLN.out _ _ _).mono ?_
      rintro r w3 ⟨rfl, hb3⟩
      have bc4 := bc3.below hb3
      have hB4 := hB3.trans (hb3.mono hB3.size)
      clear bc3 hB3 hb3 z0 z1 z2 z3 z4 hlz
      go_wp2_with fail
      refine (Begin_ok N 2 _ N1 (by omega) (by decide) (by decide)).mono ?_
      rintro r w4 ⟨D, cD, rfl, hP4, hb4⟩
      have bc5 := bc4.below hb4
      have hB5 := hB4.trans (hb4.mono hB4.size)
      clear bc4 hB4 hb4
      go_upto_region 7 with fail
      obtain ⟨w5, hw5⟩ : ∃ x : World, x = w4.alloc (.cells #[.int .i64 (N : Int), .slice D 2 cD] 36) := ⟨_, rfl⟩
      rw [← hw5]
      have bb5 : Box w5 w4.heap.size 36 #[.int .i64 (N : Int), .slice D 2 cD] := by rw [hw5]; exact Box.made rfl
      have bc6 : Box w5 w.heap.size 28 #[.int .i64 (x3 : Int), .int .i64 (y3 : Int), .int .i64 (q3 : Int), .slice A n c, .int .i64 (k3 : Int)] := by rw [hw5]; exact bc5.alloc _
      have hP5 : ProcsAt w5 0 D 2 (fun _ => -1) (fun _ => 0) (fun _ => N) (fun _ _ => 0) := by rw [hw5]; exact (hP4.weak (Nat.zero_le _)).alloc _
      have hB6 : Below w.heap.size w w5 := by rw [hw5]; exact hB5.alloc hB5.size _
      have hs5 : w4.heap.size < w5.heap.size := by rw [hw5]; simp
      have hlx4 := bc5.lt
      clear hw5 bc5 hB5 hP4
      obtain ⟨b0, b1, hlb⟩ := bufs_cells bb5
      go_wp2_with fail
      refine (buffersErrR_ok 2 N cD D _ _ _ _ (BufOk.begun (by decide) (by decide) N1 (by omega)) hP5).mono ?_
      rintro r w6 ⟨rfl, hb6⟩
      have bb6 := bb5.below hb6
      have bc7 := bc6.below hb6
      have hP6 := hP5.below hb6
      have hB7 := hB6.trans (hb6.mono hB6.size)
      have hs6 := hb6.size
      clear bb5 bc6 hP5 hB6 hb6 b0 b1 hlb
      obtain ⟨b0, b1, hlb⟩ := bufs_cells bb6
      go_wp2_with fail
      clear b0 b1 hlb
      have RI0 : MixS w w4.heap.size w6.heap.size #[.int .i64 (x3 : Int), .int .i64 (y3 : Int), .int .i64 (q3 : Int), .slice A n c, .int .i64 (k3 : Int)] #[.slice C2 m2 e2, .slice C2 m2 e2, .slice C m e, .slice C m e] D cD N (w6.alloc (.cells #[.slice C2 m2 e2, .slice C2 m2 e2, .slice C m e, .slice C m e] 24)) :=
        ⟨bc7.alloc _, bb6.alloc _, Box.made rfl, hB7.alloc hB7.size _⟩
      have HP0 := hide (hP6.alloc (.cells #[.slice C2 m2 e2, .slice C2 m2 e2, .slice C m e, .slice C m e] 24))
      clear bc7 bb6 hP6 hB7
      obtain ⟨Wo, hWo⟩ : ∃ z, z = codeF x3 y3 q3 n m2 F B2 := ⟨_, rfl⟩
      obtain ⟨Wb, hWb⟩ : ∃ z, z = codeF x3 y3 q3 n m F B := ⟨_, rfl⟩
      have HWO := hide hWo
      have HWB := hide hWb
      rw [← hWo] at HRC2
      rw [← hWb] at HRC
      clear hWo hWb
      have HPICK := hide (fun (j : Nat) (hj : j < 4) => (by
        by_cases h : j < 2
        · refine ⟨C2, m2, e2, B2, ?_, HJ2.out, OK2.out, ?_⟩
          · rcases (by omega : j = 0 ∨ j = 1) with rfl | rfl <;> rfl
          · unfold mixW; rw [if_pos h, HWO.out]
        · refine ⟨C, m, e, B, ?_, HJ.out, OK.out, ?_⟩
          · rcases (by omega : j = 2 ∨ j = 3) with rfl | rfl <;> rfl
          · unfold mixW; rw [if_neg h, HWB.out] :
        ∃ Cj mj ej Bj, (#[.slice C2 m2 e2, .slice C2 m2 e2, .slice C m e, .slice C m e] : Array Value)[j]? = some (.slice Cj mj ej) ∧ IntsAt w 0 Cj mj Bj ∧ SendOk x3 y3 q3 k3 n mj F Bj ∧ mixW j Wo Wb = codeF x3 y3 q3 n mj F Bj))
      go_loopw [11, 12, 13, 14, 15, 16, 17] (fun i _ _ _ _ _ _ wr => ∃ j : Nat, j ≤ 4 ∧ i = .int .i64 j ∧ Hid (∃ D cD T K S, MixS w w4.heap.size w6.heap.size #[.int .i64 (x3 : Int), .int .i64 (y3 : Int), .int .i64 (q3 : Int), .slice A n c, .int .i64 (k3 : Int)] #[.slice C2 m2 e2, .slice C2 m2 e2, .slice C m e, .slice C m e] D cD N wr ∧ ProcsAt wr 0 D 2 T K (fun _ => N) S ∧ BufOk 2 N T K S ∧ MixI N k3 T K S Wo Wb j 0)) (fun i _ _ _ _ _ _ _ => 4 - (intOf i).toNat)
      case atStart => exact ⟨0, Nat.zero_le _, rfl, hide ⟨D, cD, _, _, _, RI0, HP0.out, BufOk.begun (by decide) (by decide) N1 (by omega), MixI.begun _ _⟩⟩
      case round =>
        obtain ⟨j, hj, rfl, HG⟩ := hrel
        by_cases hlt : j < 4
        · have hltz : (j : Int) < 4 := by omega
          go_wp2_with fail
          go_loopw [12, 13, 14, 15, 16, 17] (fun v _ _ _ _ _ wr => ∃ u : Nat, u ≤ 4 ∧ v = .int .i64 u ∧ Hid (∃ D cD T K S, MixS w w4.heap.size w6.heap.size #[.int .i64 (x3 : Int), .int .i64 (y3 : Int), .int .i64 (q3 : Int), .slice A n c, .int .i64 (k3 : Int)] #[.slice C2 m2 e2, .slice C2 m2 e2, .slice C m e, .slice C m e] D cD N wr ∧ ProcsAt wr 0 D 2 T K (fun _ => N) S ∧ BufOk 2 N T K S ∧ MixI N k3 T K S Wo Wb j u)) (fun v _ _ _ _ _ _ => 4 - (intOf v).toNat)
          case atStart => exact ⟨0, Nat.zero_le _, rfl, HG⟩
          case round =>
            obtain ⟨u, hu, rfl, HK⟩ := hrel
            obtain ⟨D, cD, T, K, S, RI, hP, hok, hmx⟩ := HK.out
            by_cases hut : u < 4
            · have hutz : (u : Int) < 4 := by omega
              skip
              obtain ⟨Cj, mj, ej, Bj, hkj, hIj, okj, hWj⟩ := HPICK.out j hlt
              have hmj := okj.sum
              have hcell := (RI.bk.at_ j).trans hkj
              have hlk := RI.bk.lt
              have HIJ := hide (hIj.below RI.below)
              have HSE := hide (fun W A' C' c' e' hW hW2 => Sent_ok x3 y3 q3 k3 n mj u A' C' c' e' F Bj W okj (by omega) hW hW2)
              have HIA := hide (HI.out.below RI.below)
              have HNX := hide (hmx.next (x := softF 2 (getL [(j : Int), (u : Int)]) (sentF x3 y3 q3 n F mj Bj u)) hok hlt hut hk80 (fun i _ => (softF_tells (by rw [sentF_code]; exact codeF_bit _ _ _ _ _ _ _ _)).2) (fun i _ => by
                have h2 := (softF_tells (m := 2) (Z := getL [(j : Int), (u : Int)]) (B := sentF x3 y3 q3 n F mj Bj u) (j := i) (by rw [sentF_code]; exact codeF_bit _ _ _ _ _ _ _ _)).1
                rw [sentF_code, ← HN.out, ← hWj] at h2
                exact h2))
              have HRV := hide (fun W A' c' A2 c2 hW hW2 => Receive_ok 2 N k3 u (mixP j) (mixP j : Int) (mixT j) A' A2 c' c2 T K S (softF 2 (getL [(j : Int), (u : Int)]) (sentF x3 y3 q3 n F mj Bj u)) W hok rfl (by unfold mixP; split <;> decide) (by unfold mixT; split <;> decide) (by omega) hk1 (by omega) (fun i _ => by have := (softF_tells (m := 2) (Z := getL [(j : Int), (u : Int)]) (B := sentF x3 y3 q3 n F mj Bj u) (j := i) (by rw [sentF_code]; exact codeF_bit _ _ _ _ _ _ _ _)).2; omega) HNX.out.1 hW hW2)
              have HCS := hide (fun W A' c' g hW hW2 => codeSoft_any A' (some ⟨g, 0, none⟩) k3 c' 2 2 (sentF x3 y3 q3 n F mj Bj u) (getL [(j : Int), (u : Int)]) W (by omega) (by decide) hW hW2)
              obtain ⟨XF, hXF⟩ : ∃ z, z = softF 2 (getL [(j : Int), (u : Int)]) (sentF x3 y3 q3 n F mj Bj u) := ⟨_, rfl⟩
              rw [← hXF] at HNX HCS HRV
              obtain ⟨SF, hSF⟩ : ∃ z, z = sentF x3 y3 q3 n F mj Bj u := ⟨_, rfl⟩
              rw [← hSF] at HSE HCS
              obtain ⟨GF, hGF⟩ : ∃ z, z = gatherF u N XF k3 := ⟨_, rfl⟩
              rw [← hGF] at HNX HRV
              have HS2 := hide HNX.out.2
              have HPR := hide hP
              have HRI := hide RI
              clear hXF hSF hGF HNX hkj hIj okj hWj hP hok hmx
              obtain ⟨z0, z1, z2, z3, z4, hlz⟩ := chain_cells RI.bc
              clear RI
              go_wp2_with fail
              have SOF := hide (fun W' (h : Below wr.heap.size wr W') => (⟨(h.cell (p := ⟨w.heap.size, 0, none⟩) hlz).trans z0, (h.cell (p := ⟨w.heap.size, 1, none⟩) hlz).trans z1, (h.cell (p := ⟨w.heap.size, 2, none⟩) hlz).trans z2, (h.cell (p := ⟨w.heap.size, 3, none⟩) hlz).trans z3, (h.cell (p := ⟨w.heap.size, 4, none⟩) hlz).trans z4, (h.cell (p := ⟨w6.heap.size, j, none⟩) hlk).trans hcell, h⟩ : W'.cell? ⟨w.heap.size, 0, none⟩ = some (.int .i64 (x3 : Int)) ∧ W'.cell? ⟨w.heap.size, 1, none⟩ = some (.int .i64 (y3 : Int)) ∧ W'.cell? ⟨w.heap.size, 2, none⟩ = some (.int .i64 (q3 : Int)) ∧ W'.cell? ⟨w.heap.size, 3, none⟩ = some (.slice A n c) ∧ W'.cell? ⟨w.heap.size, 4, none⟩ = some (.int .i64 (k3 : Int)) ∧ W'.cell? ⟨w6.heap.size, j, none⟩ = some (.slice Cj mj ej) ∧ Below wr.heap.size wr W'))
              have KA := hide (fun W' (h : W'.cell? ⟨w.heap.size, 0, none⟩ = some (.int .i64 (x3 : Int)) ∧ W'.cell? ⟨w.heap.size, 1, none⟩ = some (.int .i64 (y3 : Int)) ∧ W'.cell? ⟨w.heap.size, 2, none⟩ = some (.int .i64 (q3 : Int)) ∧ W'.cell? ⟨w.heap.size, 3, none⟩ = some (.slice A n c) ∧ W'.cell? ⟨w.heap.size, 4, none⟩ = some (.int .i64 (k3 : Int)) ∧ W'.cell? ⟨w6.heap.size, j, none⟩ = some (.slice Cj mj ej) ∧ Below wr.heap.size wr W') => HIA.out.below h.2.2.2.2.2.2)
              have KJ := hide (fun W' (h : W'.cell? ⟨w.heap.size, 0, none⟩ = some (.int .i64 (x3 : Int)) ∧ W'.cell? ⟨w.heap.size, 1, none⟩ = some (.int .i64 (y3 : Int)) ∧ W'.cell? ⟨w.heap.size, 2, none⟩ = some (.int .i64 (q3 : Int)) ∧ W'.cell? ⟨w.heap.size, 3, none⟩ = some (.slice A n c) ∧ W'.cell? ⟨w.heap.size, 4, none⟩ = some (.int .i64 (k3 : Int)) ∧ W'.cell? ⟨w6.heap.size, j, none⟩ = some (.slice Cj mj ej) ∧ Below wr.heap.size wr W') => HIJ.out.below h.2.2.2.2.2.2)
              have bb0 : Below wr.heap.size wr wr := Below.refl _ _
              clear z0 z1 z2 z3 z4 hcell
              go_region_held3 (fun w' => w'.cell? ⟨w.heap.size, 0, none⟩ = some (.int .i64 (x3 : Int)) ∧ w'.cell? ⟨w.heap.size, 1, none⟩ = some (.int .i64 (y3 : Int)) ∧ w'.cell? ⟨w.heap.size, 2, none⟩ = some (.int .i64 (q3 : Int)) ∧ w'.cell? ⟨w.heap.size, 3, none⟩ = some (.slice A n c) ∧ w'.cell? ⟨w.heap.size, 4, none⟩ = some (.int .i64 (k3 : Int)) ∧ w'.cell? ⟨w6.heap.size, j, none⟩ = some (.slice Cj mj ej) ∧ Below wr.heap.size wr w')
                (first | assumption | exact SOF.out _ (by assumption) | exact SOF.out _ bb0.drew | exact SOF.out _ (below_drewN (by assumption) _) | exact SOF.out _ (ballocH (by assumption) (Nat.le_refl _) _) | exact SOF.out _ (ballocH bb0 (Nat.le_refl _) _).drew)
                (first
                  | (go_at_call 14; refine (copyChain_any (x3 : Int) (y3 : Int) (q3 : Int) (k3 : Int) A n c F _ (by omega) (KA.out _ (by assumption))).mono ?_; rintro r wa ⟨Aa, ca, rfl, hca, hIa, hba⟩; have hs_wa : Below wr.heap.size wr wa := bst6 hba (by assumption) (Nat.le_refl _))
                  | (go_at_call 15; refine (copyInts_own Cj mj ej Bj _ (by omega) (KJ.out _ (by assumption))).mono ?_; rintro r wb ⟨vb, rfl, hownb, hbb⟩; obtain ⟨Ab, cb, rfl, hncb, hIb⟩ := hownb.form; have hs_wb : Below wr.heap.size wr wb := bst6 hbb (by assumption) (Nat.le_refl _))
                  | (go_at_call 13; refine (HSE.out _ Aa Ab ca cb ((hIa.weak (Nat.zero_le _)).below hbb) (hIb.weak (Nat.zero_le _))).mono ?_; rintro r wd ⟨Ad, cd, rfl, hId, hbd⟩; have hs_wd : Below wr.heap.size wr wd := bst6 hbd (by assumption) (Nat.le_refl _)))
              have RId := HRI.out.kept hs_wd
              have HPD := hide (HPR.out.below hs_wd)
              have HSN := hide (hId.weak (Nat.zero_le _))
              clear hs_wa hs_wb hs_wd hba hbb hbd hIa hIb hId hownb SOF KA KJ bb0 HIA HIJ HRI HPR HSE hlz hlk
              obtain ⟨z0, z1, z2, z3, z4, hlz⟩ := chain_cells RId.bc
              have tk : ((k3 : Int) != (k3 : Int)) = false := by simp
              obtain ⟨rj, hrj⟩ : ∃ rj, rj = j % 2 := ⟨_, rfl⟩
              have ec : (j : Int) % 2 = (rj : Int) := by omega
              have et : (j : Int).tmod 2 = (rj : Int) := by rw [Int.tmod_eq_emod_of_nonneg (by omega)]; exact ec
              have HRJ := hide hrj
              clear hrj
              go_wp2_with fail
              refine (HCS.out _ Ad cd _ (HSN.out.alloc _) (IntsAt.of_box [(j : Int), (u : Int)] 2 rfl (Box.made (by simp)) (Nat.zero_le _))).mono ?_
              rintro r wf ⟨vf, rfl, hownf, hbf⟩
              obtain ⟨Af, cf, rfl, hncf, hIf⟩ := hownf.form
              have hbdf : Below wd.heap.size wd wf := ((Below.refl _ _).alloc (Nat.le_refl _) _).trans (hbf.mono (by simp))
              have RIf := RId.kept hbdf
              have HPF := hide (HPD.out.below hbdf)
              have HIF := hide (hIf.weak (Nat.zero_le _))
              clear z0 z1 z2 z3 z4 hlz tk HPD HSN HCS hownf hIf hbf hbdf RId hncf
              go_upto_if 99 with fail
              obtain ⟨we, hwe⟩ : ∃ x : World, x = wf.alloc (.cells #[.int .i64 (rj : Int), .int .i64 0, .int .i64 (u : Int), .slice Af k3 cf] 51) := ⟨_, rfl⟩
              rw [← hwe]
              have bx0 : Box we wf.heap.size 51 #[.int .i64 (rj : Int), .int .i64 0, .int .i64 (u : Int), .slice Af k3 cf] := by rw [hwe]; exact Box.made rfl
              have hbe : Below wf.heap.size wf we := by rw [hwe]; exact (Below.refl _ _).alloc (Nat.le_refl _) _
              clear hwe
              go_cut [99] (fun _ wc => Hid (Box wc wf.heap.size 51 #[.int .i64 (mixP j : Int), .int .i64 (mixT j), .int .i64 (u : Int), .slice Af k3 cf]) ∧ Below wf.heap.size wf wc)
              case first =>
                by_cases h2 : 2 ≤ j
                · have t2 : decide ((2 : Int) ≤ (j : Int)) = true := decide_eq_true (by omega)
                  have t2' : decide (2 ≤ j) = true := decide_eq_true h2
                  have e1 := hide (show (mixP j : Int) = 0 from by unfold mixP; rw [if_neg (by omega)]; rfl)
                  have e2 := hide (show mixT j = 1 from by unfold mixT; rw [if_neg (by omega)])
                  have HBX := hide ((bx0.set_ 0 (.int .i64 0)).set_ 1 (.int .i64 1))
                  obtain ⟨y0, y1, y2, y3, hly⟩ := recv_cells bx0
                  have f0 := bx0.free 0
                  have f1 := bx0.free 1
                  go_wp2_with fail
                  go_meet
                  case rel => exact ⟨by rw [e1.out, e2.out]; exact HBX, (hbe.setCell (Nat.le_refl _) _).setCell (Nat.le_refl _) _⟩
                · have t2 : decide ((2 : Int) ≤ (j : Int)) = false := decide_eq_false (by omega)
                  have t2' : decide (2 ≤ j) = false := decide_eq_false h2
                  have e1 := hide (show (mixP j : Int) = (rj : Int) from by rw [HRJ.out, mixP_mod (by omega)])
                  have e2 := hide (show mixT j = 0 from by unfold mixT; rw [if_pos (by omega)])
                  have HBX := hide bx0
                  go_wp2_with fail
                  go_meet
                  case rel => exact ⟨by rw [e1.out, e2.out]; exact HBX, hbe⟩
              case rest =>
                obtain ⟨HBX, hbc⟩ := hcut
                obtain ⟨wg, rfl⟩ : ∃ x : World, x = wc := ⟨_, rfl⟩
                have RIg := RIf.kept hbc
                have HPG := hide (HPF.out.below hbc)
                have HIG := hide (HIF.out.below hbc)
                have hfg := hbc.size
                have h4f := RIf.bb.lt
                have h6f := RIf.bk.lt
                clear RIf HPF HIF hbc bx0 hbe ec et HRJ
                go_upto_region 22 with fail
                go_cut [16, 17, 102] (fun s16 s17 _ wc => ∃ gp Dh ch, s16 = .pointer (some ⟨gp, 0, none⟩) ∧ s17 = .int .i64 0 ∧ Hid (Box wc gp 36 #[.int .i64 (N : Int), .slice Dh 2 ch]) ∧ Hid (ProcsAt wc wg.heap.size Dh 2 (setF T (mixP j) (mixT j)) (behK T K (mixP j) (mixT j)) (fun _ => N) (behS T S (mixP j) (mixT j) GF)) ∧ Below wg.heap.size wg wc)
                case first =>
                  obtain ⟨b0, b1, hlb⟩ := bufs_cells RIg.bb
                  obtain ⟨y0, y1, y2, y3, hly⟩ := recv_cells HBX.out
                  have SOF := hide (fun W' (h : Below wg.heap.size wg W') => (⟨(h.cell (p := ⟨w4.heap.size, 0, none⟩) hlb).trans b0, (h.cell (p := ⟨w4.heap.size, 1, none⟩) hlb).trans b1, (h.cell (p := ⟨wf.heap.size, 0, none⟩) hly).trans y0, (h.cell (p := ⟨wf.heap.size, 1, none⟩) hly).trans y1, (h.cell (p := ⟨wf.heap.size, 2, none⟩) hly).trans y2, (h.cell (p := ⟨wf.heap.size, 3, none⟩) hly).trans y3, h⟩ : W'.cell? ⟨w4.heap.size, 0, none⟩ = some (.int .i64 (N : Int)) ∧ W'.cell? ⟨w4.heap.size, 1, none⟩ = some (.slice D 2 cD) ∧ W'.cell? ⟨wf.heap.size, 0, none⟩ = some (.int .i64 (mixP j : Int)) ∧ W'.cell? ⟨wf.heap.size, 1, none⟩ = some (.int .i64 (mixT j)) ∧ W'.cell? ⟨wf.heap.size, 2, none⟩ = some (.int .i64 (u : Int)) ∧ W'.cell? ⟨wf.heap.size, 3, none⟩ = some (.slice Af k3 cf) ∧ Below wg.heap.size wg W'))
                  have KP := hide (fun W' (h : W'.cell? ⟨w4.heap.size, 0, none⟩ = some (.int .i64 (N : Int)) ∧ W'.cell? ⟨w4.heap.size, 1, none⟩ = some (.slice D 2 cD) ∧ W'.cell? ⟨wf.heap.size, 0, none⟩ = some (.int .i64 (mixP j : Int)) ∧ W'.cell? ⟨wf.heap.size, 1, none⟩ = some (.int .i64 (mixT j)) ∧ W'.cell? ⟨wf.heap.size, 2, none⟩ = some (.int .i64 (u : Int)) ∧ W'.cell? ⟨wf.heap.size, 3, none⟩ = some (.slice Af k3 cf) ∧ Below wg.heap.size wg W') => HPG.out.below h.2.2.2.2.2.2)
                  have KI := hide (fun W' (h : W'.cell? ⟨w4.heap.size, 0, none⟩ = some (.int .i64 (N : Int)) ∧ W'.cell? ⟨w4.heap.size, 1, none⟩ = some (.slice D 2 cD) ∧ W'.cell? ⟨wf.heap.size, 0, none⟩ = some (.int .i64 (mixP j : Int)) ∧ W'.cell? ⟨wf.heap.size, 1, none⟩ = some (.int .i64 (mixT j)) ∧ W'.cell? ⟨wf.heap.size, 2, none⟩ = some (.int .i64 (u : Int)) ∧ W'.cell? ⟨wf.heap.size, 3, none⟩ = some (.slice Af k3 cf) ∧ Below wg.heap.size wg W') => HIG.out.below h.2.2.2.2.2.2)
                  have bb0 : Below wg.heap.size wg wg := Below.refl _ _
                  clear b0 b1 y0 y1 y2 y3
                  go_region_held3 (fun w' => w'.cell? ⟨w4.heap.size, 0, none⟩ = some (.int .i64 (N : Int)) ∧ w'.cell? ⟨w4.heap.size, 1, none⟩ = some (.slice D 2 cD) ∧ w'.cell? ⟨wf.heap.size, 0, none⟩ = some (.int .i64 (mixP j : Int)) ∧ w'.cell? ⟨wf.heap.size, 1, none⟩ = some (.int .i64 (mixT j)) ∧ w'.cell? ⟨wf.heap.size, 2, none⟩ = some (.int .i64 (u : Int)) ∧ w'.cell? ⟨wf.heap.size, 3, none⟩ = some (.slice Af k3 cf) ∧ Below wg.heap.size wg w')
                    (first | assumption | exact SOF.out _ (by assumption) | exact SOF.out _ bb0.drew | exact SOF.out _ (below_drewN (by assumption) _) | exact SOF.out _ (ballocH (by assumption) (Nat.le_refl _) _) | exact SOF.out _ (ballocH bb0 (Nat.le_refl _) _).drew | exact SOF.out _ ((hs_wh.setCell hs_wi.size _).setCell hs_wi.size _) | exact SOF.out _ ((hs_wh.setCell (Nat.le_refl _) _).setCell (Nat.le_refl _) _))
                    (first
                      | (go_at_call 18; refine (copyBuffers_any (N : Int) D 2 cD T K (fun _ => N) S _ (by decide) (fun i _ => by omega) (KP.out _ (by assumption))).mono ?_; rintro r wi ⟨Di, ci, rfl, hPi, hbi⟩; have hs_wi : Below wg.heap.size wg wi := bst6 hbi (by assumption) (Nat.le_refl _); (try (have bnA := (Box.made (w := wg.drew) rfl : Box _ wg.heap.size 36 #[.int .i64 0, .slice none 0 0]).below hbi)))
                      | (go_at_call 17; refine (HRV.out _ Di ci Af cf (by first | exact hPi.weak (Nat.zero_le _) | exact (hPi.weak (Nat.zero_le _)).alloc _) (KI.out _ (by assumption))).mono ?_; rintro r wh ⟨Dh, ch, rfl, hPh, hbh⟩; have hs_wh : Below wg.heap.size wg wh := bst6 hbh (by assumption) (Nat.le_refl _); (first | (have bnC := bnA.below hbh) | (have bnC := (Box.made (w := wi) rfl : Box _ wi.heap.size 36 #[.int .i64 0, .slice none 0 0]).below hbh) | skip); (try (have n0 := bnC.at_ 0; have n1 := bnC.at_ 1; have nf0 := bnC.free 0; have nf1 := bnC.free 1; simp at n0 n1))))
                  all_goals
                    go_wp2_with fail
                    go_meet
                    case rel =>
                      first
                        | exact ⟨_, Dh, ch, rfl, rfl, hide (Box.made rfl), hide ((hPh.weak hs_wi.size).alloc _), hs_wh.alloc hs_wh.size _⟩
                        | exact ⟨_, Dh, ch, rfl, rfl, hide ((bnC.set_ 0 (.int .i64 (N : Int))).set_ 1 (.slice Dh 2 ch)), hide (((hPh.only bnA.lt ((Only.refl _ wh).set_ 0 _)).only bnA.lt ((Only.refl _ _).set_ 1 _)).weak hs_wi.size), (hs_wh.setCell (Nat.le_refl _) _).setCell (Nat.le_refl _) _⟩
                        | exact ⟨_, Dh, ch, rfl, rfl, hide ((bnC.set_ 0 (.int .i64 (N : Int))).set_ 1 (.slice Dh 2 ch)), hide (((hPh.only (by simp) ((Only.refl _ wh).set_ 0 _)).only (by simp) ((Only.refl _ _).set_ 1 _)).weak (by have := hs_wi.size; simp; omega)), (hs_wh.setCell hs_wi.size _).setCell hs_wi.size _⟩
                case rest =>
                  obtain ⟨gp, Dh, ch, rfl, rfl, HBN, HPN, hbec⟩ := hcut
                  obtain ⟨wn, rfl⟩ : ∃ x : World, x = wc := ⟨_, rfl⟩
                  have RIn := RIg.kept hbec
                  clear RIg HRV HPG HIG HBX
                  generalize setF T (mixP j) (mixT j) = T' at *
                  generalize behK T K (mixP j) (mixT j) = K' at *
                  generalize behS T S (mixP j) (mixT j) GF = S' at *
                  obtain ⟨b0, b1, hlb⟩ := bufs_cells HBN.out
                  have tN : ((N : Int) != (N : Int)) = false := by simp
                  go_wp2_with fail
                  refine (buffersErrR_ok 2 N ch Dh T' K' S' _ HS2.out.1 (HPN.out.weak (Nat.zero_le _))).mono ?_
                  rintro r wo ⟨rfl, hbo⟩
                  have RIo := RIn.kept hbo
                  have HBO := hide (HBN.out.below hbo)
                  have HPO := hide (HPN.out.below hbo)
                  clear b0 b1 hlb RIn HBN HPN hbo hbec
                  obtain ⟨b0, b1, hlb⟩ := bufs_cells HBO.out
                  obtain ⟨a0, a1, hla⟩ := bufs_cells RIo.bb
                  have fa0 := RIo.bb.free 0
                  have fa1 := RIo.bb.free 1
                  go_wp2_with fail
                  clear b0 b1 hlb a0 a1 hla fa0 fa1 tN
                  have hOn : Only w4.heap.size wo ((wo.setCell ⟨w4.heap.size, 0, none⟩ (.int .i64 (N : Int))).setCell ⟨w4.heap.size, 1, none⟩ (.slice Dh 2 ch)) := ((Only.refl _ wo).set_ 0 _).set_ 1 _
                  have RIp : MixS w w4.heap.size w6.heap.size #[.int .i64 (x3 : Int), .int .i64 (y3 : Int), .int .i64 (q3 : Int), .slice A n c, .int .i64 (k3 : Int)] #[.slice C2 m2 e2, .slice C2 m2 e2, .slice C m e, .slice C m e] Dh ch N ((wo.setCell ⟨w4.heap.size, 0, none⟩ (.int .i64 (N : Int))).setCell ⟨w4.heap.size, 1, none⟩ (.slice Dh 2 ch)) :=
                    ⟨hOn.box RIo.bc (by omega), (RIo.bb.set_ 0 (.int .i64 (N : Int))).set_ 1 (.slice Dh 2 ch), hOn.box RIo.bk (by omega), (RIo.below.setCell (by simp; omega) _).setCell (by simp; omega) _⟩
                  have hPp := (HPO.out.only (by omega) hOn).weak (Nat.zero_le _)
                  go_roundw
                  case rel => exact ⟨u + 1, by omega, by go_num, hide ⟨Dh, ch, T', K', S', RIp, hPp, HS2.out.1, HS2.out.2⟩⟩
                  case measure => simp [intOf]; omega
            · obtain rfl : u = 4 := by omega
              have hm4 := hmx.over hlt
              go_wp2_with fail
              go_roundw
              case rel => exact ⟨j + 1, by omega, by go_num, hide ⟨D, cD, T, K, S, RI, hP, hok, hm4⟩⟩
              case measure => simp [intOf]; omega
        · obtain rfl : j = 4 := by omega
          obtain ⟨D, cD, T, K, S, RI, hP, hok, hmx⟩ := HG.out
          obtain ⟨h0, h1⟩ := hmx.2.2.2.2 rfl
          have HCE := hide (fun W => (ceil_any N 4 W (by decide) (by omega) (by decide) : Calls Try.prog 23 #[.int .i64 (N : Int), .int .i64 4] W fun e w' => e = .returned (.int .i64 ((ceilN N 4 : Nat) : Int)) ∧ W = w'))
          have hce := (ceilN_mul (a := N) (b := 4) (by decide)).1
          obtain ⟨cl, hcl⟩ : ∃ cl, cl = ceilN N 4 := ⟨_, rfl⟩
          rw [← hcl] at HCE hce
          clear hcl
          have hBw := RI.below
          obtain ⟨z0, z1, z2, z3, z4, hlz⟩ := chain_cells RI.bc
          have HT0 := hide (h0.tells (k := k3) (N := N))
          have HT1 := hide (h1.tells (k := k3) (N := N))
          have HS0 := hide (fun p (hp : p < N) => (by have := (hok.each 0 (by decide)).2.2.2.1 p hp; omega : -1000000000 ≤ S 0 p ∧ S 0 p ≤ 1000000000))
          have HS1 := hide (fun p (hp : p < N) => (by have := (hok.each 1 (by decide)).2.2.2.1 p hp; omega : -1000000000 ≤ S 1 p ∧ S 1 p ≤ 1000000000))
          have HRI := hide RI
          have HPR := hide hP
          clear h0 h1 hok hmx HG RI hP
          by_cases hkc : k3 < cl
          · have tk : decide ((k3 : Int) < (cl : Int)) = true := decide_eq_true (by omega)
            have tk' : decide (k3 < cl) = true := decide_eq_true hkc
            go_wp2_with fail
            have SOF := hide (fun W' (h : Below wr.heap.size wr W') => (⟨(h.cell (p := ⟨w.heap.size, 4, none⟩) hlz).trans z4, h⟩ : W'.cell? ⟨w.heap.size, 4, none⟩ = some (.int .i64 (k3 : Int)) ∧ Below wr.heap.size wr W'))
            have bb0 : Below wr.heap.size wr wr := Below.refl _ _
            clear z0 z1 z2 z3 z4
            go_region_held3 (fun w' => w'.cell? ⟨w.heap.size, 4, none⟩ = some (.int .i64 (k3 : Int)) ∧ Below wr.heap.size wr w')
              (first | assumption | exact SOF.out _ (by assumption) | exact SOF.out _ bb0.drew | exact SOF.out _ (below_drewN (by assumption) _) | exact SOF.out _ (ballocH (by assumption) (Nat.le_refl _) _) | exact SOF.out _ (ballocH bb0 (Nat.le_refl _) _).drew)
              (first
                | (go_at_call 23; refine (HCE.out _).mono ?_; rintro r w' ⟨rfl, rfl⟩))
            go_wp2_with fail
            go_ret
            exact ⟨rfl, hBw.drew⟩
          · have tk : decide ((k3 : Int) < (cl : Int)) = false := decide_eq_false (by omega)
            have tk' : decide (k3 < cl) = false := decide_eq_false hkc
            have hN4 : N ≤ 4 * k3 := by omega
            go_wp2_with fail
            have SOF := hide (fun W' (h : Below wr.heap.size wr W') => (⟨(h.cell (p := ⟨w.heap.size, 4, none⟩) hlz).trans z4, h⟩ : W'.cell? ⟨w.heap.size, 4, none⟩ = some (.int .i64 (k3 : Int)) ∧ Below wr.heap.size wr W'))
            have bb0 : Below wr.heap.size wr wr := Below.refl _ _
            clear z0 z1 z2 z3 z4
            go_region_held3 (fun w' => w'.cell? ⟨w.heap.size, 4, none⟩ = some (.int .i64 (k3 : Int)) ∧ Below wr.heap.size wr w')
              (first | assumption | exact SOF.out _ (by assumption) | exact SOF.out _ bb0.drew | exact SOF.out _ (below_drewN (by assumption) _) | exact SOF.out _ (ballocH (by assumption) (Nat.le_refl _) _) | exact SOF.out _ (ballocH bb0 (Nat.le_refl _) _).drew)
              (first
                | (go_at_call 23; refine (HCE.out _).mono ?_; rintro r w' ⟨rfl, rfl⟩))
            clear SOF bb0 tk tk' hce HCE
            have RI7 : MixS w w4.heap.size w6.heap.size #[.int .i64 (x3 : Int), .int .i64 (y3 : Int), .int .i64 (q3 : Int), .slice A n c, .int .i64 (k3 : Int)] #[.slice C2 m2 e2, .slice C2 m2 e2, .slice C m e, .slice C m e] D cD N wr.drew := ⟨HRI.out.bc, HRI.out.bb, HRI.out.bk, hBw.drew⟩
            have HP7 : ProcsAt wr.drew 0 D 2 T K (fun _ => N) S := HPR.out
            clear HRI HPR hlz hBw
            generalize wr.drew = w7 at *
            obtain ⟨pb, po, A0, c0, rfl, -, hpb7, hp0, hp1, hcp7, hI0⟩ := HP7 0 (by decide)
            obtain ⟨pb', po', A1, c1, ee, -, -, hq0, hq1, hq2, hI1⟩ := HP7 1 (by decide)
            injection ee with ee
            injection ee with ee1 ee2
            subst ee1
            subst ee2
            simp only [Nat.zero_mul, Nat.add_zero, Nat.one_mul] at hcp7 hq2
            have HIP0 := hide hI0
            have HIP1 := hide hI1
            have HQ2 := hide hq2
            clear hp0 hp1 hq0 hq1 hq2 hI0 hI1 HP7
            go_wp2_with fail
            obtain ⟨z0, z1, z2, z3, z4, hlz⟩ := chain_cells RI7.bc
            obtain ⟨b0, b1, hlb⟩ := bufs_cells RI7.bb
            have HIA7 := hide (HI.out.below RI7.below)
            have SOF := hide (fun W' (h : Below w7.heap.size w7 W') => (⟨(h.cell (p := ⟨w.heap.size, 0, none⟩) hlz).trans z0, (h.cell (p := ⟨w.heap.size, 1, none⟩) hlz).trans z1, (h.cell (p := ⟨w.heap.size, 2, none⟩) hlz).trans z2, (h.cell (p := ⟨w.heap.size, 3, none⟩) hlz).trans z3, (h.cell (p := ⟨w.heap.size, 4, none⟩) hlz).trans z4, (h.cell (p := ⟨w4.heap.size, 1, none⟩) hlb).trans b1, (h.cell (p := ⟨pb, po + 2, none⟩) hpb7).trans hcp7, h⟩ : W'.cell? ⟨w.heap.size, 0, none⟩ = some (.int .i64 (x3 : Int)) ∧ W'.cell? ⟨w.heap.size, 1, none⟩ = some (.int .i64 (y3 : Int)) ∧ W'.cell? ⟨w.heap.size, 2, none⟩ = some (.int .i64 (q3 : Int)) ∧ W'.cell? ⟨w.heap.size, 3, none⟩ = some (.slice A n c) ∧ W'.cell? ⟨w.heap.size, 4, none⟩ = some (.int .i64 (k3 : Int)) ∧ W'.cell? ⟨w4.heap.size, 1, none⟩ = some (.slice (some ⟨pb, po, none⟩) 2 cD) ∧ W'.cell? ⟨pb, po + 2, none⟩ = some (.slice A0 N c0) ∧ Below w7.heap.size w7 W'))
            have KA := hide (fun W' (h : W'.cell? ⟨w.heap.size, 0, none⟩ = some (.int .i64 (x3 : Int)) ∧ W'.cell? ⟨w.heap.size, 1, none⟩ = some (.int .i64 (y3 : Int)) ∧ W'.cell? ⟨w.heap.size, 2, none⟩ = some (.int .i64 (q3 : Int)) ∧ W'.cell? ⟨w.heap.size, 3, none⟩ = some (.slice A n c) ∧ W'.cell? ⟨w.heap.size, 4, none⟩ = some (.int .i64 (k3 : Int)) ∧ W'.cell? ⟨w4.heap.size, 1, none⟩ = some (.slice (some ⟨pb, po, none⟩) 2 cD) ∧ W'.cell? ⟨pb, po + 2, none⟩ = some (.slice A0 N c0) ∧ Below w7.heap.size w7 W') => HIA7.out.below h.2.2.2.2.2.2.2)
            have KP := hide (fun W' (h : W'.cell? ⟨w.heap.size, 0, none⟩ = some (.int .i64 (x3 : Int)) ∧ W'.cell? ⟨w.heap.size, 1, none⟩ = some (.int .i64 (y3 : Int)) ∧ W'.cell? ⟨w.heap.size, 2, none⟩ = some (.int .i64 (q3 : Int)) ∧ W'.cell? ⟨w.heap.size, 3, none⟩ = some (.slice A n c) ∧ W'.cell? ⟨w.heap.size, 4, none⟩ = some (.int .i64 (k3 : Int)) ∧ W'.cell? ⟨w4.heap.size, 1, none⟩ = some (.slice (some ⟨pb, po, none⟩) 2 cD) ∧ W'.cell? ⟨pb, po + 2, none⟩ = some (.slice A0 N c0) ∧ Below w7.heap.size w7 W') => HIP0.out.below h.2.2.2.2.2.2.2)
            have bb0 : Below w7.heap.size w7 w7 := Below.refl _ _
            clear z0 z1 z2 z3 z4 b0 b1 hcp7
            go_region_held3 (fun w' => w'.cell? ⟨w.heap.size, 0, none⟩ = some (.int .i64 (x3 : Int)) ∧ w'.cell? ⟨w.heap.size, 1, none⟩ = some (.int .i64 (y3 : Int)) ∧ w'.cell? ⟨w.heap.size, 2, none⟩ = some (.int .i64 (q3 : Int)) ∧ w'.cell? ⟨w.heap.size, 3, none⟩ = some (.slice A n c) ∧ w'.cell? ⟨w.heap.size, 4, none⟩ = some (.int .i64 (k3 : Int)) ∧ w'.cell? ⟨w4.heap.size, 1, none⟩ = some (.slice (some ⟨pb, po, none⟩) 2 cD) ∧ w'.cell? ⟨pb, po + 2, none⟩ = some (.slice A0 N c0) ∧ Below w7.heap.size w7 w')
              (first | assumption | exact SOF.out _ (by assumption) | exact SOF.out _ bb0.drew | exact SOF.out _ (below_drewN (by assumption) _) | exact SOF.out _ (ballocH (by assumption) (Nat.le_refl _) _) | exact SOF.out _ (ballocH bb0 (Nat.le_refl _) _).drew)
              (first
                | (go_at_call 14; refine (copyChain_any (x3 : Int) (y3 : Int) (q3 : Int) (k3 : Int) A n c F _ (by omega) (KA.out _ (by assumption))).mono ?_; rintro r wa ⟨Af, cf, rfl, hcf, hIf, hbf⟩; have hs_wa : Below w7.heap.size w7 wa := bst7 hbf (by assumption) (Nat.le_refl _))
                | (go_at_call 15; refine (copyInts_own A0 N c0 (S 0) _ (by omega) (KP.out _ (by assumption))).mono ?_; rintro r wb ⟨vg, rfl, howng, hbg⟩; obtain ⟨Ag, cg, rfl, hncg, hIg⟩ := howng.form; have hcg9 := howng.cap_any.2; have hs_wb : Below w7.heap.size w7 wb := bst7 hbg (by assumption) (Nat.le_refl _))
                | (go_at_call 21; refine (HRC.out _ Af Ag cf cg (S 0) hncg hcg9 (HT0.out hN4) HS0.out ((hIf.weak (Nat.zero_le _)).below hbg) (hIg.weak (Nat.zero_le _))).mono ?_; rintro r wd ⟨Ah7, ch7, rfl, hch7, hch97, hIh7, hbh⟩; have hs_wd : Below w7.heap.size w7 wd := bst7 hbh (by assumption) (Nat.le_refl _)))
            have RI8 := RI7.kept hs_wd
            have hcp8 := (hs_wd.cell (p := ⟨pb, po + 3 + 2, none⟩) hpb7).trans HQ2.out
            have hpb8 := Nat.lt_of_lt_of_le hpb7 hs_wd.size
            have HIP2 := hide (HIP1.out.below hs_wd)
            have HIH7 := hide (hIh7.weak (Nat.zero_le _))
            clear hs_wa hs_wb hs_wd hbf hbg hbh hIf hIg hIh7 howng SOF KA KP bb0 hpb7 hlz hlb RI7 HQ2 HIP0 HIP1 HIA7 hcf hncg hcg9
            obtain ⟨w8, rfl⟩ : ∃ x : World, x = wd := ⟨_, rfl⟩
            go_wp2_with fail
            obtain ⟨z0, z1, z2, z3, z4, hlz⟩ := chain_cells RI8.bc
            obtain ⟨b0, b1, hlb⟩ := bufs_cells RI8.bb
            have HIA8 := hide (HI.out.below RI8.below)
            have SOF := hide (fun W' (h : Below w8.heap.size w8 W') => (⟨(h.cell (p := ⟨w.heap.size, 0, none⟩) hlz).trans z0, (h.cell (p := ⟨w.heap.size, 1, none⟩) hlz).trans z1, (h.cell (p := ⟨w.heap.size, 2, none⟩) hlz).trans z2, (h.cell (p := ⟨w.heap.size, 3, none⟩) hlz).trans z3, (h.cell (p := ⟨w.heap.size, 4, none⟩) hlz).trans z4, (h.cell (p := ⟨w4.heap.size, 1, none⟩) hlb).trans b1, (h.cell (p := ⟨pb, po + 3 + 2, none⟩) hpb8).trans hcp8, h⟩ : W'.cell? ⟨w.heap.size, 0, none⟩ = some (.int .i64 (x3 : Int)) ∧ W'.cell? ⟨w.heap.size, 1, none⟩ = some (.int .i64 (y3 : Int)) ∧ W'.cell? ⟨w.heap.size, 2, none⟩ = some (.int .i64 (q3 : Int)) ∧ W'.cell? ⟨w.heap.size, 3, none⟩ = some (.slice A n c) ∧ W'.cell? ⟨w.heap.size, 4, none⟩ = some (.int .i64 (k3 : Int)) ∧ W'.cell? ⟨w4.heap.size, 1, none⟩ = some (.slice (some ⟨pb, po, none⟩) 2 cD) ∧ W'.cell? ⟨pb, po + 3 + 2, none⟩ = some (.slice A1 N c1) ∧ Below w8.heap.size w8 W'))
            have KA := hide (fun W' (h : W'.cell? ⟨w.heap.size, 0, none⟩ = some (.int .i64 (x3 : Int)) ∧ W'.cell? ⟨w.heap.size, 1, none⟩ = some (.int .i64 (y3 : Int)) ∧ W'.cell? ⟨w.heap.size, 2, none⟩ = some (.int .i64 (q3 : Int)) ∧ W'.cell? ⟨w.heap.size, 3, none⟩ = some (.slice A n c) ∧ W'.cell? ⟨w.heap.size, 4, none⟩ = some (.int .i64 (k3 : Int)) ∧ W'.cell? ⟨w4.heap.size, 1, none⟩ = some (.slice (some ⟨pb, po, none⟩) 2 cD) ∧ W'.cell? ⟨pb, po + 3 + 2, none⟩ = some (.slice A1 N c1) ∧ Below w8.heap.size w8 W') => HIA8.out.below h.2.2.2.2.2.2.2)
            have KP := hide (fun W' (h : W'.cell? ⟨w.heap.size, 0, none⟩ = some (.int .i64 (x3 : Int)) ∧ W'.cell? ⟨w.heap.size, 1, none⟩ = some (.int .i64 (y3 : Int)) ∧ W'.cell? ⟨w.heap.size, 2, none⟩ = some (.int .i64 (q3 : Int)) ∧ W'.cell? ⟨w.heap.size, 3, none⟩ = some (.slice A n c) ∧ W'.cell? ⟨w.heap.size, 4, none⟩ = some (.int .i64 (k3 : Int)) ∧ W'.cell? ⟨w4.heap.size, 1, none⟩ = some (.slice (some ⟨pb, po, none⟩) 2 cD) ∧ W'.cell? ⟨pb, po + 3 + 2, none⟩ = some (.slice A1 N c1) ∧ Below w8.heap.size w8 W') => HIP2.out.below h.2.2.2.2.2.2.2)
            have bb0 : Below w8.heap.size w8 w8 := Below.refl _ _
            clear z0 z1 z2 z3 z4 b0 b1 hcp8
            go_region_held3 (fun w' => w'.cell? ⟨w.heap.size, 0, none⟩ = some (.int .i64 (x3 : Int)) ∧ w'.cell? ⟨w.heap.size, 1, none⟩ = some (.int .i64 (y3 : Int)) ∧ w'.cell? ⟨w.heap.size, 2, none⟩ = some (.int .i64 (q3 : Int)) ∧ w'.cell? ⟨w.heap.size, 3, none⟩ = some (.slice A n c) ∧ w'.cell? ⟨w.heap.size, 4, none⟩ = some (.int .i64 (k3 : Int)) ∧ w'.cell? ⟨w4.heap.size, 1, none⟩ = some (.slice (some ⟨pb, po, none⟩) 2 cD) ∧ w'.cell? ⟨pb, po + 3 + 2, none⟩ = some (.slice A1 N c1) ∧ Below w8.heap.size w8 w')
              (first | assumption | exact SOF.out _ (by assumption) | exact SOF.out _ bb0.drew | exact SOF.out _ (below_drewN (by assumption) _) | exact SOF.out _ (ballocH (by assumption) (Nat.le_refl _) _) | exact SOF.out _ (ballocH bb0 (Nat.le_refl _) _).drew)
              (first
                | (go_at_call 14; refine (copyChain_any (x3 : Int) (y3 : Int) (q3 : Int) (k3 : Int) A n c F _ (by omega) (KA.out _ (by assumption))).mono ?_; rintro r wa2 ⟨Af, cf, rfl, hcf, hIf, hbf⟩; have hs_wa2 : Below w8.heap.size w8 wa2 := bst7 hbf (by assumption) (Nat.le_refl _))
                | (go_at_call 15; refine (copyInts_own A1 N c1 (S 1) _ (by omega) (KP.out _ (by assumption))).mono ?_; rintro r wb2 ⟨vg, rfl, howng, hbg⟩; obtain ⟨Ag, cg, rfl, hncg, hIg⟩ := howng.form; have hcg9 := howng.cap_any.2; have hs_wb2 : Below w8.heap.size w8 wb2 := bst7 hbg (by assumption) (Nat.le_refl _))
                | (go_at_call 21; refine (HRC2.out _ Af Ag cf cg (S 1) hncg hcg9 (HT1.out hN4) HS1.out ((hIf.weak (Nat.zero_le _)).below hbg) (hIg.weak (Nat.zero_le _))).mono ?_; rintro r wd2 ⟨Ah8, ch8, rfl, hch8, hch98, hIh8, hbh⟩; have hs_wd2 : Below w8.heap.size w8 wd2 := bst7 hbh (by assumption) (Nat.le_refl _)))
            have HII := hide (fun W hW hW2 => ints_any Ah7 C m m ch7 e B B W (by omega) (by omega) hW hW2)
            rw [show intsB m B m B = true from intsB_iff.2 ⟨rfl, fun _ _ => rfl⟩] at HII
            have HII2 := hide (fun W hW hW2 => ints_any Ah8 C2 m2 m2 ch8 e2 B2 B2 W (by omega) (by omega) hW hW2)
            rw [show intsB m2 B2 m2 B2 = true from intsB_iff.2 ⟨rfl, fun _ _ => rfl⟩] at HII2
            have HIH8 := hide (hIh8.weak (Nat.zero_le _))
            have HIH9 := hide (HIH7.out.below hs_wd2)
            have hB9 := RI8.below.trans (hs_wd2.mono RI8.below.size)
            have HJ9 := hide (HJ.out.below hB9)
            have HJ29 := hide (HJ2.out.below hB9)
            clear hs_wa2 hs_wb2 hs_wd2 hbf hbg hbh hIf hIg hIh8 howng SOF KA KP bb0 hpb8 hlz hlb RI8 HIP2 HIA8 HIH7
            go_wp2_with fail
            refine (HII.out _ HIH9.out HJ9.out).mono ?_
            rintro r w' ⟨rfl, qy, rfl⟩
            go_wp2_with fail
            refine (HII2.out _ (HIH8.out.drewN _) (HJ29.out.drewN _)).mono ?_
            rintro r w' ⟨rfl, qz, rfl⟩
            go_wp2_with fail
            go_ret
            exact ⟨rfl, below_drewN hB9 _⟩
end Go.Proofs.Ytnglmfdcnoglhaa
