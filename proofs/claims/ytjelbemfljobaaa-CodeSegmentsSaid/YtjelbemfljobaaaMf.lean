/- Segments of the reference. -/
import Derived.Test.YtjelbemfljobaaaMc
import Derived.Test.YtjelbemfljobaaaId
namespace Go.Proofs.Ytjelbemfljobaaa
open Go.RowKit Go.Shelf
/-- The block with zeros ahead. -/
def fillF (f : Nat) (B : Nat → Int) : Nat → Int := catF f (fun _ => 0) B
/-- The segment i of a block: a bits, and their check. -/
def segF (x y a f : Nat) (B : Nat → Int) (i : Nat) : Nat → Int := catF a (fun k => fillF f B (i * a + k)) (remB x y a (fun k => fillF f B (i * a + k)))
theorem fillF_bit {f n : Nat} {B : Nat → Int} (h : ∀ k, k < n → IsBit (B k)) : ∀ k, k < f + n → IsBit (fillF f B k) := fun k hk => by
  unfold fillF catF
  split
  · exact .inl rfl
  · exact h _ (by omega)
set_option maxHeartbeats 8000000 in
set_option maxRecDepth 100000 in
theorem segmentsR_any (x y m n c : Nat) (A : Option Addr) (B : Nat → Int) (w : World) (h0 : 1 ≤ x) (h1 : x ≤ 16) (t1 : y < 2 ^ x) (hx : x < m) (hm : m ≤ 100) (n0 : 0 < n) (n9 : n ≤ 200) (hI : IntsAt w 0 A n B) (hb : ∀ k, k < n → IsBit (B k)) :
    Calls Try.prog 41 #[.agg #[.int .i64 (x : Int), .int .i64 (y : Int), .int .i64 (m : Int)], .slice A n c] w fun e w' => ∃ v, e = .returned v ∧ OwnLists w' w.heap.size v (cntN x m n) (fun _ => aheadN x m n + x) (segF x y (aheadN x m n) (cntN x m n * aheadN x m n - n) B) ∧ Below w.heap.size w w' := by
  obtain ⟨c1, c2, c3, c4, c5, c6⟩ := cut_facts hx hm n0 n9
  have HI := hide hI
  have HCO := hide (fun W => cut_any x y m n W hx hm n0 n9)
  generalize cntN x m n = cnt at *
  generalize aheadN x m n = a at *
  obtain ⟨s, hs⟩ : ∃ s : Nat, s = cnt * a := ⟨_, rfl⟩
  rw [← hs] at c5 c6 ⊢
  obtain ⟨f, hf⟩ : ∃ f : Nat, f = s - n := ⟨_, rfl⟩
  rw [← hf]
  have hsf : s = f + n := by omega
  have HS := hide hs
  have HB := hide (fillF_bit (f := f) hb)
  have hsz : (cnt : Int) * (a : Int) = (s : Int) := by rw [hs]; simp
  have q2 : IntKind.i64.wrap ((cnt : Int) * (a : Int)) = (s : Int) := by rw [hsz]; exact IntWalk.i64_in _ (by omega)
  have q3 : IntKind.i64.wrap ((s : Int) - (n : Int)) = (f : Int) := by rw [IntWalk.i64_in _ (by omega)]; omega
  obtain ⟨i0, hi, hz0, hz1, hz2⟩ := info_parts intInfo
  have hmk := fun W => run_make_row (P := Try.prog) 24 3 i0 (.int .i64 0) Try.underlying24 hi hz0 hz1 rfl .i64 .i64 f (by rw [hz2]; omega) (by omega) W
  clear hI hs hf hsz hb hi hz0 hz1 hz2
  go_enter Try.func41, Try.ntmps41
  go_wp2_with fail
  refine (HCO.out _).mono ?_
  rintro e w1 ⟨rfl, hb1⟩
  have bx1 : Box w1 w.heap.size 71 #[.int .i64 (x : Int), .int .i64 (y : Int), .int .i64 (m : Int)] := (Box.made rfl).below hb1
  have hB1 := below_of_alloc hb1
  have hB1s := hB1.size
  go_wp2_with (at_builtin; refine wpList_append_ints _ rfl (.tmp 23) (.tmp 24) rfl w1.heap.size 0 (.slice (some ⟨w1.heap.size, 0, none⟩) f f) f (fun _ => 0) rfl (OwnInts.made w1 w1.heap.size w1.heap.size f (Nat.le_refl _) rfl (by unfold maxLen; omega)) A n c B rfl ((HI.out.below hB1).alloc _) (by omega) (by simp) ?_; intro v2 w2 hownA hb2)
  have hownA : OwnInts w2 w1.heap.size v2 s (fillF f B) := by rw [hsf]; exact hownA
  have hB2 : Below w.heap.size w w2 := (hB1.alloc hB1s _).trans (hb2.mono hB1s)
  have bx2 := bx1.kept (((Below.refl _ _).alloc (Nat.le_refl _) _).trans hb2) bx1.lt
  obtain ⟨ga, capa, rfl, hga, hga2⟩ := hownA.row (by omega)
  obtain ⟨hsc, hcap9⟩ := hownA.cap_any
  obtain ⟨Aa, ca, ea, -, hIa⟩ := hownA.form
  injection ea with ea _ ea2; subst ea; subst ea2
  have HIA := hide (hIa.weak (Nat.zero_le _))
  have HB2 := hide hB2
  clear hIa hownA hB2 hb2 hB1 hb1 hmk bx1
  go_wp2_with fail
  go_loopw [8, 9] (fun z i wr => ∃ k : Nat, k ≤ cnt ∧ i = .int .i64 k ∧ OwnLists wr w2.heap.size z k (fun _ => a + x) (segF x y a f B) ∧ Below w2.heap.size w2 wr) (fun _ i _ => cnt - (intOf i).toNat)
  case atStart => exact ⟨0, Nat.zero_le _, rfl, OwnLists.nil_ _ _ _ _, Below.refl _ _⟩
  case round =>
    obtain ⟨k, hk, rfl, hown, hB⟩ := hrel
    have hBs := hB.size
    by_cases hlt : k < cnt
    · have hltz : (k : Int) < (cnt : Int) := by omega
      obtain ⟨As, cs, rfl, hcs, hcs9, hIs⟩ := hown.form
      have hmul : (k + 1) * a ≤ cnt * a := Nat.mul_le_mul_right a hlt
      rw [← HS.out, Nat.add_mul, Nat.one_mul] at hmul
      obtain ⟨u, hu⟩ : ∃ u : Nat, u = k * a := ⟨_, rfl⟩
      rw [← hu] at hmul
      obtain ⟨z, hz⟩ : ∃ z : Nat, z = u + a := ⟨_, rfl⟩
      have e1 : (k : Int) * (a : Int) = (u : Int) := by rw [hu]; simp
      have e2 : ((k : Int) + 1) * (a : Int) = (z : Int) := by rw [hz, Int.add_mul, e1]; simp
      have q5 : IntKind.i64.wrap ((k : Int) * (a : Int)) = (u : Int) := by rw [e1]; exact IntWalk.i64_in _ (by omega)
      have q6 : IntKind.i64.wrap ((k : Int) + 1) = (k : Int) + 1 := IntWalk.i64_in _ (by omega)
      have q7 : IntKind.i64.wrap (((k : Int) + 1) * (a : Int)) = (z : Int) := by rw [e2]; exact IntWalk.i64_in _ (by omega)
      have hsub : z - u = a := by omega
      have huz : (u : Int) ≤ (z : Int) := by omega
      have huz2 : u ≤ z := by omega
      have hzc : (z : Int) ≤ (capa : Int) := by omega
      have hzc2 : z ≤ capa := by omega
      have hne : ¬ capa = u := by omega
      obtain ⟨x0, x1, x2, hlx⟩ := rule_cells bx2
      have HU := hide (show (fun j => fillF f B (u + j)) = (fun j => fillF f B (k * a + j)) from by rw [hu])
      have HBB := hide (fun j (hj : j < a) => HB.out (u + j) (by omega))
      have HCH := hide (fun W hW => checkedR_any x y (some ⟨ga, u, none⟩) a (capa - u) (fun j => fillF f B (u + j)) W h0 h1 t1 c3 (by omega) hW HBB.out)
      have HIK := hide (fun W (hW : Below w2.heap.size w2 W) => (by have h5 := IntsAt.cut (j := u) (m := a) (HIA.out.below hW) (by omega); rw [Nat.zero_add] at h5; exact h5 : IntsAt W 0 (some ⟨ga, u, none⟩) a (fun j => fillF f B (u + j))))
      have SOF := hide (fun W' (h : Below w2.heap.size w2 W') => (⟨(h.cell (p := ⟨w.heap.size, 0, none⟩) hlx).trans x0, (h.cell (p := ⟨w.heap.size, 1, none⟩) hlx).trans x1, h⟩ :
        W'.cell? ⟨w.heap.size, 0, none⟩ = some (.int .i64 (x : Int)) ∧ W'.cell? ⟨w.heap.size, 1, none⟩ = some (.int .i64 (y : Int)) ∧ Below w2.heap.size w2 W'))
      have KI := hide (fun W' (h : W'.cell? ⟨w.heap.size, 0, none⟩ = some (.int .i64 (x : Int)) ∧ W'.cell? ⟨w.heap.size, 1, none⟩ = some (.int .i64 (y : Int)) ∧ Below w2.heap.size w2 W') => HIK.out W' h.2.2)
      have bb0 := hB
      clear e1 e2 hu hz hmul x0 x1 x2 hIs
      go_wp2_with fail
      go_region_held3 (fun w' => w'.cell? ⟨w.heap.size, 0, none⟩ = some (.int .i64 (x : Int)) ∧ w'.cell? ⟨w.heap.size, 1, none⟩ = some (.int .i64 (y : Int)) ∧ Below w2.heap.size w2 w')
        (first | assumption | exact SOF.out _ (by assumption) | exact SOF.out _ bb0.drew | exact SOF.out _ (balloc' (by assumption) (Nat.le_refl _) _))
        (first
          | (go_at_call 71; refine (HCH.out _ (KI.out _ (by assumption))).mono ?_; rintro r w7 ⟨v7, rfl, hown7, hb7⟩; obtain ⟨A7, c7, rfl, hc7, hI7⟩ := hown7.form; have hcap7 := hown7.cap_any; have hr7 := below_of_drew hb7; have hs7 : Below w2.heap.size w2 w7 := bstep2 hb7 (by assumption) (Nat.le_refl _))
          | (refine step_append_list _ (by rfl) _ _ (by rfl) w2.heap.size (.slice As k cs) k (fun _ => a + x) (segF x y a f B) (by rfl) ((hown.below hr7).alloc _) w7.heap.size A7 (a + x) c7 (catF a (fun j => fillF f B (u + j)) (remB x y a fun j => fillF f B (u + j))) (by rfl) ((Box.made rfl : Box _ w7.heap.size 24 #[.slice A7 (a + x) c7]).at_ 0) hc7 hcap7.2 ((hI7.weak hBs).alloc _) (fun b' o' e => (by subst e; exact ⟨fun zz => (by have h1 : wr.heap.size ≤ b' := (hown7.block (m := none)).1; have h2 := (hown.lt zz).2; omega), (by have := (hown7.block (m := none)).2; simp; omega)⟩)) (by omega) (by have := hs7.size; simp; omega) ?_; intro v' w' h1 hb8; have hb9 := (hs7.alloc hs7.size _).trans hb8))
      go_wp2_with fail
      refine ⟨⟨k + 1, by omega, by simp, h1.congr (fun i hi => ?_), hb9⟩, by simp [intOf]; omega⟩
      unfold snocN snocF
      by_cases e : i < k
      · rw [if_pos e, if_pos e]; exact ⟨rfl, fun _ _ => rfl⟩
      · obtain rfl : i = k := by omega
        rw [if_neg e, if_neg e, HU.out]; exact ⟨rfl, fun _ _ => rfl⟩
    · obtain rfl : k = cnt := by omega
      go_wp2_with fail
      go_ret
      exact ⟨_, rfl, by
        obtain ⟨xs, g1, g2⟩ := hown
        exact ⟨xs, ⟨g1.1, g1.2.elim .inl (fun ⟨g, cp, cu, e1, e2, r⟩ => .inr ⟨g, cp, cu, e1, Nat.le_trans HB2.out.size e2, r⟩)⟩, fun i hi => by
          obtain ⟨Ai, ci, e1, e2, e3, e4, e5⟩ := g2 i hi
          exact ⟨Ai, ci, e1, e2, e3, e4.weak HB2.out.size, e5⟩⟩, HB2.out.trans (hB.mono HB2.out.size)⟩
end Go.Proofs.Ytjelbemfljobaaa
