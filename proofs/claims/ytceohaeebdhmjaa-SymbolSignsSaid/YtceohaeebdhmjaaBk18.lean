/- Lemmas: S19, S20. -/
import Derived.Test.YtceohaeebdhmjaaBk14
import Derived.Test.YtceohaeebdhmjaaBk17
set_option linter.unusedVariables false
set_option linter.unusedSimpArgs false
/- OrderErr and LevelOf of the reference. -/
namespace Go.Proofs.Ytceohaeebdhmjaa
open Go.RowKit Go.Lib
set_option maxHeartbeats 1000000 in
theorem OrderErr_any (k : Int) (w : World) : Calls Try.prog 45 #[.int .i64 k] w fun e w' => e = .returned (.int .i64 (ordE k)) ∧ w = w' := by
  by_cases h2 : k = 2
  · subst h2
    go_enter Try.func45, Try.ntmps45
    go_wp2_with fail
    go_ret
    exact ⟨rfl, rfl⟩
  by_cases h4 : k = 4
  · subst h4
    go_enter Try.func45, Try.ntmps45
    go_wp2_with fail
    go_ret
    exact ⟨rfl, rfl⟩
  by_cases h6 : k = 6
  · subst h6
    go_enter Try.func45, Try.ntmps45
    go_wp2_with fail
    go_ret
    exact ⟨rfl, rfl⟩
  have e : ordE k = 15 := if_neg (by omega)
  rw [e]
  clear e
  have t2 : (k != 2) = true := by simpa using h2
  have t4 : (k != 4) = true := by simpa using h4
  have t6 : (k != 6) = true := by simpa using h6
  go_enter Try.func45, Try.ntmps45
  go_wp2_with fail
  go_ret
  exact ⟨rfl, rfl⟩
set_option maxHeartbeats 4000000 in
set_option maxRecDepth 100000 in
theorem LevelOfR1_any (b o c : Nat) (F : Nat → Int) (w : World) (hc : 1 ≤ c) (hc9 : c ≤ 9223372036854775807) (hF : ∀ j, j < 1 → IsBit (F j)) (hI : IntsAt w 0 (some ⟨b, o, none⟩) 1 F) :
    Calls Try.prog 106 #[.slice (some ⟨b, o, none⟩) 1 c] w fun e w' => e = .returned (.int .i64 (lvl 1 F)) ∧ w = w' := by
  have c0 := intsAt_cell0 hI (by decide)
  have hx := hF 0 (by decide)
  have hcz : (1 : Int) ≤ (c : Int) := by omega
  have hc1z : (1 : Int) ≤ (c : Int) := by omega
  have HV := hide (show lvl 1 F = 1 - 2 * F 0 from rfl)
  obtain ⟨v, hv⟩ : ∃ z, lvl 1 F = z := ⟨_, rfl⟩
  rw [hv]
  rw [hv] at HV
  obtain ⟨x, hx0⟩ : ∃ z, F 0 = z := ⟨_, rfl⟩
  rw [hx0] at hx HV c0
  clear hF hI hv hx0
  rcases hx with rfl | rfl
  · obtain rfl : v = 1 := HV.out.trans (by omega)
    go_enter Try.func106, Try.ntmps106
    go_wp2_with fail
    go_ret
    exact ⟨rfl, rfl⟩
  · obtain rfl : v = -1 := HV.out.trans (by omega)
    go_enter Try.func106, Try.ntmps106
    go_wp2_with fail
    go_ret
    exact ⟨rfl, rfl⟩
set_option maxHeartbeats 4000000 in
set_option maxRecDepth 100000 in
theorem LevelOfR2_any (b o c : Nat) (F : Nat → Int) (w : World) (hc : 2 ≤ c) (hc9 : c ≤ 9223372036854775807) (hF : ∀ j, j < 2 → IsBit (F j)) (hI : IntsAt w 0 (some ⟨b, o, none⟩) 2 F) :
    Calls Try.prog 106 #[.slice (some ⟨b, o, none⟩) 2 c] w fun e w' => e = .returned (.int .i64 (lvl 2 F)) ∧ w = w' := by
  have c0 := intsAt_cell0 hI (by decide)
  have hx := hF 0 (by decide)
  have hcz : (2 : Int) ≤ (c : Int) := by omega
  have hc1z : (1 : Int) ≤ (c : Int) := by omega
  have hcne : ¬ c = 1 := by omega
  have hle := lvl1_le (F := fun j => F (j + 1)) fun j hj => hF (j + 1) (by omega)
  have HRC := hide (LevelOfR1_any b (o + 1) (c - 1) (fun j => F (j + 1)) w (by omega) (by omega) (fun j hj => hF (j + 1) (by omega)) (intsAt_rest hI))
  have HV := hide (lvl_two F)
  obtain ⟨y, hy⟩ : ∃ z, lvl 1 (fun j => F (j + 1)) = z := ⟨_, rfl⟩
  simp only [hy] at HRC HV hle
  clear hy
  obtain ⟨v, hv⟩ : ∃ z, lvl 2 F = z := ⟨_, rfl⟩
  rw [hv]
  rw [hv] at HV
  obtain ⟨x, hx0⟩ : ∃ z, F 0 = z := ⟨_, rfl⟩
  rw [hx0] at hx HV c0
  clear hF hI hv hx0
  rcases hx with rfl | rfl
  · obtain rfl : v = 2 - y := HV.out.trans (by omega)
    have qy : IntKind.i64.wrap (2 - y) = 2 - y := IntWalk.i64_in _ (by omega)
    go_enter Try.func106, Try.ntmps106
    go_wp2_with fail
    go_loopw [4, 5] (fun a i wr => a = .int .i64 2 ∧ i = .int .i64 2 ∧ w = wr) (fun _ _ _ => 0)
    case atStart => exact ⟨rfl, rfl, rfl⟩
    case round =>
      obtain ⟨rfl, rfl, rfl⟩ := hrel
      go_wp2_with fail
      refine HRC.out.mono ?_
      rintro e_ w1 ⟨rfl, rfl⟩
      go_wp2_with fail
      go_ret
      exact ⟨by first | rfl | (simp [qy]; done) | (simp [qy, qy]; done), rfl⟩
  · obtain rfl : v = -(2 - y) := HV.out.trans (by omega)
    have qy : IntKind.i64.wrap (2 - y) = 2 - y := IntWalk.i64_in _ (by omega)
    have qz : IntKind.i64.wrap (-(2 - y)) = -(2 - y) := IntWalk.i64_in _ (by omega)
    have qz2 : IntKind.i64.wrap (-1 * (2 - y)) = -(2 - y) := by rw [show (-1 : Int) * (2 - y) = -(2 - y) by omega]; exact qz
    go_enter Try.func106, Try.ntmps106
    go_wp2_with fail
    go_loopw [4, 5] (fun a i wr => a = .int .i64 2 ∧ i = .int .i64 2 ∧ w = wr) (fun _ _ _ => 0)
    case atStart => exact ⟨rfl, rfl, rfl⟩
    case round =>
      obtain ⟨rfl, rfl, rfl⟩ := hrel
      go_wp2_with fail
      refine HRC.out.mono ?_
      rintro e_ w1 ⟨rfl, rfl⟩
      go_wp2_with fail
      go_ret
      exact ⟨by first | rfl | (simp [qy]; done) | (simp [qy, qz, qz2]; done), rfl⟩
set_option maxHeartbeats 4000000 in
set_option maxRecDepth 100000 in
theorem LevelOfR3_any (b o c : Nat) (F : Nat → Int) (w : World) (hc : 3 ≤ c) (hc9 : c ≤ 9223372036854775807) (hF : ∀ j, j < 3 → IsBit (F j)) (hI : IntsAt w 0 (some ⟨b, o, none⟩) 3 F) :
    Calls Try.prog 106 #[.slice (some ⟨b, o, none⟩) 3 c] w fun e w' => e = .returned (.int .i64 (lvl 3 F)) ∧ w = w' := by
  have c0 := intsAt_cell0 hI (by decide)
  have hx := hF 0 (by decide)
  have hcz : (3 : Int) ≤ (c : Int) := by omega
  have hc1z : (1 : Int) ≤ (c : Int) := by omega
  have hcne : ¬ c = 1 := by omega
  have hle := lvl2_le (F := fun j => F (j + 1)) fun j hj => hF (j + 1) (by omega)
  have HRC := hide (LevelOfR2_any b (o + 1) (c - 1) (fun j => F (j + 1)) w (by omega) (by omega) (fun j hj => hF (j + 1) (by omega)) (intsAt_rest hI))
  have HV := hide (lvl_three F)
  obtain ⟨y, hy⟩ : ∃ z, lvl 2 (fun j => F (j + 1)) = z := ⟨_, rfl⟩
  simp only [hy] at HRC HV hle
  clear hy
  obtain ⟨v, hv⟩ : ∃ z, lvl 3 F = z := ⟨_, rfl⟩
  rw [hv]
  rw [hv] at HV
  obtain ⟨x, hx0⟩ : ∃ z, F 0 = z := ⟨_, rfl⟩
  rw [hx0] at hx HV c0
  clear hF hI hv hx0
  rcases hx with rfl | rfl
  · obtain rfl : v = 4 - y := HV.out.trans (by omega)
    have qy : IntKind.i64.wrap (4 - y) = 4 - y := IntWalk.i64_in _ (by omega)
    go_enter Try.func106, Try.ntmps106
    go_wp2_with fail
    go_loopw [4, 5] (fun a i wr => ∃ k : Nat, k ≤ 1 ∧ a = .int .i64 (2 * (k : Int) + 2) ∧ i = .int .i64 ((k : Int) + 2) ∧ w = wr) (fun _ i _ => 3 - (Go.RowKit.intOf i).toNat)
    case atStart => exact ⟨0, by decide, rfl, rfl, rfl⟩
    case round =>
      obtain ⟨k, hk, rfl, rfl, rfl⟩ := hrel
      match k, hk with
      | 0, _ =>
        go_wp2_with fail
        go_roundw
        case rel => exact ⟨1, by decide, by first | rfl | trivial, by first | rfl | trivial, by first | rfl | trivial⟩
        case measure => simp [Go.RowKit.intOf]
      | 1, _ =>
        go_wp2_with fail
        refine HRC.out.mono ?_
        rintro e_ w1 ⟨rfl, rfl⟩
        go_wp2_with fail
        go_ret
        exact ⟨by first | rfl | (simp [qy]; done) | (simp [qy, qy]; done), rfl⟩
  · obtain rfl : v = -(4 - y) := HV.out.trans (by omega)
    have qy : IntKind.i64.wrap (4 - y) = 4 - y := IntWalk.i64_in _ (by omega)
    have qz : IntKind.i64.wrap (-(4 - y)) = -(4 - y) := IntWalk.i64_in _ (by omega)
    have qz2 : IntKind.i64.wrap (-1 * (4 - y)) = -(4 - y) := by rw [show (-1 : Int) * (4 - y) = -(4 - y) by omega]; exact qz
    go_enter Try.func106, Try.ntmps106
    go_wp2_with fail
    go_loopw [4, 5] (fun a i wr => ∃ k : Nat, k ≤ 1 ∧ a = .int .i64 (2 * (k : Int) + 2) ∧ i = .int .i64 ((k : Int) + 2) ∧ w = wr) (fun _ i _ => 3 - (Go.RowKit.intOf i).toNat)
    case atStart => exact ⟨0, by decide, rfl, rfl, rfl⟩
    case round =>
      obtain ⟨k, hk, rfl, rfl, rfl⟩ := hrel
      match k, hk with
      | 0, _ =>
        go_wp2_with fail
        go_roundw
        case rel => exact ⟨1, by decide, by first | rfl | trivial, by first | rfl | trivial, by first | rfl | trivial⟩
        case measure => simp [Go.RowKit.intOf]
      | 1, _ =>
        go_wp2_with fail
        refine HRC.out.mono ?_
        rintro e_ w1 ⟨rfl, rfl⟩
        go_wp2_with fail
        go_ret
        exact ⟨by first | rfl | (simp [qy]; done) | (simp [qy, qz, qz2]; done), rfl⟩
end Go.Proofs.Ytceohaeebdhmjaa
/- slices.Chunk of a list that has some times as many numbers. -/
namespace Go.Proofs.Ytceohaeebdhmjaa
open Go.RowKit Go.Shelf
attribute [local go_sem] Oper.semAt_some
set_option maxHeartbeats 400000 in
theorem chunkS_any (A : Option Addr) (n c k : Nat) (w : World) (hk : 1 ≤ k) :
    Calls Try.prog 85 #[.slice A n c, .int .i64 (k : Int)] w fun e w' =>
      e = .returned (.func (.func 108) #[] #[.pointer (some ⟨w.heap.size, 0, none⟩), .pointer (some ⟨w.heap.size + 1, 0, none⟩)]) ∧
        (w.alloc (.cells #[.slice A n c] 59)).alloc (.cells #[.int .i64 (k : Int)] 3) = w' := by
  have t1 : decide ((k : Int) < 1) = false := by simp; omega
  go_enter Try.func85, Try.ntmps85
  go_wp2
  go_ret
  exact ⟨rfl, rfl⟩
/-- Two blocks stay as they are. -/
def K2S (a : Nat) (A B : World) : Prop := A.heap.size ≤ B.heap.size ∧ B.heap[a]? = A.heap[a]? ∧ B.heap[a + 1]? = A.heap[a + 1]?
theorem K2S.refl (a : Nat) (A : World) : K2S a A A := ⟨Nat.le_refl _, rfl, rfl⟩
theorem K2S.trans {a : Nat} {A B C : World} (h : K2S a A B) (k : K2S a B C) : K2S a A C := ⟨Nat.le_trans h.1 k.1, k.2.1.trans h.2.1, k.2.2.trans h.2.2⟩
theorem K2S.of_below {a B0 : Nat} {A B : World} (h : Below B0 A B) (hk : a + 1 < B0) : K2S a A B := ⟨h.size, h.block _ (by omega), h.block _ hk⟩
theorem K2S.put {a l : Nat} {W : World} {o' : Obj} (h1 : l < a ∨ a + 1 < l) : K2S a W (W.putObj l o') :=
  ⟨by simp, World.putObj_heap_other (by omega), World.putObj_heap_other (by omega)⟩
/-- What the iterator hands to a round: the piece of a numbers. -/
def encS (g a C : Nat) (x : Fin C) : Array Value := #[.slice (some ⟨g, x.1 * a, none⟩) a a]
set_option maxHeartbeats 2000000 in
set_option maxRecDepth 100000 in
theorem chunkS_stops (fu : Nat) (b g a C s cap : Nat) (w : World)
    (bs : Box w b 59 #[.slice (some ⟨g, 0, none⟩) s cap]) (bn : Box w (b + 1) 3 #[.int .i64 (a : Int)])
    (ha : 1 ≤ a) (hs : s = C * a) (hs9 : s ≤ 100000) (hcap : s ≤ cap) (hcap9 : cap ≤ 9223372036854775807) :
    SeqStopsK Fence.wide fu Try.prog 108 #[.pointer (some ⟨b, 0, none⟩), .pointer (some ⟨b + 1, 0, none⟩)] (encS g a C) (K2S b)
      (fun xs => xs = seqTo C C) (fun _ => True) C w := by
  intro l J Jx W hW hJ hJx hY h0
  have cs := bs.below hW
  have cn := bn.below hW
  clear bs bn hW
  have z0 := cs.at_ 0
  have z1 := cn.at_ 0
  simp only [List.getElem?_toArray] at z0 z1
  have HS := hide hs
  clear hs
  refine callsIn_of_wp Try.func108 rfl trivial ?_ rfl
  simp only [Try.ntmps108, List.size_toArray, List.length_cons, List.length_nil, Nat.reduceAdd, Nat.reduceSub, Array.replicate_succ, Array.replicate_zero, List.push_toArray, List.append_toArray, List.nil_append, List.cons_append]
  gi_wp2_with fail
  gi_loopw [4] (fun i wr => ∃ j : Nat, j ≤ C ∧ i = .int .i64 ((j * a : Nat) : Int) ∧ J (seqTo C j) wr ∧ K2S b W wr) (fun i _ => s - (Go.RowKit.intOf i).toNat)
  case atStart => exact ⟨0, Nat.zero_le _, by rw [Nat.zero_mul]; rfl, h0, K2S.refl _ _⟩
  case round =>
    obtain ⟨j, hj, rfl, hJs, hnx⟩ := hrel
    have ds : Box wr b _ _ := hnx.2.1.trans cs
    have dn : Box wr (b + 1) _ _ := hnx.2.2.trans cn
    have x0 := ds.at_ 0
    have x1 := dn.at_ 0
    simp only [List.getElem?_toArray] at x0 x1
    obtain ⟨u, hu⟩ : ∃ u : Nat, u = j * a := ⟨_, rfl⟩
    rw [← hu]
    by_cases hlt : j < C
    · have hmul : (j + 1) * a ≤ C * a := Nat.mul_le_mul_right a hlt
      rw [← HS.out, Nat.add_mul, Nat.one_mul, ← hu] at hmul
      obtain ⟨z, hz⟩ : ∃ z : Nat, z = u + a := ⟨_, rfl⟩
      have hus : (u : Int) < (s : Int) := by omega
      have hus2 : u < s := by omega
      have hus3 : (u : Int) ≤ (s : Int) := by omega
      have hucap : (u : Int) ≤ (cap : Int) := by omega
      have hne : ¬ cap = u := by omega
      have hmn : ¬ ((s - u : Nat) : Int) < (a : Int) := by omega
      have hmn2 : ¬ s - u < a := by omega
      have q5 : IntKind.i64.wrap ((u : Int) + (a : Int)) = (z : Int) := by rw [IntWalk.i64_in _ (by omega)]; omega
      have huz : (u : Int) ≤ (z : Int) := by omega
      have huz2 : u ≤ z := by omega
      have hzc : (z : Int) ≤ (cap : Int) := by omega
      have hzs : (z : Int) ≤ (s : Int) := by omega
      have hsub : z - u = a := by omega
      have hne2 : ¬ z = u := by omega
      have hne3 : ¬ a = 0 := by omega
      have hJd : J (seqTo C j) wr.drew := hJ _ _ _ _ hJs (grown_of_below ((Below.refl _ _).drew)) (fun r e => by cases e)
      obtain ⟨fn', tmps, assign, body, hy, hR⟩ := hY (seqTo C j) ⟨j, hlt⟩ wr.drew hJd (Nat.lt_of_le_of_lt (seqTo_len _ _) hlt)
      dsimp only [encS] at hy
      rw [← hu] at hy
      have HZ := hide (show z = (j + 1) * a from by rw [hz, hu, Nat.add_mul, Nat.one_mul])
      have HU := hide hu
      have HZA := hide hz
      clear hu hz hmul
      gi_wp2_with fail
      gi_region
      gi_wp2_with fail
      refine ⟨fun h => by simp [Fence.wide] at h, hR.mono ?_⟩
      rintro e w3 (⟨rfl, hJ3, hk3⟩ | ⟨rfl, hJx3⟩)
      · have hn3 : K2S b W w3 := hnx.trans hk3
        have d3 : Box w3 (b + 1) _ _ := hn3.2.2.trans cn
        have y1 := d3.at_ 0
        simp only [List.getElem?_toArray] at y1
        clear x1 x0
        gi_wp2_with fail
        go_roundw
        case rel => exact ⟨j + 1, by omega, by rw [← HZ.out], by rw [seqTo_succ hlt]; exact hJ3, hn3⟩
        case measure => simp [Go.RowKit.intOf]; omega
      · gi_wp2_with fail
        refine bodyPost_ret (results_none rfl _ _ _) rfl ?_
        exact ⟨⟨_, rfl⟩, .inr ⟨_, trivial, hJx3⟩⟩
    · obtain rfl : j = C := by omega
      rw [← HS.out] at hu
      subst hu
      gi_wp2_with fail
      go_end0
      exact ⟨⟨_, rfl⟩, .inl ⟨_, rfl, hJs⟩⟩
end Go.Proofs.Ytceohaeebdhmjaa
