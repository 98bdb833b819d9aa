/- Lemmas: Pp. -/
import Derived.Deep.DeepCutAuto
import Derived.Test.YtnglmfdcnoglhaaBk01
import Derived.Test.YtnglmfdcnoglhaaBk04
import Derived.Test.YtnglmfdcnoglhaaBk08
import Derived.Test.YtnglmfdcnoglhaaBk10
import Derived.Test.YtnglmfdcnoglhaaBk16
set_option linter.unusedVariables false
set_option linter.unusedSimpArgs false
/- TopCodeRecovered: the walk. -/
namespace Go.Proofs.Ytnglmfdcnoglhaa
open Go.RowKit Go.Shelf
theorem sending_cells {W : World} {b : Nat} {C D : Option Addr} {m e z f : Nat} (bx : Box W b 30 #[.slice C m e, .slice D z f]) :
    W.cell? ⟨b, 0, none⟩ = some (.slice C m e) ∧ W.cell? ⟨b, 1, none⟩ = some (.slice D z f) ∧ b < W.heap.size := ⟨bx.at_ 0, bx.at_ 1, bx.lt⟩
/-- What the loop over the versions keeps. -/
structure RecI (w : World) (hb gs : Nat) (cv xv : Array Value) (D : Option Addr) (cD N : Nat) (mark : Nat → Bool) (W : World) : Prop where
  bc : Box W w.heap.size 28 cv
  bx : Box W (w.heap.size + 1) 30 xv
  bb : Box W hb 36 #[.int .i64 (N : Int), .slice D 1 cD]
  row : W.rowIs gs 3 N (fun p => .int .i64 (if mark p = true then 1 else 0))
  below : Below w.heap.size w W
theorem RecI.kept {w : World} {hb gs : Nat} {cv xv : Array Value} {D : Option Addr} {cD N : Nat} {mark : Nat → Bool} {W W' : World} (h : RecI w hb gs cv xv D cD N mark W) (hb' : Below W.heap.size W W') : RecI w hb gs cv xv D cD N mark W' :=
  ⟨h.bc.below hb', h.bx.below hb', h.bb.below hb', rowIs_below h.row hb', h.below.trans (hb'.mono h.below.size)⟩
/-- The sums of a buffer so far. -/
structure SumI (N j : Nat) (T K : Nat → Int) (S : Nat → Nat → Int) (Wd : Nat → Int) (mark : Nat → Bool) : Prop where
  ok : BufOk 1 N T K S
  tog : (j = 0 ∧ T 0 = -1) ∨ (0 < j ∧ T 0 = 0)
  cnt : K 0 = (j : Int)
  part : Part (S 0) Wd mark N
  le : ∀ p, p < N → -((j : Int) * 80000) ≤ S 0 p ∧ S 0 p ≤ (j : Int) * 80000
theorem gather_small {v n k : Nat} {x : Nat → Int} (hk : k ≤ 80) (hx : ∀ i, i < k → -1000 ≤ x i ∧ x i ≤ 1000) : ∀ i, i ≤ k → ∀ p, -((i : Int) * 1000) ≤ gatherF v n x i p ∧ gatherF v n x i p ≤ (i : Int) * 1000
  | 0, _, p => by unfold gatherF; exact ⟨by decide, by decide⟩
  | i + 1, hi, p => by
    have ih := gather_small (v := v) (n := n) hk hx i (by omega) p
    have h1 := hx i (by omega)
    unfold gatherF
    split <;> omega
theorem SumI.next {N j k v : Nat} {T K : Nat → Int} {S : Nat → Nat → Int} {Wd x : Nat → Int} {mark : Nat → Bool} (h : SumI N j T K S Wd mark) (hj : j < 6) (hk : k ≤ 80) (hx : ∀ i, i < k → -1000 ≤ x i ∧ x i ≤ 1000) (ht : ∀ i, i < k → Tells (x i) (Wd (placeN v N i))) :
    (0 = T 0 → ∀ p, p < N → -1000000000 ≤ S 0 p + gatherF v N x k p ∧ S 0 p + gatherF v N x k p ≤ 1000000000) ∧ SumI N (j + 1) (setF T 0 0) (behK T K 0 0) (behS T S 0 0 (gatherF v N x k)) Wd (fun p => mark p || sentB v N k p) := by
  have hg := gather_small (v := v) (n := N) hk hx k (Nat.le_refl k)
  have hkz : (k : Int) * 1000 ≤ 80 * 1000 := by omega
  have key : ∀ p, p < N → behS T S 0 0 (gatherF v N x k) 0 p = S 0 p + gatherF v N x k p := fun p hp => by
    show (if (0 : Nat) = 0 then (if (0 : Int) = T 0 then fun j => S 0 j + gatherF v N x k j else gatherF v N x k) else S 0) p = _
    rw [if_pos rfl]
    rcases h.tog with ⟨h0, h1⟩ | ⟨h0, h1⟩
    · rw [if_neg (by omega)]
      have hc : K 0 = 0 := by rw [h.cnt, h0]; rfl
      rw [(h.ok.each 0 (by decide)).2.2.2.2 hc p hp, Int.zero_add]
    · rw [if_pos h1.symm]
  have hle : ∀ p, p < N → -(((j + 1 : Nat) : Int) * 80000) ≤ S 0 p + gatherF v N x k p ∧ S 0 p + gatherF v N x k p ≤ ((j + 1 : Nat) : Int) * 80000 := fun p hp => by
    have h1 := h.le p hp
    have h2 := hg p
    omega
  refine ⟨fun _ p hp => by have := hle p hp; omega, ?_, .inr ⟨Nat.succ_pos j, if_pos rfl⟩, ?_, ?_, fun p hp => by rw [key p hp]; exact hle p hp⟩
  · refine h.ok.next ⟨by decide, by decide⟩ (by decide) (by rw [h.cnt]; omega) fun p hp => ?_
    rw [key p hp]
    have := hle p hp
    omega
  · show (if (0 : Nat) = 0 then (if (0 : Int) = T 0 then K 0 + 1 else 1) else K 0) = _
    rw [if_pos rfl]
    rcases h.tog with ⟨h0, h1⟩ | ⟨h0, h1⟩
    · rw [if_neg (by omega), h0]; rfl
    · rw [if_pos h1.symm, h.cnt]; rfl
  · intro p hp
    have hp' := h.part.add ht p hp
    rw [key p hp]
    exact hp'
set_option maxHeartbeats 40000000 in
set_option maxRecDepth 100000 in
theorem topRecovered_walk (d t p k : Int) (A C VA ZA : Option Addr) (n c m e vn vc zn zc : Nat) (F B V Z : Nat → Int) (w : World) (hn : n ≤ 9223372036854775807) (hm : m ≤ 9223372036854775807) (hvn : vn ≤ 9223372036854775807) (hzn : zn ≤ 9223372036854775807) (hI : IntsAt w 0 A n F) (hJ : IntsAt w 0 C m B) (hV : IntsAt w 0 VA vn V) (hZ : IntsAt w 0 ZA zn Z) :
    Calls Try.prog 3 #[.agg #[.int .i64 d, .int .i64 t, .int .i64 p, .slice A n c, .int .i64 k], .slice C m e, .agg #[.slice VA vn vc, .slice ZA zn zc]] w fun r w' => r = .returned (.bool true) ∧ Below w.heap.size w w' := by
  have HI := hide hI
  have HJ := hide hJ
  have HV := hide hV
  have HZ := hide hZ
  clear hI hJ hV hZ
  go_enter Try.func3, Try.ntmps3
  go_wp2_with fail
  refine (coded_any _).mono ?_
  rintro r w1 ⟨rfl, hb1⟩
  have bc1 : Box w1 w.heap.size 28 #[.int .i64 d, .int .i64 t, .int .i64 p, .slice A n c, .int .i64 k] := ((Box.made rfl).alloc _).below hb1
  have bx1 : Box w1 (w.heap.size + 1) 30 #[.slice VA vn vc, .slice ZA zn zc] := (Box.made (by simp)).below hb1
  have hB1 : Below w.heap.size w w1 := (((Below.refl _ _).alloc (Nat.le_refl _) _).alloc (by simp) _).trans (hb1.mono (by simp; omega))
  clear hb1
  obtain ⟨z0, z1, z2, z3, z4, hlz⟩ := chain_cells bc1
  go_wp2_with fail
  refine (codeRight_any d t p k A C n c m e F B _ hn hm (HI.out.below hB1) (HJ.out.below hB1)).mono ?_
  rintro r w2 ⟨rfl, hb2⟩
  have bc2 := bc1.below hb2
  have bx2 := bx1.below hb2
  have hB2 := hB1.trans (hb2.mono hB1.size)
  clear bc1 bx1 hB1 hb2 z0 z1 z2 z3 z4 hlz
  cases hcr : codeRightB d t p n F k m B
  · go_wp2_with fail
    go_ret
    exact ⟨rfl, hB2⟩
  · obtain ⟨x2, y2, q2, k2, rfl, rfl, rfl, rfl, ok⟩ := sendOk_of hcr
    clear hcr
    obtain ⟨y0, y1, hly⟩ := sending_cells bx2
    by_cases hv0 : vn = 0
    · subst hv0
      go_wp2_with fail
      go_ret
      exact ⟨rfl, hB2⟩
    · have tv0 : ((vn : Int) == 0) = false := by simp; omega
      by_cases hv6 : 6 < vn
      · have tv6 : decide ((6 : Int) < (vn : Int)) = true := decide_eq_true (by omega)
        have tv6' : decide (6 < vn) = true := decide_eq_true hv6
        go_wp2_with fail
        go_ret
        exact ⟨rfl, hB2⟩
      · have tv6 : decide ((6 : Int) < (vn : Int)) = false := decide_eq_false (by omega)
        have tv6' : decide (6 < vn) = false := decide_eq_false hv6
        have OK := hide ok
        have hl2 := ok.len
        have hn9 := ok.n9
        have hk80 := ok.k80
        have hk1 := ok.k1
        have hq6 := ok.q6
        have hm0 := ok.m0
        have hms := ok.sum
        have HSE := hide (fun W v A' C' c' e' hv hW hW2 => Sent_ok x2 y2 q2 k2 n m v A' C' c' e' F B W ok hv hW hW2)
        have HRC := hide (fun W A' C' c' e' S h1 h2 h3 h4 hW hW2 => Recovered_ok x2 y2 q2 k2 n m A' C' c' e' F B S W ok h1 h2 h3 h4 hW hW2)
        have HLN := hide (fun A' c' W => length_any q2 A' n c' W (by omega))
        obtain ⟨N, hN⟩ : ∃ N, N = 2 ^ q2 := ⟨_, rfl⟩
        have eN : (2 : Int) ^ q2 = (N : Int) := by rw [hN]; simp
        rw [eN] at HLN
        rw [← hN] at hl2 HRC
        have HN := hide hN
        obtain ⟨N1, N9⟩ := hl2
        have hvn6 : vn ≤ 6 := by omega
        have hm66 : m ≤ 66 := by omega
        clear ok eN hN hms hv6
        obtain ⟨z0, z1, z2, z3, z4, hlz⟩ := chain_cells bc2
        go_wp2_with fail
        refine (HLN.out _ _ _).mono ?_
        rintro r w3 ⟨rfl, hb3⟩
        have bc3 := bc2.below hb3
        have bx3 := bx2.below hb3
        have hB3 := hB2.trans (hb3.mono hB2.size)
        clear bc2 bx2 hB2 hb3 z0 z1 z2 z3 z4 hlz y0 y1 hly tv0 tv6 tv6'
        go_wp2_with fail
        refine (Begin_ok N 1 _ N1 (by omega) (by decide) (by decide)).mono ?_
        rintro r w4 ⟨D, cD, rfl, hP4, hb4⟩
        have bc4 := bc3.below hb4
        have bx4 := bx3.below hb4
        have hB4 := hB3.trans (hb4.mono hB3.size)
        clear bc3 bx3 hB3 hb4
        go_upto_region 7 with fail
        obtain ⟨w5, hw5⟩ : ∃ x : World, x = w4.alloc (.cells #[.int .i64 (N : Int), .slice D 1 cD] 36) := ⟨_, rfl⟩
        rw [← hw5]
        have bb5 : Box w5 w4.heap.size 36 #[.int .i64 (N : Int), .slice D 1 cD] := by rw [hw5]; exact Box.made rfl
        have bc5 : Box w5 w.heap.size 28 #[.int .i64 (x2 : Int), .int .i64 (y2 : Int), .int .i64 (q2 : Int), .slice A n c, .int .i64 (k2 : Int)] := by rw [hw5]; exact bc4.alloc _
        have bx5 : Box w5 (w.heap.size + 1) 30 #[.slice VA vn vc, .slice ZA zn zc] := by rw [hw5]; exact bx4.alloc _
        have hP5 : ProcsAt w5 w3.heap.size D 1 (fun _ => -1) (fun _ => 0) (fun _ => N) (fun _ _ => 0) := by rw [hw5]; exact hP4.alloc _
        have hB5 : Below w.heap.size w w5 := by rw [hw5]; exact hB4.alloc hB4.size _
        have hs5 : w4.heap.size < w5.heap.size := by rw [hw5]; simp
        have hs4 := hB4.size
        have hlx4 := bx4.lt
        clear hw5 bc4 bx4 hB4 hP4
        obtain ⟨b0, b1, hlb⟩ := bufs_cells bb5
        go_wp2_with fail
        refine (buffersErrR_ok 1 N cD D _ _ _ _ (BufOk.begun (by decide) (by decide) N1 (by omega)) (hP5.weak (Nat.zero_le _))).mono ?_
        rintro r w6 ⟨rfl, hb6⟩
        have bb6 := bb5.below hb6
        have bc6 := bc5.below hb6
        have bx6 := bx5.below hb6
        have hP6 := (hP5.below hb6).weak (Nat.zero_le _)
        have hB6 := hB5.trans (hb6.mono hB5.size)
        have hs6 := hb6.size
        clear bb5 bc5 bx5 hP5 hB5 hb6 b0 b1 hlb
        obtain ⟨b0, b1, hlb⟩ := bufs_cells bb6
        obtain ⟨i0, hi, hmi0, hmi1, hmi2⟩ := info_parts intInfo
        have hmk := fun W => run_make_row (P := Try.prog) 24 3 i0 (.int .i64 0) Try.underlying24 hi hmi0 hmi1 rfl .i64 .i64 N (by rw [hmi2]; omega) (by omega) W
        clear hi hmi0 hmi1 hmi2
        go_wp2_with fail
        clear hmk b0 b1 hlb
        have RI0 : RecI w w4.heap.size w6.heap.size #[.int .i64 (x2 : Int), .int .i64 (y2 : Int), .int .i64 (q2 : Int), .slice A n c, .int .i64 (k2 : Int)] #[.slice VA vn vc, .slice ZA zn zc] D cD N (fun _ => false) (w6.alloc (.cells (madeCells #[.int .i64 0] N) 3)) :=
          ⟨bc6.alloc _, bx6.alloc _, bb6.alloc _, (World.rowIs_made w6 (.int .i64 0) N 3).congr (fun _ _ => rfl), hB6.alloc hB6.size _⟩
        have HP0 := hide (hP6.alloc (.cells (madeCells #[.int .i64 0] N) 3))
        clear bc6 bx6 bb6 hP6 hB6
        go_loopw [11, 12, 13, 14, 15, 16, 17] (fun i _ _ _ _ _ _ wr => ∃ j : Nat, j ≤ vn ∧ i = .int .i64 j ∧ Hid (∃ D cD T K S mark, RecI w w4.heap.size w6.heap.size #[.int .i64 (x2 : Int), .int .i64 (y2 : Int), .int .i64 (q2 : Int), .slice A n c, .int .i64 (k2 : Int)] #[.slice VA vn vc, .slice ZA zn zc] D cD N mark wr ∧ ProcsAt wr 0 D 1 T K (fun _ => N) S ∧ SumI N j T K S (codeF x2 y2 q2 n m F B) mark)) (fun i _ _ _ _ _ _ _ => vn - (intOf i).toNat)
        case atStart => exact ⟨0, Nat.zero_le _, rfl, hide ⟨D, cD, _, _, _, _, RI0, HP0.out, ⟨BufOk.begun (by decide) (by decide) N1 (by omega), .inl ⟨rfl, rfl⟩, rfl, Part.none, fun _ _ => ⟨by decide, by decide⟩⟩⟩⟩
        case round =>
          obtain ⟨j, hj, rfl, HG⟩ := hrel
          obtain ⟨D, cD, T, K, S, mark, RI, hP, hS⟩ := HG.out
          obtain ⟨y0, y1, hly⟩ := sending_cells RI.bx
          by_cases hlt : j < vn
          · have hltz : (j : Int) < (vn : Int) := by omega
            have hj6 : j < 6 := by omega
            obtain ⟨vb, vo, rfl, -, hvb, hvcell⟩ := (HV.out.below RI.below) j hlt
            obtain ⟨vj, hvj⟩ : ∃ vj : Nat, (vj : Int) = V j % 4 := ⟨(V j % 4).toNat, by have := Int.emod_nonneg (V j) (show (4 : Int) ≠ 0 by decide); omega⟩
            have hv3 : vj ≤ 3 := by have := Int.emod_lt_of_pos (V j) (show (0 : Int) < 4 by decide); omega
            have HMV := hide (fun W => mod_any (V j) 4 W (by decide) (by decide))
            rw [← hvj] at HMV
            clear hvj
            go_wp2_with fail
            refine (HMV.out _).mono ?_
            rintro r w' ⟨rfl, rfl⟩
            obtain ⟨z0, z1, z2, z3, z4, hlz⟩ := chain_cells RI.bc
            clear hvcell hvb
            go_wp2_with fail
            refine (copyChain_any (x2 : Int) (y2 : Int) (q2 : Int) (k2 : Int) A n c F _ (by omega) (HI.out.below RI.below)).mono ?_
            rintro r wa ⟨Aa, ca, rfl, hca, hIa, hba⟩
            have RIa := RI.kept hba
            go_wp2_with fail
            refine (copyInts_own C m e B _ (by omega) (HJ.out.below RIa.below)).mono ?_
            rintro r wb ⟨vb2, rfl, hownb, hbb⟩
            obtain ⟨Ab, cb, rfl, hncb, hIb⟩ := hownb.form
            have RIb := RIa.kept hbb
            go_wp2_with fail
            refine (HSE.out _ vj Aa Ab ca cb hv3 ((hIa.weak (Nat.zero_le _)).below hbb) (hIb.weak (Nat.zero_le _))).mono ?_
            rintro r wd ⟨Ad, cd, rfl, hId, hbd⟩
            have RId := RIb.kept hbd
            have hPd := ((hP.below hba).below hbb).below hbd
            have HPD := hide hPd
            have HSN := hide (hId.weak (Nat.zero_le _))
            have HSS := hide hS
            clear z0 z1 z2 z3 z4 hlz y0 y1 hly RI RIa RIb hba hbb hbd hIa hIb hId hownb hncb hP hPd hS HMV
            obtain ⟨z0, z1, z2, z3, z4, hlz⟩ := chain_cells RId.bc
            have tk : ((k2 : Int) != (k2 : Int)) = false := by simp
            have HAB := hide (fun W hW => areBitsB_any Ad k2 cd (sentF x2 y2 q2 n F m B vj) W (by omega) hW)
            rw [show bitsB k2 (sentF x2 y2 q2 n F m B vj) = true from bitsB_iff.2 fun i _ => by rw [sentF_code]; exact codeF_bit _ _ _ _ _ _ _ _] at HAB
            go_wp2_with fail
            refine (HAB.out _ HSN.out).mono ?_
            rintro r w' ⟨rfl, qe, rfl⟩
            have RIe := RId.kept (below_drewN (Below.refl _ _) qe)
            have HPE := hide (HPD.out.drewN qe)
            have HSE2 := hide (HSN.out.drewN qe)
            clear z0 z1 z2 z3 z4 hlz tk HAB RId HPD HSN
            generalize wd.drewN qe = we at *
            have HNX := hide (HSS.out.next (v := vj) (k := k2) (x := softF zn Z (sentF x2 y2 q2 n F m B vj)) hj6 hk80 (fun i _ => (softF_tells (by rw [sentF_code]; exact codeF_bit _ _ _ _ _ _ _ _)).2) (fun i _ => by
              have h2 := (softF_tells (m := zn) (Z := Z) (B := sentF x2 y2 q2 n F m B vj) (j := i) (by rw [sentF_code]; exact codeF_bit _ _ _ _ _ _ _ _)).1
              rw [sentF_code, ← HN.out] at h2
              exact h2))
            have HCS := hide (fun W hW hW2 => codeSoft_any Ad ZA k2 cd zn zc (sentF x2 y2 q2 n F m B vj) Z W (by omega) hzn hW hW2)
            have HRV := hide (fun W A' c' A2 c2 hW hW2 => Receive_ok 1 N k2 vj 0 0 0 A' A2 c' c2 T K S (softF zn Z (sentF x2 y2 q2 n F m B vj)) W HSS.out.ok rfl (by decide) ⟨by decide, by decide⟩ hv3 hk1 (by omega) (fun i _ => by have := (softF_tells (m := zn) (Z := Z) (B := sentF x2 y2 q2 n F m B vj) (j := i) (by rw [sentF_code]; exact codeF_bit _ _ _ _ _ _ _ _)).2; omega) HNX.out.1 hW hW2)
            obtain ⟨XF, hXF⟩ : ∃ z, z = softF zn Z (sentF x2 y2 q2 n F m B vj) := ⟨_, rfl⟩
            rw [← hXF] at HNX HCS HRV
            obtain ⟨SF, hSF⟩ : ∃ z, z = sentF x2 y2 q2 n F m B vj := ⟨_, rfl⟩
            rw [← hSF] at HSE2 HCS
            obtain ⟨GF, hGF⟩ : ∃ z, z = gatherF vj N XF k2 := ⟨_, rfl⟩
            rw [← hGF] at HNX HRV
            have HS2 := hide HNX.out.2
            have HZE := hide (HZ.out.below RIe.below)
            clear hXF hSF hGF HNX HSS
            go_upto_region 17 with fail
            go_cut [15, 16, 97] (fun s15 s16 _ wc => ∃ gp Dh ch, s15 = .pointer (some ⟨gp, 0, none⟩) ∧ s16 = .int .i64 0 ∧ Hid (Box wc gp 36 #[.int .i64 (N : Int), .slice Dh 1 ch]) ∧ Hid (ProcsAt wc we.heap.size Dh 1 (setF T 0 0) (behK T K 0 0) (fun _ => N) (behS T S 0 0 GF)) ∧ Below we.heap.size we wc)
            case first =>
              skip
              obtain ⟨b0, b1, hlb⟩ := bufs_cells RIe.bb
              obtain ⟨y0, y1, hly⟩ := sending_cells RIe.bx
              have SOF := hide (fun W' (h : Below we.heap.size we W') => (⟨(h.cell (p := ⟨w4.heap.size, 0, none⟩) hlb).trans b0, (h.cell (p := ⟨w4.heap.size, 1, none⟩) hlb).trans b1, (h.cell (p := ⟨w.heap.size + 1, 1, none⟩) hly).trans y1, h⟩ : W'.cell? ⟨w4.heap.size, 0, none⟩ = some (.int .i64 (N : Int)) ∧ W'.cell? ⟨w4.heap.size, 1, none⟩ = some (.slice D 1 cD) ∧ W'.cell? ⟨w.heap.size + 1, 1, none⟩ = some (.slice ZA zn zc) ∧ Below we.heap.size we W'))
              have KP := hide (fun W' (h : W'.cell? ⟨w4.heap.size, 0, none⟩ = some (.int .i64 (N : Int)) ∧ W'.cell? ⟨w4.heap.size, 1, none⟩ = some (.slice D 1 cD) ∧ W'.cell? ⟨w.heap.size + 1, 1, none⟩ = some (.slice ZA zn zc) ∧ Below we.heap.size we W') => HPE.out.below h.2.2.2)
              have KS := hide (fun W' (h : W'.cell? ⟨w4.heap.size, 0, none⟩ = some (.int .i64 (N : Int)) ∧ W'.cell? ⟨w4.heap.size, 1, none⟩ = some (.slice D 1 cD) ∧ W'.cell? ⟨w.heap.size + 1, 1, none⟩ = some (.slice ZA zn zc) ∧ Below we.heap.size we W') => HSE2.out.below h.2.2.2)
              have KZ := hide (fun W' (h : W'.cell? ⟨w4.heap.size, 0, none⟩ = some (.int .i64 (N : Int)) ∧ W'.cell? ⟨w4.heap.size, 1, none⟩ = some (.slice D 1 cD) ∧ W'.cell? ⟨w.heap.size + 1, 1, none⟩ = some (.slice ZA zn zc) ∧ Below we.heap.size we W') => HZE.out.below h.2.2.2)
              have bb0 : Below we.heap.size we we := Below.refl _ _
              clear b0 b1 y0 y1
              go_region_held3 (fun w' => w'.cell? ⟨w4.heap.size, 0, none⟩ = some (.int .i64 (N : Int)) ∧ w'.cell? ⟨w4.heap.size, 1, none⟩ = some (.slice D 1 cD) ∧ w'.cell? ⟨w.heap.size + 1, 1, none⟩ = some (.slice ZA zn zc) ∧ Below we.heap.size we w')
                (first | assumption | exact SOF.out _ (by assumption) | exact SOF.out _ bb0.drew | exact SOF.out _ (below_drewN (by assumption) _) | exact SOF.out _ (ballocH (by assumption) (Nat.le_refl _) _) | exact SOF.out _ (ballocH bb0 (Nat.le_refl _) _).drew | exact SOF.out _ ((hs_wh.setCell hs_wg.size _).setCell hs_wg.size _) | exact SOF.out _ ((hs_wh.setCell hs_wf.size _).setCell hs_wf.size _) | exact SOF.out _ ((hs_wh.setCell (Nat.le_refl _) _).setCell (Nat.le_refl _) _))
                (first
                  | (go_at_call 18; refine (copyBuffers_any (N : Int) D 1 cD T K (fun _ => N) S _ (by decide) (fun i _ => by omega) (KP.out _ (by assumption))).mono ?_; rintro r wf ⟨Df, cf, rfl, hPf, hbf⟩; have hs_wf : Below we.heap.size we wf := bst3 hbf (by assumption) (Nat.le_refl _); (try (have bnA := (Box.made (w := we.drew) rfl : Box _ we.heap.size 36 #[.int .i64 0, .slice none 0 0]).below hbf)))
                  | (go_at_call 19; refine (HCS.out _ (KS.out _ (by assumption)) (KZ.out _ (by assumption))).mono ?_; rintro r wg ⟨vg, rfl, howng, hbg⟩; obtain ⟨Ag, cg, rfl, hncg, hIg⟩ := howng.form; have hs_wg : Below we.heap.size we wg := bst3 hbg (by assumption) (Nat.le_refl _); have hPg := hide (show ProcsAt wg 0 Df 1 T K (fun _ => N) S from by first | exact (hPf.weak (Nat.zero_le _)).below hbg | exact ((hPf.weak (Nat.zero_le _)).alloc _).below hbg); (first | (have bnB := bnA.below hbg) | (have bnB := (Box.made (w := wf) rfl : Box _ wf.heap.size 36 #[.int .i64 0, .slice none 0 0]).below hbg) | skip))
                  | (go_at_call 17; refine (HRV.out _ Df cf Ag cg (by first | exact hPg.out | exact hPg.out.alloc _) (by first | exact hIg.weak (Nat.zero_le _) | exact (hIg.weak (Nat.zero_le _)).alloc _)).mono ?_; rintro r wh ⟨Dh, ch, rfl, hPh, hbh⟩; have hs_wh : Below we.heap.size we wh := bst3 hbh (by assumption) (Nat.le_refl _); (first | (have bnC := bnB.below hbh) | (have bnC := (Box.made (w := wg) rfl : Box _ wg.heap.size 36 #[.int .i64 0, .slice none 0 0]).below hbh) | skip); (try (have n0 := bnC.at_ 0; have n1 := bnC.at_ 1; have nf0 := bnC.free 0; have nf1 := bnC.free 1; simp at n0 n1))))
              all_goals
                go_wp2_with fail
                go_meet
                case rel =>
                  first
                    | exact ⟨_, Dh, ch, rfl, rfl, hide (Box.made rfl), hide ((hPh.weak hs_wg.size).alloc _), hs_wh.alloc hs_wh.size _⟩
                    | exact ⟨_, Dh, ch, rfl, rfl, hide ((bnC.set_ 0 (.int .i64 (N : Int))).set_ 1 (.slice Dh 1 ch)), hide (((hPh.only bnB.lt ((Only.refl _ wh).set_ 0 _)).only bnB.lt ((Only.refl _ _).set_ 1 _)).weak hs_wg.size), (hs_wh.setCell hs_wf.size _).setCell hs_wf.size _⟩
                    | exact ⟨_, Dh, ch, rfl, rfl, hide ((bnC.set_ 0 (.int .i64 (N : Int))).set_ 1 (.slice Dh 1 ch)), hide (((hPh.only bnB.lt ((Only.refl _ wh).set_ 0 _)).only bnB.lt ((Only.refl _ _).set_ 1 _)).weak hs_wg.size), (hs_wh.setCell (Nat.le_refl _) _).setCell (Nat.le_refl _) _⟩
                    | exact ⟨_, Dh, ch, rfl, rfl, hide ((bnC.set_ 0 (.int .i64 (N : Int))).set_ 1 (.slice Dh 1 ch)), hide (((hPh.only (by simp) ((Only.refl _ wh).set_ 0 _)).only (by simp) ((Only.refl _ _).set_ 1 _)).weak (by have := hs_wg.size; simp; omega)), (hs_wh.setCell hs_wg.size _).setCell hs_wg.size _⟩
            case rest =>
              obtain ⟨gp, Dh, ch, rfl, rfl, HBN, HPN, hbec⟩ := hcut
              obtain ⟨wn, rfl⟩ : ∃ x : World, x = wc := ⟨_, rfl⟩
              have RIn := RIe.kept hbec
              have HGS := hide RIe.row.lt
              clear RIe HCS HRV HZE HPE HSE2
              generalize setF T 0 0 = T' at *
              generalize behK T K 0 0 = K' at *
              generalize behS T S 0 0 GF = S' at *
              obtain ⟨b0, b1, hlb⟩ := bufs_cells HBN.out
              have tN : ((N : Int) != (N : Int)) = false := by simp
              go_wp2_with fail
              refine (buffersErrR_ok 1 N ch Dh T' K' S' _ HS2.out.ok (HPN.out.weak (Nat.zero_le _))).mono ?_
              rintro r wo ⟨rfl, hbo⟩
              have RIo := RIn.kept hbo
              have HBO := hide (HBN.out.below hbo)
              have HPO := hide (HPN.out.below hbo)
              clear b0 b1 hlb RIn HBN HPN hbo hbec
              obtain ⟨b0, b1, hlb⟩ := bufs_cells HBO.out
              obtain ⟨a0, a1, hla⟩ := bufs_cells RIo.bb
              have fa0 := RIo.bb.free 0
              have fa1 := RIo.bb.free 1
              have hw43 := hlx4
              go_wp2_with fail
              clear b0 b1 hlb a0 a1 hla fa0 fa1 tN
              have hOn : Only w4.heap.size wo ((wo.setCell ⟨w4.heap.size, 0, none⟩ (.int .i64 (N : Int))).setCell ⟨w4.heap.size, 1, none⟩ (.slice Dh 1 ch)) := ((Only.refl _ wo).set_ 0 _).set_ 1 _
              have hg46 : w4.heap.size < w6.heap.size := by omega
              have RIp : RecI w w4.heap.size w6.heap.size #[.int .i64 (x2 : Int), .int .i64 (y2 : Int), .int .i64 (q2 : Int), .slice A n c, .int .i64 (k2 : Int)] #[.slice (some ⟨vb, vo, none⟩) vn vc, .slice ZA zn zc] Dh ch N mark ((wo.setCell ⟨w4.heap.size, 0, none⟩ (.int .i64 (N : Int))).setCell ⟨w4.heap.size, 1, none⟩ (.slice Dh 1 ch)) :=
                ⟨hOn.box RIo.bc (by omega), hOn.box RIo.bx (by omega), (RIo.bb.set_ 0 (.int .i64 (N : Int))).set_ 1 (.slice Dh 1 ch), RIo.row.of_block (hOn.block _ RIo.row.lt (fun e => by injection e; omega)), (RIo.below.setCell (by simp; omega) _).setCell (by simp; omega) _⟩
              have HPP := hide (HPO.out.only (by have := HGS.out; omega) hOn)
              clear hOn RIo HPO HBO
              generalize (wo.setCell ⟨w4.heap.size, 0, none⟩ (.int .i64 (N : Int))).setCell ⟨w4.heap.size, 1, none⟩ (.slice Dh 1 ch) = wp at *
              go_loopw [17] (fun kk wk => ∃ y : Nat, y ≤ k2 ∧ kk = .int .i64 y ∧ Hid (Only w6.heap.size wp wk ∧ wk.rowIs w6.heap.size 3 N (fun p => .int .i64 (if markF vj N mark y p = true then 1 else 0)))) (fun kk _ => k2 - (intOf kk).toNat)
              case atStart => exact ⟨0, Nat.zero_le _, rfl, hide ⟨Only.refl _ _, RIp.row.congr (fun _ _ => rfl)⟩⟩
              case round =>
                obtain ⟨y, hy, rfl, HK⟩ := hrel
                obtain ⟨hO, hR⟩ := HK.out
                have bcK := hO.box RIp.bc (show w.heap.size ≠ w6.heap.size by omega)
                obtain ⟨z0, z1, z2, z3, z4, hlz⟩ := chain_cells bcK
                by_cases hyk : y < k2
                · have hykz : (y : Int) < (k2 : Int) := by omega
                  obtain ⟨M, hM⟩ : ∃ M, M = vj * N := ⟨_, rfl⟩
                  have hM9 : M ≤ 192 := by have := Nat.mul_le_mul hv3 N9; omega
                  have hPL := hide (show placeN vj N y = (M / 4 + y) % N from by rw [hM]; rfl)
                  have hmz : (vj : Int) * (N : Int) = (M : Int) := by rw [hM]; simp
                  have hpl := placeN_lt (v := vj) (k := y) (show 0 < N by omega)
                  obtain ⟨P, hP⟩ : ∃ P, P = placeN vj N y := ⟨_, rfl⟩
                  rw [← hP] at hPL hpl
                  have e1 : ((M : Int) / 4 + (y : Int)) % (N : Int) = (P : Int) := by rw [hPL.out]; simp
                  have hn0 : ¬ (N : Int) = 0 := by omega
                  have hpz : (P : Int) < (N : Int) := by omega
                  have hcP := hR.cell hpl
                  have hfP := hR.frozen P
                  have HHP := hide hP
                  have HOK := hide hO
                  have HRK := hide hR
                  clear hM hP hO hR bcK
                  go_wp2_with fail
                  refine ⟨⟨y + 1, by omega, by simp, hide ⟨HOK.out.set_ P _, (HRK.out.set P _).congr (fun p _ => ?_)⟩⟩, by simp [intOf]; omega⟩
                  have em : markF vj N mark (y + 1) p = if p = placeN vj N y then true else markF vj N mark y p := rfl
                  rw [← HHP.out] at em
                  rw [em]
                  by_cases h : p = P
                  · rw [if_pos h, if_pos h]; rfl
                  · rw [if_neg h, if_neg h]
                · obtain rfl : y = k2 := by omega
                  have hwp := RIp.below.size
                  have RIq : RecI w w4.heap.size w6.heap.size #[.int .i64 (x2 : Int), .int .i64 (y2 : Int), .int .i64 (q2 : Int), .slice A n c, .int .i64 (y : Int)] #[.slice (some ⟨vb, vo, none⟩) vn vc, .slice ZA zn zc] Dh ch N (fun p => mark p || sentB vj N y p) wr :=
                    ⟨bcK, hO.box RIp.bx (by omega), hO.box RIp.bb (by omega), hR.congr (fun p _ => by rw [markF_eq]), RIp.below.trans (hO.to_below (by omega) hwp)⟩
                  have HPQ := hide ((HPP.out.only HGS.out hO).weak (Nat.zero_le _))
                  clear hO hR bcK
                  go_wp2_with fail
                  go_roundw
                  case rel => exact ⟨j + 1, by omega, by go_num, hide ⟨Dh, ch, T', K', S', _, RIq, HPQ.out, HS2.out⟩⟩
                  case measure => simp [intOf]; omega
          · obtain rfl : j = vn := by omega
            have HSS := hide hS
            have hHas := fun W hW => has_any (some ⟨w6.heap.size, 0, none⟩) N N 0 (fun p => if mark p = true then 1 else 0) W (by omega) hW
            have HHS := hide hHas
            have HRW := hide RI.row
            have HPW := hide hP
            clear hS hHas hP
            go_wp2_with fail
            refine (HHS.out _ (IntsAt.of_row HRW.out (Nat.zero_le _))).mono ?_
            rintro r w' ⟨rfl, rfl⟩
            cases hh : isPos (fun p => if mark p = true then 1 else 0) 0 N
            · have hall : ∀ p, p < N → mark p = true := fun p hp => by
                cases hm : mark p
                · have : isPos (fun p => if mark p = true then 1 else 0) 0 N = true := isPos_iff.2 ⟨p, hp, by simp [hm]⟩
                  rw [hh] at this
                  exact absurd this (by decide)
                · rfl
              have HTL := hide (fun p (hp : p < N) => (by
                rcases HSS.out.part p hp with ⟨-, h⟩ | ⟨-, h⟩
                · rw [hall p hp] at h; exact absurd h (by decide)
                · exact h : Tells (S 0 p) (codeF x2 y2 q2 n m F B p)))
              have HS9 := hide (fun p (hp : p < N) => (by have := (HSS.out.ok.each 0 (by decide)).2.2.2.1 p hp; omega : -1000000000 ≤ S 0 p ∧ S 0 p ≤ 1000000000))
              clear hh hall y0 y1 hly
              obtain ⟨pb, po, Ap, cp, rfl, -, hpb, hp0, hp1, hp2, hIp⟩ := HPW.out 0 (by decide)
              simp only [Nat.zero_mul, Nat.add_zero] at hp0 hp1 hp2
              have HIP := hide hIp
              have HIA := hide (HI.out.below RI.below)
              have hBw := RI.below
              clear hIp hp0 hp1
              obtain ⟨z0, z1, z2, z3, z4, hlz⟩ := chain_cells RI.bc
              obtain ⟨b0, b1, hlb⟩ := bufs_cells RI.bb
              have HBJ := hide (HJ.out.below hBw)
              clear RI HPW HRW HG
              go_wp2_with fail
              have SOF := hide (fun W' (h : Below wr.heap.size wr W') => (⟨(h.cell (p := ⟨w.heap.size, 0, none⟩) hlz).trans z0, (h.cell (p := ⟨w.heap.size, 1, none⟩) hlz).trans z1, (h.cell (p := ⟨w.heap.size, 2, none⟩) hlz).trans z2, (h.cell (p := ⟨w.heap.size, 3, none⟩) hlz).trans z3, (h.cell (p := ⟨w.heap.size, 4, none⟩) hlz).trans z4, (h.cell (p := ⟨w4.heap.size, 1, none⟩) hlb).trans b1, (h.cell (p := ⟨pb, po + 2, none⟩) hpb).trans hp2, h⟩ : W'.cell? ⟨w.heap.size, 0, none⟩ = some (.int .i64 (x2 : Int)) ∧ W'.cell? ⟨w.heap.size, 1, none⟩ = some (.int .i64 (y2 : Int)) ∧ W'.cell? ⟨w.heap.size, 2, none⟩ = some (.int .i64 (q2 : Int)) ∧ W'.cell? ⟨w.heap.size, 3, none⟩ = some (.slice A n c) ∧ W'.cell? ⟨w.heap.size, 4, none⟩ = some (.int .i64 (k2 : Int)) ∧ W'.cell? ⟨w4.heap.size, 1, none⟩ = some (.slice (some ⟨pb, po, none⟩) 1 cD) ∧ W'.cell? ⟨pb, po + 2, none⟩ = some (.slice Ap N cp) ∧ Below wr.heap.size wr W'))
              have KA := hide (fun W' (h : W'.cell? ⟨w.heap.size, 0, none⟩ = some (.int .i64 (x2 : Int)) ∧ W'.cell? ⟨w.heap.size, 1, none⟩ = some (.int .i64 (y2 : Int)) ∧ W'.cell? ⟨w.heap.size, 2, none⟩ = some (.int .i64 (q2 : Int)) ∧ W'.cell? ⟨w.heap.size, 3, none⟩ = some (.slice A n c) ∧ W'.cell? ⟨w.heap.size, 4, none⟩ = some (.int .i64 (k2 : Int)) ∧ W'.cell? ⟨w4.heap.size, 1, none⟩ = some (.slice (some ⟨pb, po, none⟩) 1 cD) ∧ W'.cell? ⟨pb, po + 2, none⟩ = some (.slice Ap N cp) ∧ Below wr.heap.size wr W') => HIA.out.below h.2.2.2.2.2.2.2)
              have KP := hide (fun W' (h : W'.cell? ⟨w.heap.size, 0, none⟩ = some (.int .i64 (x2 : Int)) ∧ W'.cell? ⟨w.heap.size, 1, none⟩ = some (.int .i64 (y2 : Int)) ∧ W'.cell? ⟨w.heap.size, 2, none⟩ = some (.int .i64 (q2 : Int)) ∧ W'.cell? ⟨w.heap.size, 3, none⟩ = some (.slice A n c) ∧ W'.cell? ⟨w.heap.size, 4, none⟩ = some (.int .i64 (k2 : Int)) ∧ W'.cell? ⟨w4.heap.size, 1, none⟩ = some (.slice (some ⟨pb, po, none⟩) 1 cD) ∧ W'.cell? ⟨pb, po + 2, none⟩ = some (.slice Ap N cp) ∧ Below wr.heap.size wr W') => HIP.out.below h.2.2.2.2.2.2.2)
              have KJ := hide (fun W' (h : W'.cell? ⟨w.heap.size, 0, none⟩ = some (.int .i64 (x2 : Int)) ∧ W'.cell? ⟨w.heap.size, 1, none⟩ = some (.int .i64 (y2 : Int)) ∧ W'.cell? ⟨w.heap.size, 2, none⟩ = some (.int .i64 (q2 : Int)) ∧ W'.cell? ⟨w.heap.size, 3, none⟩ = some (.slice A n c) ∧ W'.cell? ⟨w.heap.size, 4, none⟩ = some (.int .i64 (k2 : Int)) ∧ W'.cell? ⟨w4.heap.size, 1, none⟩ = some (.slice (some ⟨pb, po, none⟩) 1 cD) ∧ W'.cell? ⟨pb, po + 2, none⟩ = some (.slice Ap N cp) ∧ Below wr.heap.size wr W') => HBJ.out.below h.2.2.2.2.2.2.2)
              have bb0 : Below wr.heap.size wr wr := Below.refl _ _
              clear z0 z1 z2 z3 z4 b0 b1 hp2
              go_region_held3 (fun w' => w'.cell? ⟨w.heap.size, 0, none⟩ = some (.int .i64 (x2 : Int)) ∧ w'.cell? ⟨w.heap.size, 1, none⟩ = some (.int .i64 (y2 : Int)) ∧ w'.cell? ⟨w.heap.size, 2, none⟩ = some (.int .i64 (q2 : Int)) ∧ w'.cell? ⟨w.heap.size, 3, none⟩ = some (.slice A n c) ∧ w'.cell? ⟨w.heap.size, 4, none⟩ = some (.int .i64 (k2 : Int)) ∧ w'.cell? ⟨w4.heap.size, 1, none⟩ = some (.slice (some ⟨pb, po, none⟩) 1 cD) ∧ w'.cell? ⟨pb, po + 2, none⟩ = some (.slice Ap N cp) ∧ Below wr.heap.size wr w')
                (first | assumption | exact SOF.out _ (by assumption) | exact SOF.out _ bb0.drew | exact SOF.out _ (below_drewN (by assumption) _) | exact SOF.out _ (ballocH (by assumption) (Nat.le_refl _) _) | exact SOF.out _ (ballocH bb0 (Nat.le_refl _) _).drew)
                (first
                  | (go_at_call 14; refine (copyChain_any (x2 : Int) (y2 : Int) (q2 : Int) (k2 : Int) A n c F _ (by omega) (KA.out _ (by assumption))).mono ?_; rintro r wf ⟨Af, cf, rfl, hcf, hIf, hbf⟩; have hs_wf : Below wr.heap.size wr wf := bst7 hbf (by assumption) (Nat.le_refl _))
                  | (go_at_call 15; refine (copyInts_own Ap N cp (S 0) _ (by omega) (KP.out _ (by assumption))).mono ?_; rintro r wg ⟨vg, rfl, howng, hbg⟩; obtain ⟨Ag, cg, rfl, hncg, hIg⟩ := howng.form; have hcg9 := howng.cap_any.2; have hs_wg : Below wr.heap.size wr wg := bst7 hbg (by assumption) (Nat.le_refl _))
                  | (go_at_call 21; refine (HRC.out _ Af Ag cf cg (S 0) hncg hcg9 HTL.out HS9.out ((hIf.weak (Nat.zero_le _)).below hbg) (hIg.weak (Nat.zero_le _))).mono ?_; rintro r wh ⟨Ah, ch, rfl, hch, hch9, hIh, hbh⟩; have hs_wh : Below wr.heap.size wr wh := bst7 hbh (by assumption) (Nat.le_refl _)))
              have HII := hide (fun W hW hW2 => ints_any Ah C m m ch e B B W (by omega) (by omega) hW hW2)
              rw [show intsB m B m B = true from intsB_iff.2 ⟨rfl, fun _ _ => rfl⟩] at HII
              have HIH := hide (hIh.weak (Nat.zero_le _))
              have HJH := hide (KJ.out _ (SOF.out _ hs_wh))
              have hBh := hBw.trans (hs_wh.mono hBw.size)
              clear hs_wf hs_wg hs_wh hbf hbg hbh hIf hIg hIh howng SOF KA KP KJ bb0 hpb hlz hlb
              go_wp2_with fail
              refine (HII.out _ HIH.out HJH.out).mono ?_
              rintro r w' ⟨rfl, qz, rfl⟩
              go_wp2_with fail
              go_ret
              exact ⟨rfl, below_drewN hBh _⟩
            · go_wp2_with fail
              go_ret
              exact ⟨rfl, RI.below⟩
end Go.Proofs.Ytnglmfdcnoglhaa
