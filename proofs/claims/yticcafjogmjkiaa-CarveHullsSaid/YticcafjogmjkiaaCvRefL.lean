/-
  WALKS (layer 5, carve): views of a block, by the reference.
-/
import Derived.Test.YticcafjogmjkiaaCvRefK
namespace Go.Proofs.Yticcafjogmjkiaa.Cv
open Go Go.RowKit Go.Sort

theorem vw_start {w W1 : World} {s N : Nat} {v : Value} (h : (w.alloc (.cells #[.int .i64 s, v] 24)).alloc (.cells #[.int .i64 0, .slice none 0 0] 25) = W1) : VwI w w.heap.size s N W1 ∧ W1.cell? ⟨w.heap.size, 1, none⟩ = some v ∧ w.heap.size + 1 < W1.heap.size := by
  subst h
  exact ⟨⟨by repeat (first | exact Below.refl _ _ | refine Below.alloc ?_ (by simp <;> omega) _ | refine bDrewN ?_ _ | refine Below.drew ?_), by go_simp, by go_simp, by go_simp, fun j => by go_simp⟩, by go_simp, by simp⟩
set_option maxRecDepth 100000 in
set_option maxHeartbeats 2000000 in
theorem rview_any (s k N : Nat) (hk : k < 3) (v : Value) (h : List Bool) (w : World) (hs1 : 1 ≤ s) (hs2 : s ≤ 10) (hN : s * s = N) (hl : h.length = s * s * s) (hv : LB w v h) :
    Calls Try.prog 87 #[.agg #[.int .i64 s, v], .int .i64 k] w fun en w' => ∃ u, en = .returned (.agg #[.int .i64 s, u]) ∧ FB w.heap.size w' u (viewL s k h) ∧ Below w.heap.size w w' := by
  have HG : Kp (∀ W, Below w.heap.size w W → Calls Try.prog 84 #[.agg #[.int .i64 s, v]] W fun e w' => ∃ r, e = .returned r ∧ (∃ B0, W.heap.size ≤ B0 ∧ OwnG w' B0 r (grainsL s h)) ∧ Below W.heap.size W w') := ⟨fun W hW => rgrains_any s v h W hs1 hs2 hl (hv.below hW)⟩
  obtain ⟨g, c, rfl⟩ := hv.shape
  have HSQ : Kp (∀ W x, insB s x = true → Calls Try.prog 100 #[.int .i64 s, .agg #[.int .i64 x.x, .int .i64 x.y, .int .i64 x.z], .int .i64 k] W fun e w' => e = .returned (.int .i64 (sqIx s (axSq k) x)) ∧ Below W.heap.size W w') := ⟨fun W x hx => rsquare_any s k x hk hs2 hx W⟩
  have HLT : Kp (∀ x ∈ grainsL s h, insB s x = true ∧ sqIx s (axSq k) x < N) := ⟨fun x hx => ⟨(grains_in hx).1, hN ▸ axSq_lt (grains_in hx).1⟩⟩
  have hN1 : N ≤ 100 := by rw [← hN]; exact (cube_bd hs2).1
  have HN1 := Kp.mk hN1
  have HP : Kp (0 < N) := ⟨by rw [← hN]; exact Nat.mul_pos hs1 hs1⟩
  have HNS := Kp.mk hN
  have e1 : IntKind.i64.wrap ((s : Int) * s) = (N : Int) := by rw [← Int.natCast_mul, hN]; exact wrap_nat (by omega)
  have hmk := run_falsesW N (by omega)
  have HFEW : Kp ((grainsL s h).length ≤ 1000) := ⟨Nat.le_trans (grains_few s h) (cube_bd hs2).2⟩
  have HVL : Kp (viewL s k h = darkL s k (grainsL s h)) := ⟨rfl⟩
  obtain ⟨N3, hN3⟩ : ∃ N3, h.length = N3 := ⟨_, rfl⟩
  rw [hN3] at HG
  rw [hN3]
  obtain ⟨L, hL⟩ : ∃ L, grainsL s h = L := ⟨_, rfl⟩
  rw [hL] at HG HLT HFEW HVL
  rw [HVL.out]
  clear hv hl hN3 hL hs1 hs2 hN hN1 HVL
  obtain ⟨B, hB⟩ : ∃ B, w.heap.size = B := ⟨_, rfl⟩
  have HBB := Kp.mk hB
  clear hB
  go_enter Try.func87, Try.ntmps87
  go_wp2
  obtain ⟨W1, hW1⟩ : ∃ W1, (w.alloc (.cells #[.int .i64 s, .slice g N3 c] 24)).alloc (.cells #[.int .i64 0, .slice none 0 0] 25) = W1 := ⟨_, rfl⟩
  rw [hW1]
  obtain ⟨hvw, hb1, hz1⟩ := vw_start (N := N) hW1
  rw [HBB.out] at hvw hb1 hz1
  simp only [HBB.out]
  clear hW1
  have HVW := Kp.mk hvw
  have c0 := hvw.b0
  refine post_name ?_
  intro Qp hQp
  have HFIN : ∀ (W : World) (M Q : Nat), DlI w B M N Q s N (List.replicate N false) W → W.cell? ⟨B, 1, none⟩ = some (.slice g N3 c) → M ≠ Q → B + 1 < M → Qp .normal { tmps := #[.agg #[.int .i64 s, .slice g N3 c], .int .i64 k, .pointer (some ⟨B, 0, none⟩), undef, .pointer (some ⟨B + 1, 0, none⟩), .pointer (some ⟨Q, 0, none⟩), undef, undef, .pointer (some ⟨B, 0, none⟩), .int .i64 s, .pointer (some ⟨B, 0, none⟩), .int .i64 s, .pointer (some ⟨B, 0, none⟩), .int .i64 s, .int .i64 N, .slice (some ⟨M, 0, none⟩) N N, .agg #[.int .i64 s, .slice (some ⟨M, 0, none⟩) N N], undef, undef, undef, undef, undef, undef, undef, undef, undef, undef, undef, undef, undef, undef, undef, undef, undef], defers := [] } W := by
    intro W M Q hd hb1 hne hBM
    have HNE := Kp.mk hne
    have HMl := Kp.mk hBM
    have HD0 := Kp.mk hd
    have p0 := hd.b0
    have hMW := hd.mr.lt HP.out
    have HMW := Kp.mk hMW
    clear hne hBM hd hvw HVW c0 hz1 hmk e1 hMW
    subst hQp
    go_wp2_with fail
    refine (HG.out _ HD0.out.below).mono ?_
    rintro en w2 ⟨r, rfl, ⟨B0, hB0, ho⟩, hb2⟩
    have HM0 : Kp (M < B0) := ⟨Nat.lt_of_lt_of_le HMW.out hB0⟩
    have HD : Kp (DlI w B M N Q s N (darkL s k (L.take 0)) w2) := ⟨by rw [List.take_zero, darkL_nil, HNS.out]; exact HD0.out.on HP.out hb2⟩
    obtain ⟨gr, cr, rfl⟩ := ho.gs.shape
    have HO := Kp.mk ho
    clear ho hb2 hB0 p0 HD0 HG hb1
    go_wp2
    obtain ⟨K, hK⟩ : ∃ K, L.length = K := ⟨_, rfl⟩
    have HK := Kp.mk hK
    rw [hK]
    rw [hK] at HO
    clear hK
    go_loopw [20] (fun i wr => ∃ j : Nat, j ≤ K ∧ i = .int .i64 j ∧ Kp (OwnG wr B0 (.slice gr K cr) L) ∧ Kp (DlI w B M N Q s N (darkL s k (L.take j)) wr)) (fun i _ => K - (intOf i).toNat)
    case atStart => exact ⟨0, Nat.zero_le _, rfl, HO, HD⟩
    case round =>
      clear HD HO
      obtain ⟨j, hj, rfl, HO, HD⟩ := hrel
      by_cases hlt : j < K
      · obtain ⟨x, hx⟩ : ∃ x, L[j]? = some x := ⟨_, List.getElem?_eq_getElem (by rw [HK.out]; exact hlt)⟩
        obtain ⟨g', c', e', -, hi⟩ := HO.out.gs
        obtain ⟨b, oo, hg, hbl, d1, d2, d3⟩ := hi j x hx
        simp only [Value.slice.injEq] at e'
        obtain ⟨e1', -, -⟩ := e'
        rw [hg] at e1'
        subst e1'
        have o1 : (j : Int) < (K : Int) := by omega
        have o4 : j ≤ 1000 := by have := HFEW.out; have := HK.out; omega
        have HX := Kp.mk hx
        have hin := HLT.out x (List.mem_of_getElem? hx)
        have hbz : Below wr.heap.size wr (wr.alloc (.cells #[.int .i64 x.x, .int .i64 x.y, .int .i64 x.z] 71)) := by repeat (first | exact Below.refl _ _ | refine Below.alloc ?_ (by simp <;> omega) _ | refine bDrewN ?_ _ | refine Below.drew ?_)
        have HD2 := Kp.mk (HD.out.on HP.out hbz)
        have HO2 := Kp.mk (HO.out.on hbz)
        obtain ⟨q, hq⟩ : ∃ q, sqIx s (axSq k) x = q := ⟨_, rfl⟩
        have HSX := Kp.mk (fun W => HSQ.out W x hin.1)
        rw [hq] at HSX
        have hqN : q < N := hq ▸ hin.2
        have HTK : Kp (darkL s k (L.take (j + 1)) = (darkL s k (L.take j)).set q true ∧ q < N) := ⟨by
          have hk' := (List.getElem?_eq_some_iff.1 hx).1
          have e : L[j] = x := (List.getElem?_eq_some_iff.1 hx).2
          rw [List.take_succ_eq_append_getElem hk', e, darkL_more (by rw [HNS.out]; exact hin.2), hq]
          exact ⟨rfl, hqN⟩⟩
        obtain ⟨y, hy⟩ : ∃ y, (darkL s k (L.take j))[q]? = some y := ⟨_, List.getElem?_eq_getElem (by rw [darkL_len, HNS.out]; exact hqN)⟩
        have HY := Kp.mk hy
        clear hx hin hbz hq hy hi hg hbl
        go_wp2
        obtain ⟨w5, hw5⟩ : ∃ w5, wr.alloc (.cells #[.int .i64 x.x, .int .i64 x.y, .int .i64 x.z] 71) = w5 := ⟨_, rfl⟩
        rw [hw5] at HD2 HO2
        obtain ⟨G, hG⟩ : ∃ G, wr.heap.size = G := ⟨_, rfl⟩
        have e0 : w5.cell? ⟨G, 0, none⟩ = some (.int .i64 x.x) := by subst hG; subst hw5; go_simp
        have e1 : w5.cell? ⟨G, 1, none⟩ = some (.int .i64 x.y) := by subst hG; subst hw5; go_simp
        have e2 : w5.cell? ⟨G, 2, none⟩ = some (.int .i64 x.z) := by subst hG; subst hw5; go_simp
        have q0 := HD2.out.b0
        have q1 := HD2.out.c1
        have q3 := HD2.out.mr.cell HY.out
        have q4 := HD2.out.mr.z q
        have hQl := World.block_lt_of_cell? _ _ q1
        have hMl := World.block_lt_of_cell? _ _ q3
        have o5 : (q : Int) < (N : Int) := by omega
        rw [hw5, hG]
        clear hw5 hG d1 d2 d3 hqN
        go_region_with (go_at_call 100; refine (HSX.out _).mono ?_; rintro en w6 ⟨rfl, hb6⟩; have hbw : Below w5.heap.size w5 w6 := (by (repeat (with_reducible first | exact Below.refl _ _ | refine Below.drew ?_ | refine bDrewN ?_ _)) : Below w5.heap.size w5 _).trans hb6; have n1 := (hbw.cell (p := ⟨Q, 1, none⟩) hQl).trans q1; have n3 := (hbw.cell (p := ⟨M, q, none⟩) hMl).trans q3; have n4 := (hbw.frozen (p := ⟨M, q, none⟩) hMl).trans q4; clear hb6)
        all_goals
          go_wp2
          go_roundw
          case rel =>
            exact ⟨j + 1, by omega, by go_num, ⟨(HO2.out.on hbw).put HM0.out⟩, ⟨(HD2.out.on HP.out hbw).put HTK.out.2 HTK.out.1 HNE.out HMl.out HBB.out⟩⟩
          case measure => simp [intOf]; omega
      · have hkn : j = K := by omega
        have hD := HD.out
        rw [hkn, ← HK.out, List.take_length] at hD
        have HO2 := Kp.mk hD
        have q0 := hD.c0
        have q1 := hD.c1
        have p0 := hD.r0
        have p1 := hD.r1
        have pz := hD.rz
        have o2 : ¬ (j : Int) < (K : Int) := by omega
        clear hD HD HO
        go_wp2
        refine bodyPost_ret (v := .agg #[.int .i64 s, .slice (some ⟨M, 0, none⟩) N N]) ?_ rfl ?_
        · simp [results, Try.results87, go_sem, p0, p1]
        have hb : Below w.heap.size w ((wr.setCell ⟨B + 1, 0, none⟩ (.int .i64 s)).setCell ⟨B + 1, 1, none⟩ (.slice (some ⟨M, 0, none⟩) N N)) := (HO2.out.below.setCell (by have := HBB.out; simp only; omega) _).setCell (by have := HBB.out; simp only; omega) _
        have g1 := setCell_grown wr (B + 1) 0 (.int .i64 s)
        have g2 := setCell_grown (wr.setCell ⟨B + 1, 0, none⟩ (.int .i64 s)) (B + 1) 1 (.slice (some ⟨M, 0, none⟩) N N)
        have hne : some M ≠ some (B + 1) := fun e => Nat.ne_of_gt HMl.out (Option.some.inj e)
        have hM := HO2.out.mr.lt HP.out
        exact ⟨_, rfl, (HO2.out.mr.same (Nat.le_trans g1.size g2.size) ((g2.block M (Nat.lt_of_lt_of_le hM g1.size) hne).trans (g1.block M hM hne))).fb (by have := HBB.out; have := HMl.out; omega), hb⟩
  go_region_held3 (fun w' => w'.cell? ⟨B, 0, none⟩ = some (.int .i64 s)) (repeat (first | assumption | refine ⟨?_, ?_⟩ | refine Lib.cell?_alloc_some _ ?_)) (fail)
  · exact HFIN _ _ _ (HVW.out.rowfirst HP.out) (Lib.cell?_alloc_some _ (Lib.cell?_alloc_some _ hb1)) (by omega) hz1
  · exact HFIN _ _ _ (HVW.out.boxfirst HP.out) (Lib.cell?_alloc_some _ (Lib.cell?_alloc_some _ hb1)) (by omega) (by omega)
end Go.Proofs.Yticcafjogmjkiaa.Cv
