/-
  WALKS (layer 8, pest): the reference: traps.
-/
import Derived.Test.YthkamfjjfkpekaaPeFits
import Derived.Test.YthkamfjjfkpekaaPeRefE
namespace Go.Proofs.Ythkamfjjfkpekaa.Pe
open Go Go.RowKit Go.Proofs Go.Sort

theorem allT_more {p : Tp → Bool} {ts : List Tp} {k : Nat} {t : Tp} (h : ts[k]? = some t) : (ts.take (k + 1)).all p = ((ts.take k).all p && p t) := by
  have hk := (List.getElem?_eq_some_iff.1 h).1
  have e : ts[k] = t := (List.getElem?_eq_some_iff.1 h).2
  rw [List.take_succ_eq_append_getElem hk, e, List.all_append]
  simp
theorem allT_no {p : Tp → Bool} {ts : List Tp} {k : Nat} {t : Tp} (h : ts[k]? = some t) (hp : p t = false) : ts.all p = false := by
  rw [List.all_eq_false]
  exact ⟨t, List.mem_of_getElem? h, by rw [hp]; decide⟩
theorem openF_nil (ds : List Dr) : openF ds [] ds.length = ds := by
  have h : ∀ k, k ≤ ds.length → openF ds [] k = ds.take k := fun k => by
    induction k with
    | zero => exact fun _ => rfl
    | succ k ih =>
      intro hk
      unfold openF
      rw [ih (by omega), List.take_succ_eq_append_getElem (by omega), List.getD_eq_getElem?_getD, List.getElem?_eq_getElem (by omega)]
      rfl
  rw [h _ (Nat.le_refl _), List.take_length]
set_option maxRecDepth 100000 in
set_option maxHeartbeats 2000000 in
theorem rtrapped_any (R x y : Int) (v u : Value) (ds : List Dr) (ts : List Tp) (w : World) (hv : DS w v ds) (hl : ds.length ≤ 9223372036854775807) (hu : TS w u ts) (htl : ts.length ≤ 9223372036854775806) :
    Calls Try.prog 84 #[.agg #[.int .i64 R, v, .int .i64 x, .int .i64 y], u] w fun e w' => e = .returned (.int .i64 (trapE R ds x y ts)) ∧ Below w.heap.size w w' := by
  have HVA : Kp (∀ W, Below w.heap.size w W → Calls Try.prog 20 #[.agg #[.int .i64 R, v, .int .i64 x, .int .i64 y]] W fun e w' => e = .returned (.bool (valB R ds x y)) ∧ Below W.heap.size W w') := ⟨fun W hW => rValid_any R x y v ds W (hv.below hW) hl⟩
  have HTE : Kp (trapE R ds x y ts = chkE (valB R ds x y) true (trapsB R ts)) := ⟨rfl⟩
  have HRM : Kp (valB R ds x y = true → 1 ≤ R ∧ R ≤ 12) := ⟨fun h => (valB_ok h).rooms⟩
  obtain ⟨g, c, rfl⟩ := hv.shape
  obtain ⟨gt, ct, rfl, hi⟩ := hu
  have HIS := Kp.mk hi
  obtain ⟨M, hM⟩ : ∃ M, ds.length = M := ⟨_, rfl⟩
  obtain ⟨N, hN⟩ : ∃ N, ts.length = N := ⟨_, rfl⟩
  have HN := Kp.mk hN
  obtain ⟨E, hE⟩ : ∃ E, trapE R ds x y ts = E := ⟨_, rfl⟩
  obtain ⟨V, hV⟩ : ∃ V, valB R ds x y = V := ⟨_, rfl⟩
  rw [hV, hM] at HVA
  rw [hV, hE] at HTE
  rw [hV] at HRM
  rw [hN] at htl
  rw [hM, hN, hE]
  clear hv hi hl hM hN hV hE
  cases V with
  | false =>
    have HE : Kp (E = 1) := ⟨by rw [HTE.out]; rfl⟩
    go_enter Try.func84, Try.ntmps84
    go_wp2_with fail
    refine (HVA.out _ (by repeat (first | exact Below.refl _ _ | refine Below.alloc ?_ (by simp <;> omega) _ | refine bDrewN ?_ _ | refine Below.drew ?_))).mono ?_
    rintro en w1 ⟨rfl, hb1⟩
    have HB1 : Kp (Below w.heap.size w w1) := ⟨Below.trans (by repeat (first | exact Below.refl _ _ | refine Below.alloc ?_ (by simp <;> omega) _ | refine bDrewN ?_ _ | refine Below.drew ?_)) (hb1.mono (by simp <;> omega))⟩
    clear hb1
    go_wp2
    go_ret
    exact ⟨by rw [HE.out]; rfl, HB1.out⟩
  | true =>
    obtain ⟨r1, r2⟩ := HRM.out rfl
    have HRO := Kp.mk (fun n => roomB_ok (room := n) r1 r2)
    have e1 : IntKind.i64.wrap (R - 1) = R - 1 := IntWalk.i64_in _ (by omega)
    clear HRM r1 r2
    go_enter Try.func84, Try.ntmps84
    go_wp2_with fail
    refine (HVA.out _ (by repeat (first | exact Below.refl _ _ | refine Below.alloc ?_ (by simp <;> omega) _ | refine bDrewN ?_ _ | refine Below.drew ?_))).mono ?_
    rintro en w1 ⟨rfl, hb1⟩
    have HB1 : Kp (Below w.heap.size w w1) := ⟨Below.trans (by repeat (first | refine Below.alloc ?_ (by (try simp) <;> omega) _ | refine bDrewN ?_ _ | refine Below.drew ?_ | refine Below.setCell ?_ (by (try simp) <;> omega) _ | exact Below.refl _ _)) (hb1.mono (by (try simp) <;> omega))⟩
    have hz1_0 : w.heap.size < w1.heap.size := by have := hb1.size; (try simp at this); omega
    obtain ⟨hc, hf⟩ := bcell hb1
    have c1_0_0 : w1.cell? ⟨w.heap.size, 0, none⟩ = some (.int .i64 R) := (hc _ _ (by (try simp) <;> omega)).trans (by go_simp)
    have c1_0_1 : w1.cell? ⟨w.heap.size, 1, none⟩ = some ((.slice g M c)) := (hc _ _ (by (try simp) <;> omega)).trans (by go_simp)
    have c1_0_2 : w1.cell? ⟨w.heap.size, 2, none⟩ = some (.int .i64 x) := (hc _ _ (by (try simp) <;> omega)).trans (by go_simp)
    have c1_0_3 : w1.cell? ⟨w.heap.size, 3, none⟩ = some (.int .i64 y) := (hc _ _ (by (try simp) <;> omega)).trans (by go_simp)
    have z1_0 : ∀ j, w1.frozen? ⟨w.heap.size, j, none⟩ = false := fun j => (hf _ _ (by (try simp) <;> omega)).trans (by go_simp)
    clear hc hf hb1
    have HC0 := Kp.mk c1_0_0
    clear c1_0_0 c1_0_1 c1_0_2 c1_0_3 z1_0
    go_wp2
    go_loopw [12] (fun i wr => ∃ k : Nat, k ≤ N ∧ i = .int .i64 k ∧ Kp ((ts.take k).all (okT R) = true) ∧ Kp (Below w1.heap.size w1 wr)) (fun i _ => N - (intOf i).toNat)
    case atStart => exact ⟨0, Nat.zero_le _, rfl, ⟨rfl⟩, ⟨Below.refl _ _⟩⟩
    case round =>
      obtain ⟨k, hk, rfl, HA, HBL⟩ := hrel
      by_cases hlt : k < N
      · obtain ⟨t, hz⟩ : ∃ t, ts[k]? = some t := ⟨_, List.getElem?_eq_getElem (by rw [HN.out]; exact hlt)⟩
        obtain ⟨b, o, hg, h1, h2, h3⟩ := HIS.out k t hz
        subst hg
        have HBW := Kp.mk (HB1.out.trans (HBL.out.mono HB1.out.size))
        have hbl := World.block_lt_of_cell? _ _ h1
        have HOK : Kp (okT R t = (inB 0 (R - 1) t.room && inB 0 100 t.day)) := ⟨by unfold okT; rw [HRO.out]⟩
        have HMO := Kp.mk (allT_more (p := okT R) hz)
        have HNO : Kp (okT R t = false → ts.all (okT R) = false) := ⟨fun h => allT_no hz h⟩
        obtain ⟨r, d, f⟩ := t
        simp only at h1 h2 h3 HOK
        have c1 := (HBW.out.cell (p := ⟨b, o + k * 3, none⟩) hbl).trans h1
        have c2 := (HBW.out.cell (p := ⟨b, o + k * 3 + 1, none⟩) hbl).trans h2
        have c3 := (HBW.out.cell (p := ⟨b, o + k * 3 + 2, none⟩) hbl).trans h3
        have cR : wr.cell? ⟨w.heap.size, 0, none⟩ = some (.int .i64 R) := (HBL.out.cell (p := ⟨w.heap.size, 0, none⟩) (World.block_lt_of_cell? _ _ HC0.out)).trans HC0.out
        have hBR := World.block_lt_of_cell? _ _ cR
        have o1 : (k : Int) < (N : Int) := by omega
        have o4 : IntKind.i64.wrap ((k : Int) + 1) = (k : Int) + 1 := IntWalk.i64_in _ (by omega)
        have HIC : Kp (∀ W, Calls Try.prog 55 #[.int .i64 r, .int .i64 0, .int .i64 (R - 1)] W fun e w' => e = .returned (.bool (inB 0 (R - 1) r)) ∧ W = w') := ⟨fun W => rin_any r 0 (R - 1) W⟩
        have HID : Kp (∀ W, Calls Try.prog 55 #[.int .i64 d, .int .i64 0, .int .i64 100] W fun e w' => e = .returned (.bool (inB 0 100 d)) ∧ W = w') := ⟨fun W => rin_any d 0 100 W⟩
        have HBZ : Kp (Below w1.heap.size w1 (wr.alloc (.cells #[.int .i64 r, .int .i64 d, .bool f] 53))) := ⟨HBL.out.alloc HBL.out.size _⟩
        obtain ⟨P, hP⟩ : ∃ P, inB 0 (R - 1) r = P := ⟨_, rfl⟩
        obtain ⟨Q, hQ⟩ : ∃ Q, inB 0 100 d = Q := ⟨_, rfl⟩
        rw [hP] at HIC HOK
        rw [hQ] at HID HOK
        clear hz h1 h2 h3 hbl hP hQ
        cases P with
        | false =>
          have HE : Kp (E = 7) := ⟨by
            rw [HTE.out]
            unfold trapsB
            rw [HNO.out (by rw [HOK.out]; rfl), Bool.and_false]
            rfl⟩
          go_wp2_with fail
          refine (HIC.out _).mono ?_
          rintro en w5 ⟨rfl, rfl⟩
          go_wp2
          go_ret
          exact ⟨by rw [HE.out]; rfl, HB1.out.trans (HBZ.out.mono HB1.out.size)⟩
        | true =>
          cases Q with
          | false =>
            have HE : Kp (E = 7) := ⟨by
              rw [HTE.out]
              unfold trapsB
              rw [HNO.out (by rw [HOK.out]; rfl), Bool.and_false]
              rfl⟩
            go_wp2_with fail
            refine (HIC.out _).mono ?_
            rintro en w5 ⟨rfl, rfl⟩
            go_wp2_with fail
            refine (HID.out _).mono ?_
            rintro en w5 ⟨rfl, rfl⟩
            go_wp2
            go_ret
            exact ⟨by rw [HE.out]; rfl, HB1.out.trans (HBZ.out.mono HB1.out.size)⟩
          | true =>
            have HA2 : Kp ((ts.take (k + 1)).all (okT R) = true) := ⟨by rw [HMO.out, HA.out, HOK.out]; rfl⟩
            go_wp2_with fail
            refine (HIC.out _).mono ?_
            rintro en w5 ⟨rfl, rfl⟩
            go_wp2_with fail
            refine (HID.out _).mono ?_
            rintro en w5 ⟨rfl, rfl⟩
            go_wp2
            go_roundw
            case rel => exact ⟨k + 1, by omega, by go_num, HA2, HBZ⟩
            case measure => simp [intOf]; omega
      · have hkn : k = N := by omega
        have HAL : Kp (ts.all (okT R) = true) := ⟨by have := HA.out; rwa [hkn, ← HN.out, List.take_length] at this⟩
        have HBW := Kp.mk (HB1.out.trans (HBL.out.mono HB1.out.size))
        have o1 : ¬ (k : Int) < (N : Int) := by omega
        clear HA hkn
        by_cases h100 : N ≤ 100
        · have o2 : ¬ (100 : Int) < (N : Int) := by omega
          have HE : Kp (E = 0) := ⟨by
            rw [HTE.out]
            unfold trapsB
            rw [HAL.out, HN.out, decide_eq_true h100]
            rfl⟩
          go_wp2
          go_ret
          exact ⟨by rw [HE.out]; rfl, HBW.out⟩
        · have o2 : (100 : Int) < (N : Int) := by omega
          have HE : Kp (E = 7) := ⟨by
            rw [HTE.out]
            unfold trapsB
            rw [HN.out, decide_eq_false h100]
            rfl⟩
          go_wp2
          go_ret
          exact ⟨by rw [HE.out]; rfl, HBW.out⟩
set_option maxRecDepth 100000 in
set_option maxHeartbeats 4000000 in
theorem rfits_st (R x y : Int) (g : Option Addr) (M c : Nat) (u : Value) (S : Nat) (p : Nat → Nat) (ds : List Dr) (ts : List Tp) (w : World) (hu : TS w u ts) (htl : ts.length ≤ 100) (hok : ∀ t ∈ ts, (0 ≤ t.room ∧ t.room ≤ 11) ∧ 0 ≤ t.day ∧ t.day ≤ 100) (hp : ∀ k, p k < 4096) (hps : ∀ k, p k = spreadF ds S k)
    (HSP : Kp (∀ (k : Nat) W, k ≤ 100 → Below w.heap.size w W → Calls Try.prog 56 #[.agg #[.int .i64 R, .slice g M c, .int .i64 x, .int .i64 y], .slice none 0 0, .int .i64 (S : Nat), .int .i64 (k : Nat)] W fun e w' => e = .returned (.int .i64 (p k : Nat)) ∧ Below W.heap.size W w')) :
    Calls Try.prog 85 #[.agg #[.int .i64 R, .slice g M c, .int .i64 x, .int .i64 y], u, .int .i64 (S : Nat)] w fun e w' => e = .returned (.bool (fitsB ds S ts)) ∧ Below w.heap.size w w' := by
  obtain ⟨gt, ct, rfl, hi⟩ := hu
  have HIS := Kp.mk hi
  have HOK := Kp.mk hok
  have HPL := Kp.mk hp
  have HFT : Kp (∀ t, fitT ds S t = ((p t.day.toNat).testBit t.room.toNat == t.found)) := ⟨fun t => by rw [hps]; rfl⟩
  obtain ⟨N, hN⟩ : ∃ N, ts.length = N := ⟨_, rfl⟩
  have HN := Kp.mk hN
  rw [hN] at htl ⊢
  obtain ⟨F, hF⟩ : ∃ F, fitsB ds S ts = F := ⟨_, rfl⟩
  have HF := Kp.mk hF
  rw [hF]
  clear hi hok hp hps hN hF
  go_enter Try.func85, Try.ntmps85
  go_wp2_with fail
  obtain ⟨W1, hW1⟩ : ∃ W, w.alloc (.cells #[.int .i64 R, .slice g M c, .int .i64 x, .int .i64 y] 24) = W := ⟨_, rfl⟩
  obtain ⟨hb1, hall⟩ := houseBox hW1
  try rw [hW1]
  obtain ⟨B, hB⟩ : ∃ B, w.heap.size = B := ⟨_, rfl⟩
  rw [hB] at hall
  have HB1 := Kp.mk hb1
  have HALL := Kp.mk hall
  try simp only [hB]
  clear hW1 hb1 hall hB
  go_wp2_with fail
  go_loopw [11] (fun i wr => ∃ k : Nat, k ≤ N ∧ i = .int .i64 k ∧ Kp ((ts.take k).all (fitT ds S) = true) ∧ Kp (Below W1.heap.size W1 wr)) (fun i _ => N - (intOf i).toNat)
  case atStart => exact ⟨0, Nat.zero_le _, rfl, ⟨rfl⟩, ⟨Below.refl _ _⟩⟩
  case round =>
    obtain ⟨k, hk, rfl, HA, HBL⟩ := hrel
    by_cases hlt : k < N
    · obtain ⟨t, hz⟩ : ∃ t, ts[k]? = some t := ⟨_, List.getElem?_eq_getElem (by rw [HN.out]; exact hlt)⟩
      obtain ⟨b, o, hg, h1, h2, h3⟩ := HIS.out k t hz
      subst hg
      have HBW := Kp.mk (HB1.out.trans (HBL.out.mono HB1.out.size))
      have hbl := World.block_lt_of_cell? _ _ h1
      have HMO := Kp.mk (allT_more (p := fitT ds S) hz)
      have HNO : Kp (fitT ds S t = false → ts.all (fitT ds S) = false) := ⟨fun h => allT_no hz h⟩
      have HFE := Kp.mk (HFT.out t)
      obtain ⟨⟨r0, r1⟩, d0, d1⟩ := HOK.out t (List.mem_of_getElem? hz)
      obtain ⟨r, d, f⟩ := t
      simp only at h1 h2 h3 r0 r1 d0 d1 HFE
      obtain ⟨j, rfl⟩ := Int.eq_ofNat_of_zero_le r0
      obtain ⟨n, rfl⟩ := Int.eq_ofNat_of_zero_le d0
      have HSK := Kp.mk (fun W => HSP.out n W (by omega))
      have hbt := bit_has (S := p n) (k := j) (by have := HPL.out n; omega)
      simp only [Int.toNat_natCast] at HFE
      have c1 := (HBW.out.cell (p := ⟨b, o + k * 3, none⟩) hbl).trans h1
      have c2 := (HBW.out.cell (p := ⟨b, o + k * 3 + 1, none⟩) hbl).trans h2
      have c3 := (HBW.out.cell (p := ⟨b, o + k * 3 + 2, none⟩) hbl).trans h3
      have o1 : (k : Int) < (N : Int) := by omega
      have o4 : k ≤ 100 := by omega
      have o5 : j ≤ 11 := by omega
      obtain ⟨T, hT⟩ : ∃ T, p n = T := ⟨_, rfl⟩
      rw [hT] at HSK hbt HFE
      obtain ⟨Bt, hBt⟩ : ∃ B, T.testBit j = B := ⟨_, rfl⟩
      rw [hBt] at hbt HFE
      clear hz h1 h2 h3 hbl r0 r1 d0 d1 hT hBt
      go_wp2_with fail
      obtain ⟨V, hV⟩ : ∃ V, wr.alloc (.cells #[.int .i64 (j : Nat), .int .i64 (n : Nat), .bool f] 53) = V := ⟨_, rfl⟩
      have hbz : Below wr.heap.size wr V := by subst hV; exact (Below.refl _ _).alloc (Nat.le_refl _) _
      have t0 : V.cell? ⟨wr.heap.size, 0, none⟩ = some (.int .i64 (j : Nat)) := by subst hV; go_simp
      have t1 : V.cell? ⟨wr.heap.size, 1, none⟩ = some (.int .i64 (n : Nat)) := by subst hV; go_simp
      have t2 : V.cell? ⟨wr.heap.size, 2, none⟩ = some (.bool f) := by subst hV; go_simp
      have HBV := Kp.mk (HBL.out.trans (hbz.mono HBL.out.size))
      obtain ⟨q0, q1, q2, q3⟩ := HALL.out V HBV.out
      try rw [hV]
      obtain ⟨Z, hZ⟩ : ∃ Z, wr.heap.size = Z := ⟨_, rfl⟩
      rw [hZ] at t0 t1 t2
      try simp only [hZ]
      clear hV hbz hZ c1 c2 c3
      have HWV := Kp.mk (HB1.out.trans (HBV.out.mono HB1.out.size))
      have K5 : Kp (∀ d os, _) := ⟨fun d os => HSK.out (grow (redrawn V d) os) (HWV.out.trans ((below_regrown V d os).mono HWV.out.size))⟩
      have rg_q0 := fun d os => cell_regrown q0 d os
      have rg_q1 := fun d os => cell_regrown q1 d os
      have rg_q2 := fun d os => cell_regrown q2 d os
      have rg_q3 := fun d os => cell_regrown q3 d os
      have rg_t0 := fun d os => cell_regrown t0 d os
      have rg_t1 := fun d os => cell_regrown t1 d os
      have rg_t2 := fun d os => cell_regrown t2 d os
      clear q0 q1 q2 q3 t0 t1 t2
      cases Bt <;> cases f
      · replace hbt : bits .and .i64 ((T : Int) / 2 ^ j) 1 = 0 := hbt
        have HA2 : Kp ((ts.take (k + 1)).all (fitT ds S) = true) := ⟨by rw [HMO.out, HA.out, HFE.out]; rfl⟩
        go_wp2_with fail
        refine wp_region_quiet_below (by kernel_rfl) (by kernel_rfl) ?_
        repeat (any_goals (first | go_big_quiet_step (first | (with_reducible exact Calls.regrown_of (K5.out _ _))) | quiet_step (first | (with_reducible exact Calls.regrown_of (K5.out _ _)))))
        refine wpQuiet_nil ?_
        intro _ hqw
        obtain ⟨⟨dq, osq⟩, hqv⟩ := hqw
        subst hqv
        obtain ⟨wx, hqwx⟩ : ∃ wx, grow (redrawn (V) dq) osq = wx := ⟨_, rfl⟩
        have hbwx : Below (V).heap.size (V) wx := by rw [← hqwx]; exact below_regrown _ dq osq
        rw [hqwx]
        clear hqwx
        have HBX := Kp.mk (HBV.out.trans (hbwx.mono HBV.out.size))
        clear hbwx
        go_wp2
        go_roundw
        case rel => exact ⟨k + 1, by omega, by go_num, HA2, HBX⟩
        case measure => simp [intOf]; omega
      · replace hbt : bits .and .i64 ((T : Int) / 2 ^ j) 1 = 0 := hbt
        have HE : Kp (F = false) := ⟨by rw [← HF.out]; exact HNO.out (by rw [HFE.out]; rfl)⟩
        go_wp2_with fail
        refine wp_region_quiet_below (by kernel_rfl) (by kernel_rfl) ?_
        repeat (any_goals (first | go_big_quiet_step (first | (with_reducible exact Calls.regrown_of (K5.out _ _))) | quiet_step (first | (with_reducible exact Calls.regrown_of (K5.out _ _)))))
        refine wpQuiet_nil ?_
        intro _ hqw
        obtain ⟨⟨dq, osq⟩, hqv⟩ := hqw
        subst hqv
        obtain ⟨wx, hqwx⟩ : ∃ wx, grow (redrawn (V) dq) osq = wx := ⟨_, rfl⟩
        have hbwx : Below (V).heap.size (V) wx := by rw [← hqwx]; exact below_regrown _ dq osq
        rw [hqwx]
        clear hqwx
        have HBX := Kp.mk (HWV.out.trans (hbwx.mono HWV.out.size))
        clear hbwx
        go_wp2
        go_ret
        exact ⟨by rw [HE.out]; rfl, HBX.out⟩
      · replace hbt : bits .and .i64 ((T : Int) / 2 ^ j) 1 = 1 := hbt
        have HE : Kp (F = false) := ⟨by rw [← HF.out]; exact HNO.out (by rw [HFE.out]; rfl)⟩
        go_wp2_with fail
        refine wp_region_quiet_below (by kernel_rfl) (by kernel_rfl) ?_
        repeat (any_goals (first | go_big_quiet_step (first | (with_reducible exact Calls.regrown_of (K5.out _ _))) | quiet_step (first | (with_reducible exact Calls.regrown_of (K5.out _ _)))))
        refine wpQuiet_nil ?_
        intro _ hqw
        obtain ⟨⟨dq, osq⟩, hqv⟩ := hqw
        subst hqv
        obtain ⟨wx, hqwx⟩ : ∃ wx, grow (redrawn (V) dq) osq = wx := ⟨_, rfl⟩
        have hbwx : Below (V).heap.size (V) wx := by rw [← hqwx]; exact below_regrown _ dq osq
        rw [hqwx]
        clear hqwx
        have HBX := Kp.mk (HWV.out.trans (hbwx.mono HWV.out.size))
        clear hbwx
        go_wp2
        go_ret
        exact ⟨by rw [HE.out]; rfl, HBX.out⟩
      · replace hbt : bits .and .i64 ((T : Int) / 2 ^ j) 1 = 1 := hbt
        have HA2 : Kp ((ts.take (k + 1)).all (fitT ds S) = true) := ⟨by rw [HMO.out, HA.out, HFE.out]; rfl⟩
        go_wp2_with fail
        refine wp_region_quiet_below (by kernel_rfl) (by kernel_rfl) ?_
        repeat (any_goals (first | go_big_quiet_step (first | (with_reducible exact Calls.regrown_of (K5.out _ _))) | quiet_step (first | (with_reducible exact Calls.regrown_of (K5.out _ _)))))
        refine wpQuiet_nil ?_
        intro _ hqw
        obtain ⟨⟨dq, osq⟩, hqv⟩ := hqw
        subst hqv
        obtain ⟨wx, hqwx⟩ : ∃ wx, grow (redrawn (V) dq) osq = wx := ⟨_, rfl⟩
        have hbwx : Below (V).heap.size (V) wx := by rw [← hqwx]; exact below_regrown _ dq osq
        rw [hqwx]
        clear hqwx
        have HBX := Kp.mk (HBV.out.trans (hbwx.mono HBV.out.size))
        clear hbwx
        go_wp2
        go_roundw
        case rel => exact ⟨k + 1, by omega, by go_num, HA2, HBX⟩
        case measure => simp [intOf]; omega
    · have hkn : k = N := by omega
      have HE : Kp (F = true) := ⟨by have := HA.out; rw [hkn, ← HN.out, List.take_length] at this; rw [← HF.out]; exact this⟩
      have o1 : ¬ (k : Int) < (N : Int) := by omega
      go_wp2
      go_ret
      exact ⟨by rw [HE.out]; rfl, HB1.out.trans (HBL.out.mono HB1.out.size)⟩
theorem rfits_ok (R x y begin : Int) (v u : Value) (ds : List Dr) (ts : List Tp) (w : World) (hv : DS w v ds) (hu : TS w u ts) (hk : HouseOk R ds x y) (hT : trapsB R ts = true) (h1 : 0 ≤ begin) (h2 : begin.toNat < 2 ^ R.toNat) :
    Calls Try.prog 85 #[.agg #[.int .i64 R, v, .int .i64 x, .int .i64 y], u, .int .i64 begin] w fun e w' => e = .returned (.bool (fitsB ds begin.toNat ts)) ∧ Below w.heap.size w w' := by
  obtain ⟨r1, r2⟩ := hk.rooms
  obtain ⟨t1, t2⟩ := trapsB_ok hT r1 r2
  have hlt : ∀ k, spreadF ds begin.toNat k < 4096 := fun k => spreadF_lt (hk.at_.inn (by omega)) (lt_4096b h2 r2) k
  obtain ⟨g, c, rfl⟩ := hv.shape
  have := rfits_st R x y g ds.length c u begin.toNat (fun k => spreadF ds begin.toNat k) ds ts w hu t1 (fun t ht => by have := t2 t ht; omega) hlt (fun _ => rfl) ⟨fun k W hk2 hW => by
    have := rspread_any R x y _ (.slice none 0 0) ds [] begin.toNat k W (hv.below hW) (by have := hk.len; omega) (is_nil W) (by simp) (hk.at_.inn (by omega)) (lt_4096b h2 r2) (by omega)
    rwa [openF_nil] at this⟩
  rwa [Int.toNat_of_nonneg h1] at this
end Go.Proofs.Ythkamfjjfkpekaa.Pe
