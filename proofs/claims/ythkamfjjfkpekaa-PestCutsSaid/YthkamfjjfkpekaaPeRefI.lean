/-
  WALKS (layer 8, pest): the reference: a flow's value; whether amounts are a flow.
-/
import Derived.Test.YthkamfjjfkpekaaPeRefH
namespace Go.Proofs.Ythkamfjjfkpekaa.Pe
open Go Go.RowKit Go.Proofs Go.Sort

set_option maxRecDepth 100000 in
set_option maxHeartbeats 2000000 in
theorem rvalue_any (R : Nat) (I K : Nat) (v u : Value) (ds : List Dr) (sl fl : List Int) (w : World) (hv : DS w v ds) (hl : ds.length ≤ 40) (hu : IS w u sl) (hsl : sl.length = ds.length) (hsf : ∀ k f, sl[k]? = some f → fl.getD k 0 = f) (hf : ∀ k : Nat, k < ds.length → -1000 ≤ fl.getD k 0 ∧ fl.getD k 0 ≤ 1000) (hR : R ≤ 12) (hd : DoorsOk R ds) (hI : I < 4096) (hK : K < 4096) :
    Calls Try.prog 74 #[.agg #[.int .i64 (R : Int), v, .int .i64 (I : Nat), .int .i64 (K : Nat)], u] w fun e w' => e = .returned (.int .i64 (valS I (leavR R ds fl ds.length) R)) ∧ Below w.heap.size w w' := by
  have HOU : Kp (∀ W, Below w.heap.size w W → Calls Try.prog 97 #[.agg #[.int .i64 (R : Int), v, .int .i64 (I : Nat), .int .i64 (K : Nat)], u] W fun e w' => ∃ b, e = .returned (.slice (some ⟨b, 0, none⟩) R R) ∧ Row 3 w' b (leavR R ds fl ds.length) ∧ Below W.heap.size W w') := ⟨fun W hW => rout_any R I K v u ds sl fl W (hv.below hW) hl (hu.below hW) hsl hsf hf hR hd⟩
  have HB := Kp.mk (fun k => valS_bd (I := I) (B := 2000 * 40) (ol := leavR R ds fl ds.length) (by omega) (fun j => by have := leavR_bd (R := R) (ds := ds) hf j ds.length (Nat.le_refl _); omega) k)
  have HLN := Kp.mk (leavR_len R ds fl ds.length)
  obtain ⟨ol, hol⟩ : ∃ ol, leavR R ds fl ds.length = ol := ⟨_, rfl⟩
  rw [hol] at HOU HB HLN
  rw [hol]
  have HBI : Kp (∀ k : Nat, bits .and .i64 ((I : Int) / 2 ^ k) 1 = if I.testBit k then 1 else 0) := ⟨fun k => bit_has (S := I) (k := k) (by omega)⟩
  obtain ⟨g, c, rfl⟩ := hv.shape
  obtain ⟨gu, cu, rfl⟩ := hu.shape
  obtain ⟨M, hM⟩ : ∃ M, ds.length = M := ⟨_, rfl⟩
  rw [hsl, hM] at HOU
  rw [hsl, hM]
  clear hv hl hu hsl hsf hf hd hI hK hol hM
  go_enter Try.func74, Try.ntmps74
  go_wp2_with fail
  refine (HOU.out _ (by repeat (first | exact Below.refl _ _ | refine Below.alloc ?_ (by simp <;> omega) _ | refine bDrewN ?_ _ | refine Below.drew ?_))).mono ?_
  rintro en w1 ⟨b, rfl, hrow, hb1⟩
  have HRW := Kp.mk hrow
  have HB1 : Kp (Below w.heap.size w w1) := ⟨Below.trans (by repeat (first | exact Below.refl _ _ | refine Below.alloc ?_ (by simp <;> omega) _ | refine bDrewN ?_ _ | refine Below.drew ?_)) (hb1.mono (by simp <;> omega))⟩
  have HC0 : Kp (w1.cell? ⟨w.heap.size, 2, none⟩ = some (.int .i64 (I : Nat))) := ⟨(hb1.cell (p := ⟨w.heap.size, 2, none⟩) (by simp)).trans (by go_simp)⟩
  clear hb1 hrow HOU
  go_wp2_with fail
  go_loop [5, 12] (fun a i => ∃ k : Nat, k ≤ R ∧ i = .int .i64 k ∧ a = .int .i64 (valS I ol k)) (fun _ i => R - (intOf i).toNat)
  case atStart => exact ⟨0, Nat.zero_le _, rfl, rfl⟩
  case round =>
    obtain ⟨k, hk, rfl, rfl⟩ := hrel
    by_cases hlt : k < R
    · have o1 : (k : Int) < (R : Int) := by omega
      have o4 : k ≤ 12 := by omega
      obtain ⟨X, hX⟩ : ∃ X, ol[k]? = some X := ⟨_, List.getElem?_eq_getElem (by rw [HLN.out]; exact hlt)⟩
      have hXd : ol.getD k 0 = X := by rw [List.getD_eq_getElem?_getD, hX]; rfl
      obtain ⟨T, hT⟩ : ∃ T, valS I ol k = T := ⟨_, rfl⟩
      have HST : Kp (valS I ol (k + 1) = if I.testBit k then T + X else T) := ⟨by rw [← hXd, ← hT]; rfl⟩
      have HBK := Kp.mk (HB.out (k + 1))
      have cx := HRW.out.cell hX
      have hbt := HBI.out k
      rw [hT]
      have cI := HC0.out
      clear hX hXd hT
      obtain ⟨Bt, hBt⟩ : ∃ B, I.testBit k = B := ⟨_, rfl⟩
      rw [hBt] at hbt HST
      clear hBt
      cases Bt with
      | true =>
        replace hbt : bits .and .i64 ((I : Int) / 2 ^ k) 1 = 1 := hbt
        have HS2 : Kp (valS I ol (k + 1) = T + X) := ⟨by rw [HST.out, if_pos rfl]⟩
        have e1 : IntKind.i64.wrap (T + X) = T + X := IntWalk.i64_in _ (by have h1 := HBK.out; rw [HS2.out] at h1; omega)
        clear HST
        go_wp2
        go_round
        case rel => exact ⟨k + 1, by omega, by go_num, by rw [HS2.out]⟩
        case measure => simp [intOf]; omega
      | false =>
        replace hbt : bits .and .i64 ((I : Int) / 2 ^ k) 1 = 0 := hbt
        have HS2 : Kp (valS I ol (k + 1) = T) := ⟨by rw [HST.out, if_neg (by decide)]⟩
        clear HST
        go_wp2
        go_round
        case rel => exact ⟨k + 1, by omega, by go_num, by rw [HS2.out]⟩
        case measure => simp [intOf]; omega
    · have hkn : k = R := by omega
      subst hkn
      have o1 : ¬ (k : Int) < (k : Int) := by omega
      go_wp2
      go_ret
      exact ⟨rfl, HB1.out⟩
set_option maxRecDepth 100000 in
set_option maxHeartbeats 2000000 in
theorem rflow_any (R : Nat) (I K : Nat) (v u : Value) (ds : List Dr) (sl fl : List Int) (w : World) (hv : DS w v ds) (hl : ds.length ≤ 40) (hu : IS w u sl) (hsl : sl.length = ds.length) (hsf : ∀ k f, sl[k]? = some f → fl.getD k 0 = f) (hf : ∀ k : Nat, k < ds.length → -1000 ≤ fl.getD k 0 ∧ fl.getD k 0 ≤ 1000) (hR : R ≤ 12) (hd : DoorsOk R ds) (hI : I < 4096) (hK : K < 4096) :
    Calls Try.prog 72 #[.agg #[.int .i64 (R : Int), v, .int .i64 (I : Nat), .int .i64 (K : Nat)], u] w fun e w' => e = .returned (.bool (capF ds fl ds.length && zeroF (I ||| K) (leavR R ds fl ds.length) R)) ∧ Below w.heap.size w w' := by
  have HOU : Kp (∀ W, Below w.heap.size w W → Calls Try.prog 97 #[.agg #[.int .i64 (R : Int), v, .int .i64 (I : Nat), .int .i64 (K : Nat)], u] W fun e w' => ∃ b, e = .returned (.slice (some ⟨b, 0, none⟩) R R) ∧ Row 3 w' b (leavR R ds fl ds.length) ∧ Below W.heap.size W w') := ⟨fun W hW => rout_any R I K v u ds sl fl W (hv.below hW) hl (hu.below hW) hsl hsf hf hR hd⟩
  have HLN := Kp.mk (leavR_len R ds fl ds.length)
  obtain ⟨ol, hol⟩ : ∃ ol, leavR R ds fl ds.length = ol := ⟨_, rfl⟩
  rw [hol] at HOU HLN
  rw [hol]
  have HOR : Kp (bits .or .i64 (I : Int) (K : Int) = ((I ||| K : Nat) : Int)) := ⟨or_nat (by omega) (by omega)⟩
  have HIK : Kp ((I ||| K) < 4096) := ⟨Nat.or_lt_two_pow (n := 12) hI hK⟩
  have HBI : Kp (∀ k : Nat, bits .and .i64 (((I ||| K : Nat) : Int) / 2 ^ k) 1 = if (I ||| K).testBit k then 1 else 0) := ⟨fun k => bit_has (S := I ||| K) (k := k) (by have := HIK.out; omega)⟩
  obtain ⟨g, c, rfl, hi⟩ := hv
  obtain ⟨gu, cu, rfl, -, hiu⟩ := hu
  have HS := Kp.mk hi
  have HIS := Kp.mk hiu
  obtain ⟨M, hM⟩ : ∃ M, ds.length = M := ⟨_, rfl⟩
  have HM := Kp.mk hM
  have HSL : Kp (sl.length = M) := ⟨hsl.trans hM⟩
  have HSF := Kp.mk hsf
  have HF := Kp.mk hf
  have HD : Kp (∀ d ∈ ds, 0 ≤ d.c ∧ d.c ≤ 1000) := ⟨fun d h => (hd d h).2⟩
  rw [hsl, hM] at HOU
  rw [hM] at hl HF
  rw [hsl, hM]
  obtain ⟨Q, hQ⟩ : ∃ Q, (capF ds fl M && zeroF (I ||| K) ol R) = Q := ⟨_, rfl⟩
  have HQ := Kp.mk hQ
  rw [hQ]
  clear hi hiu hsl hsf hf hd hI hK hol hM hQ
  go_enter Try.func72, Try.ntmps72
  go_wp2_with fail
  obtain ⟨W1, hW1⟩ : ∃ W, w.alloc (.cells #[.int .i64 (R : Int), .slice g M c, .int .i64 (I : Nat), .int .i64 (K : Nat)] 24) = W := ⟨_, rfl⟩
  obtain ⟨hb1, hall⟩ := houseBox hW1
  try rw [hW1]
  obtain ⟨B, hB⟩ : ∃ B, w.heap.size = B := ⟨_, rfl⟩
  rw [hB] at hall
  have HB1 := Kp.mk hb1
  have HALL := Kp.mk hall
  try simp only [hB]
  clear hW1 hb1 hall hB
  go_wp2_with fail
  go_loop [11] (fun i => ∃ k : Nat, k ≤ M ∧ i = .int .i64 k ∧ Kp (capF ds fl k = true)) (fun i => M - (intOf i).toNat)
  case atStart => exact ⟨0, Nat.zero_le _, rfl, ⟨rfl⟩⟩
  case round =>
    obtain ⟨k, hk, rfl, HCK⟩ := hrel
    by_cases hlt : k < M
    · obtain ⟨d, hx⟩ : ∃ d, ds[k]? = some d := ⟨_, List.getElem?_eq_getElem (by rw [HM.out]; exact hlt)⟩
      obtain ⟨f, hfx⟩ : ∃ f, sl[k]? = some f := ⟨_, List.getElem?_eq_getElem (by rw [HSL.out]; omega)⟩
      have hxd : ds.getD k default = d := by rw [List.getD_eq_getElem?_getD, hx]; rfl
      have hfd : fl.getD k 0 = f := HSF.out k f hfx
      have hfb := HF.out k hlt
      rw [hfd] at hfb
      have HST : Kp (capF ds fl (k + 1) = inB (-d.c) d.c f) := ⟨by
        show (capF ds fl k && inB (-(ds.getD k default).c) (ds.getD k default).c (fl.getD k 0)) = _
        rw [HCK.out, hxd, hfd, Bool.true_and]⟩
      obtain ⟨b, o, hg, h1, h2, h3⟩ := HS.out k d hx
      subst hg
      obtain ⟨bu, ou, hg, h4⟩ := HIS.out k f hfx
      subst hg
      obtain ⟨p1, p2⟩ := HD.out d (List.mem_of_getElem? hx)
      obtain ⟨da, db, dc⟩ := d
      simp only at h1 h2 h3 p1 p2 HST
      have c3 := (HB1.out.cell (p := ⟨b, o + k * 3 + 2, none⟩) (World.block_lt_of_cell? _ _ h3)).trans h3
      have c4 := (HB1.out.cell (p := ⟨bu, ou + k, none⟩) (World.block_lt_of_cell? _ _ h4)).trans h4
      obtain ⟨q0, q1, q2, q3⟩ := HALL.out W1 (Below.refl _ _)
      have o1 : (k : Int) < (M : Int) := by omega
      have o4 : k ≤ 40 := by omega
      have e1 : IntKind.i64.wrap (-f) = -f := IntWalk.i64_in _ (by omega)
      clear hx hfx hxd hfd h1 h2 h3 h4
      by_cases g1 : dc < f
      · have HE : Kp (Q = false) := ⟨by rw [← HQ.out, capF_no (k := k + 1) (by rw [HST.out]; cases e : inB (-dc) dc f with
          | false => rfl
          | true => have := inB_iff.1 e; omega) (by omega)]; rfl⟩
        clear HST
        go_wp2
        go_ret
        exact ⟨by rw [HE.out]; rfl, HB1.out⟩
      · by_cases g2 : dc < -f
        · have HE : Kp (Q = false) := ⟨by rw [← HQ.out, capF_no (k := k + 1) (by rw [HST.out]; cases e : inB (-dc) dc f with
            | false => rfl
            | true => have := inB_iff.1 e; omega) (by omega)]; rfl⟩
          clear HST
          go_wp2
          go_ret
          exact ⟨by rw [HE.out]; rfl, HB1.out⟩
        · have HC2 : Kp (capF ds fl (k + 1) = true) := ⟨by rw [HST.out]; exact inB_iff.2 ⟨by omega, by omega⟩⟩
          clear HST
          go_wp2
          go_round
          case rel => exact ⟨k + 1, by omega, by go_num, HC2⟩
          case measure => simp [intOf]; omega
    · have hkn : k = M := by omega
      have HQ2 : Kp (zeroF (I ||| K) ol R = Q) := ⟨by rw [← HQ.out, ← hkn, HCK.out, Bool.true_and]⟩
      have o1 : ¬ (k : Int) < (M : Int) := by omega
      obtain ⟨q0, q1, q2, q3⟩ := HALL.out W1 (Below.refl _ _)
      clear hkn HCK HQ
      go_wp2_with fail
      refine (HOU.out _ HB1.out).mono ?_
      rintro en w2 ⟨b, rfl, hrow, hb2⟩
      have HRW := Kp.mk hrow
      have HB2 := Kp.mk (HB1.out.trans (hb2.mono HB1.out.size))
      have HC0 := Kp.mk (HALL.out w2 hb2)
      clear hb2 hrow q0 q1 q2 q3 HOU
      go_wp2_with fail
      go_loop [40] (fun i => ∃ k : Nat, k ≤ R ∧ i = .int .i64 k ∧ Kp (zeroF (I ||| K) ol k = true)) (fun i => R - (intOf i).toNat)
      case atStart => exact ⟨0, Nat.zero_le _, rfl, ⟨rfl⟩⟩
      case round =>
        obtain ⟨k, hk, rfl, HZK⟩ := hrel
        by_cases hlt : k < R
        · have o5 : (k : Int) < (R : Int) := by omega
          have o4 : k ≤ 12 := by omega
          obtain ⟨X, hX⟩ : ∃ X, ol[k]? = some X := ⟨_, List.getElem?_eq_getElem (by rw [HLN.out]; exact hlt)⟩
          have hXd : ol.getD k 0 = X := by rw [List.getD_eq_getElem?_getD, hX]; rfl
          have HST : Kp (zeroF (I ||| K) ol (k + 1) = (decide (X = 0) || (I ||| K).testBit k)) := ⟨by
            show (zeroF (I ||| K) ol k && (decide (ol.getD k 0 = 0) || (I ||| K).testBit k)) = _
            rw [HZK.out, hXd, Bool.true_and]⟩
          have cx := HRW.out.cell hX
          have hbt := HBI.out k
          have hor := HOR.out
          obtain ⟨q0, q1, q2, q3⟩ := HC0.out
          clear hX hXd
          obtain ⟨Bt, hBt⟩ : ∃ B, (I ||| K).testBit k = B := ⟨_, rfl⟩
          rw [hBt] at hbt HST
          clear hBt
          obtain ⟨S, hS⟩ : ∃ S, ((I ||| K : Nat) : Int) = S := ⟨_, rfl⟩
          rw [hS] at hbt hor
          clear hS
          cases Bt with
          | true =>
            replace hbt : bits .and .i64 (S / 2 ^ k) 1 = 1 := hbt
            have HZ2 : Kp (zeroF (I ||| K) ol (k + 1) = true) := ⟨by rw [HST.out, Bool.or_true]⟩
            clear HST
            go_wp2
            go_round
            case rel => exact ⟨k + 1, by omega, by go_num, HZ2⟩
            case measure => simp [intOf]; omega
          | false =>
            replace hbt : bits .and .i64 (S / 2 ^ k) 1 = 0 := hbt
            by_cases g1 : X = 0
            · have HZ2 : Kp (zeroF (I ||| K) ol (k + 1) = true) := ⟨by rw [HST.out, decide_eq_true g1]; rfl⟩
              subst g1
              clear HST
              go_wp2
              go_round
              case rel => exact ⟨k + 1, by omega, by go_num, HZ2⟩
              case measure => simp [intOf]; omega
            · have HE : Kp (Q = false) := ⟨by rw [← HQ2.out]; exact zeroF_no (k := k + 1) (by rw [HST.out, decide_eq_false g1]; rfl) (by omega)⟩
              have i1 : (X == 0) = false := by simp [g1]
              have i2 : (X != 0) = true := by simp [g1]
              clear HST
              go_wp2
              go_ret
              exact ⟨by rw [HE.out]; rfl, HB2.out⟩
        · have hkn : k = R := by omega
          have HE : Kp (Q = true) := ⟨by rw [← HQ2.out, ← hkn]; exact HZK.out⟩
          have o5 : ¬ (k : Int) < (R : Int) := by omega
          go_wp2
          go_ret
          exact ⟨by rw [HE.out]; rfl, HB2.out⟩
end Go.Proofs.Ythkamfjjfkpekaa.Pe
