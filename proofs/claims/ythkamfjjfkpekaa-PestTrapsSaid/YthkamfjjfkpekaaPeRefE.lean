/-
  WALKS (layer 8, pest): the reference: spread, Spread, Comes.
-/
import Derived.Test.YthkamfjjfkpekaaPeRefD
import Derived.Test.YthkamfjjfkpekaaPeDayA
import Derived.Test.YthkamfjjfkpekaaPeSprd
namespace Go.Proofs.Ythkamfjjfkpekaa.Pe
open Go Go.RowKit Go.Proofs Go.Sort

set_option maxRecDepth 100000 in
set_option maxHeartbeats 2000000 in
theorem rspread_any (R x y : Int) (v u : Value) (ds : List Dr) (sl : List Int) (S day : Nat) (w : World) (hv : DS w v ds) (hl : ds.length ≤ 1000) (hu : IS w u sl) (hsl : sl.length ≤ 9223372036854775807) (hd : DoorsIn ds) (hS : S < 4096) (hday : day ≤ 1000) :
    Calls Try.prog 56 #[.agg #[.int .i64 R, v, .int .i64 x, .int .i64 y], u, .int .i64 (S : Nat), .int .i64 (day : Nat)] w fun e w' => e = .returned (.int .i64 (spreadF (openF ds sl ds.length) S day : Nat)) ∧ Below w.heap.size w w' := by
  have hdo : DoorsIn (openF ds sl ds.length) := fun d hm => hd d (openF_mem _ (Nat.le_refl _) hm)
  have HN : Kp (∀ (k : Nat) W, Below w.heap.size w W → Calls Try.prog 91 #[.agg #[.int .i64 R, v, .int .i64 x, .int .i64 y], u, .int .i64 ((spreadF (openF ds sl ds.length) S k : Nat) : Int)] W fun e w' => e = .returned (.int .i64 ((spreadF (openF ds sl ds.length) S (k + 1) : Nat) : Int)) ∧ Below W.heap.size W w') := ⟨fun k W hW => by
    have := rnext_any R x y v u ds sl (spreadF (openF ds sl ds.length) S k) W (hv.below hW) hl (hu.below hW) hsl hd (spreadF_lt hdo hS k)
    rw [rnextF_eq] at this
    exact this⟩
  obtain ⟨F, hF⟩ : ∃ F : Nat → Nat, spreadF (openF ds sl ds.length) S = F := ⟨_, rfl⟩
  have HF0 : Kp (F 0 = S) := ⟨by rw [← hF]; rfl⟩
  rw [hF] at HN ⊢
  obtain ⟨g, c, rfl⟩ := hv.shape
  obtain ⟨gu, cu, rfl⟩ := hu.shape
  obtain ⟨M, hM⟩ : ∃ M, ds.length = M := ⟨_, rfl⟩
  obtain ⟨K, hK⟩ : ∃ K, sl.length = K := ⟨_, rfl⟩
  rw [hM, hK] at HN
  rw [hM, hK]
  clear hv hl hu hsl hd hS hF hdo hM hK
  go_enter Try.func56, Try.ntmps56
  go_wp2
  obtain ⟨W1, hW1⟩ : ∃ W, w.alloc (.cells #[.int .i64 R, .slice g M c, .int .i64 x, .int .i64 y] 24) = W := ⟨_, rfl⟩
  obtain ⟨hb1, hall⟩ := houseBox hW1
  try rw [hW1]
  have HB1 := Kp.mk hb1
  have HALL := Kp.mk hall
  clear hW1 hb1 hall
  go_loopw [2, 10] (fun a i wr => ∃ k : Nat, k ≤ day ∧ i = .int .i64 (k : Nat) ∧ a = .int .i64 ((F k : Nat) : Int) ∧ Kp (Below W1.heap.size W1 wr)) (fun _ i _ => day - (intOf i).toNat)
  case atStart => exact ⟨0, Nat.zero_le _, rfl, by rw [HF0.out], ⟨Below.refl _ _⟩⟩
  case round =>
    obtain ⟨k, hk, rfl, rfl, HK⟩ := hrel
    by_cases hlt : k < day
    · have o1 : (k : Int) < (day : Int) := by omega
      have o4 : k ≤ 1000 := by omega
      obtain ⟨c0, c1, c2, c3⟩ := HALL.out wr HK.out
      have HNK := Kp.mk (HN.out k wr (HB1.out.trans (HK.out.mono HB1.out.size)))
      obtain ⟨A, hA⟩ : ∃ A, F k = A := ⟨_, rfl⟩
      obtain ⟨B, hB⟩ : ∃ B, F (k + 1) = B := ⟨_, rfl⟩
      have HFB := Kp.mk hB
      rw [hA, hB] at HNK
      rw [hA]
      clear hA hB
      go_wp2_with fail
      refine (HNK.out).mono ?_
      rintro en w2 ⟨rfl, hb2⟩
      have HK2 := Kp.mk (HK.out.trans (hb2.mono HK.out.size))
      clear hb2 c0 c1 c2 c3
      go_wp2
      go_roundw
      case rel => exact ⟨k + 1, by omega, by go_num, by rw [HFB.out], HK2⟩
      case measure => simp [intOf]; omega
    · have hkn : k = day := by omega
      subst hkn
      have o1 : ¬ (k : Int) < (k : Int) := by omega
      go_wp2
      go_ret
      exact ⟨rfl, HB1.out.trans (HK.out.mono HB1.out.size)⟩
set_option maxRecDepth 100000 in
set_option maxHeartbeats 1000000 in
theorem rSpread_any (R x y day : Int) (v u : Value) (ds : List Dr) (sl : List Int) (w : World) (hv : DS w v ds) (hl : ds.length ≤ 9223372036854775807) (hu : IS w u sl) (hsl : sl.length ≤ 9223372036854775806) :
    Calls Try.prog 14 #[.agg #[.int .i64 R, v, .int .i64 x, .int .i64 y], u, .int .i64 day] w fun e w' => e = .returned (numE (sprE R ds x y sl day) (sprT ds x sl day : Nat)) ∧ Below w.heap.size w w' := by
  have HDO : Kp (∀ W, Below w.heap.size w W → Calls Try.prog 54 #[.agg #[.int .i64 R, v, .int .i64 x, .int .i64 y], u] W fun e w' => e = .returned (.int .i64 (askE R ds x y sl)) ∧ Below W.heap.size W w') := ⟨fun W hW => rdoors_any R x y v u ds sl W (hv.below hW) hl (hu.below hW) hsl⟩
  have HIN : Kp (∀ W, Calls Try.prog 55 #[.int .i64 day, .int .i64 0, .int .i64 100] W fun e w' => e = .returned (.bool (inB 0 100 day)) ∧ W = w') := ⟨fun W => rin_any day 0 100 W⟩
  have HSP : Kp (askE R ds x y sl = 0 → inB 0 100 day = true → ∀ W, Below w.heap.size w W → Calls Try.prog 56 #[.agg #[.int .i64 R, v, .int .i64 x, .int .i64 y], u, .int .i64 x, .int .i64 day] W fun e w' => e = .returned (.int .i64 (sprT ds x sl day : Nat)) ∧ Below W.heap.size W w') := ⟨fun h h2 W hW => by
    have hk := valB_ok (chkE_zero h).1
    obtain ⟨d1, d2⟩ := inB_iff.1 h2
    have := rspread_any R x y v u ds sl x.toNat day.toNat W (hv.below hW) (by have := hk.len; omega) (hu.below hW) (by omega) (hk.at_.inn (by have := hk.rooms; omega)) (lt_4096b hk.inf.2 hk.rooms.2) (by omega)
    rwa [Int.toNat_of_nonneg hk.inf.1, Int.toNat_of_nonneg d1] at this⟩
  have HSE : Kp (sprE R ds x y sl day = if askE R ds x y sl = 0 then (if inB 0 100 day then 0 else 7) else askE R ds x y sl) := ⟨by
    unfold sprE askE
    cases valB R ds x y <;> cases allIn 0 ((ds.length : Int) - 1) sl <;> cases ascF sl sl.length <;> cases inB 0 100 day <;> rfl⟩
  obtain ⟨E, hE⟩ : ∃ E, askE R ds x y sl = E := ⟨_, rfl⟩
  obtain ⟨D, hD⟩ : ∃ D, inB 0 100 day = D := ⟨_, rfl⟩
  obtain ⟨T, hT⟩ : ∃ T : Int, (sprT ds x sl day : Int) = T := ⟨_, rfl⟩
  rw [hE] at HDO HSP HSE
  rw [hD] at HIN HSP HSE
  rw [hT] at HSP
  rw [hT, HSE.out]
  obtain ⟨g, c, rfl⟩ := hv.shape
  obtain ⟨gu, cu, rfl⟩ := hu.shape
  obtain ⟨M, hM⟩ : ∃ M, ds.length = M := ⟨_, rfl⟩
  obtain ⟨K, hK⟩ : ∃ K, sl.length = K := ⟨_, rfl⟩
  rw [hM, hK] at HDO HSP
  rw [hM, hK]
  clear hv hl hu hsl hE hD hT HSE hM hK
  by_cases h0 : E = 0
  · subst h0
    cases D with
    | false =>
      have HV : Kp (numE (if (0 : Int) = 0 then (if false = true then 0 else 7) else 0) T = .tuple #[.int .i64 0, .int .i64 7]) := ⟨rfl⟩
      rw [HV.out]
      clear HSP
      go_enter Try.func14, Try.ntmps14
      go_wp2_with fail
      refine (HDO.out _ (by repeat (first | exact Below.refl _ _ | refine Below.alloc ?_ (by simp <;> omega) _ | refine bDrewN ?_ _ | refine Below.drew ?_))).mono ?_
      rintro en w1 ⟨rfl, hb1⟩
      have HB1 : Kp (Below w.heap.size w w1) := ⟨Below.trans (by repeat (first | exact Below.refl _ _ | refine Below.alloc ?_ (by simp <;> omega) _ | refine bDrewN ?_ _ | refine Below.drew ?_)) (hb1.mono (by simp <;> omega))⟩
      clear hb1
      go_wp2_with fail
      refine (HIN.out _).mono ?_
      rintro en w2 ⟨rfl, rfl⟩
      go_wp2
      go_ret2
      exact ⟨rfl, HB1.out⟩
    | true =>
      have HV : Kp (numE (if (0 : Int) = 0 then (if true = true then 0 else 7) else 0) T = .tuple #[.int .i64 T, .int .i64 0]) := ⟨rfl⟩
      rw [HV.out]
      have HS2 := Kp.mk (HSP.out rfl rfl)
      clear HSP
      go_enter Try.func14, Try.ntmps14
      go_wp2_with fail
      refine (HDO.out _ (by repeat (first | exact Below.refl _ _ | refine Below.alloc ?_ (by simp <;> omega) _ | refine bDrewN ?_ _ | refine Below.drew ?_))).mono ?_
      rintro en w1 ⟨rfl, hb1⟩
      have HB1 : Kp (Below w.heap.size w w1) := ⟨Below.trans (by repeat (first | refine Below.alloc ?_ (by (try simp) <;> omega) _ | refine bDrewN ?_ _ | refine Below.drew ?_ | refine Below.setCell ?_ (by (try simp) <;> omega) _ | exact Below.refl _ _)) (hb1.mono (by (try simp) <;> omega))⟩
      have hz1_0 : w.heap.size < w1.heap.size := by have := hb1.size; (try simp at this); omega
      obtain ⟨hc, hf⟩ := bcell hb1
      have c1_0_0 : w1.cell? ⟨w.heap.size, 0, none⟩ = some (.int .i64 R) := (hc _ _ (by (try simp) <;> omega)).trans (by go_simp)
      have c1_0_1 : w1.cell? ⟨w.heap.size, 1, none⟩ = some ((.slice g M c)) := (hc _ _ (by (try simp) <;> omega)).trans (by go_simp)
      have c1_0_2 : w1.cell? ⟨w.heap.size, 2, none⟩ = some (.int .i64 x) := (hc _ _ (by (try simp) <;> omega)).trans (by go_simp)
      have c1_0_3 : w1.cell? ⟨w.heap.size, 3, none⟩ = some (.int .i64 y) := (hc _ _ (by (try simp) <;> omega)).trans (by go_simp)
      have z1_0 : ∀ j, w1.frozen? ⟨w.heap.size, j, none⟩ = false := fun j => (hf _ _ (by (try simp) <;> omega)).trans (by go_simp)
      clear hc hf hb1
      go_wp2_with fail
      refine (HIN.out _).mono ?_
      rintro en w2 ⟨rfl, rfl⟩
      go_wp2_with fail
      refine (HS2.out _ HB1.out).mono ?_
      rintro en w3 ⟨rfl, hb3⟩
      have HB3 := Kp.mk (HB1.out.trans (hb3.mono HB1.out.size))
      clear hb3
      go_wp2
      go_ret2
      exact ⟨rfl, HB3.out⟩
  · have i1 : (E == (0 : Int)) = false := by simp [h0]
    have i2 : (E != (0 : Int)) = true := by simp [h0]
    have HV : Kp (numE (if E = 0 then (if D = true then 0 else 7) else E) T = .tuple #[.int .i64 0, .int .i64 E]) := ⟨by rw [if_neg h0]; unfold numE; rw [if_neg h0]⟩
    rw [HV.out]
    clear HSP h0 HV
    go_enter Try.func14, Try.ntmps14
    go_wp2_with fail
    refine (HDO.out _ (by repeat (first | exact Below.refl _ _ | refine Below.alloc ?_ (by simp <;> omega) _ | refine bDrewN ?_ _ | refine Below.drew ?_))).mono ?_
    rintro en w1 ⟨rfl, hb1⟩
    have HB1 : Kp (Below w.heap.size w w1) := ⟨Below.trans (by repeat (first | exact Below.refl _ _ | refine Below.alloc ?_ (by simp <;> omega) _ | refine bDrewN ?_ _ | refine Below.drew ?_)) (hb1.mono (by simp <;> omega))⟩
    clear hb1
    go_wp2
    go_ret2
    exact ⟨rfl, HB1.out⟩
theorem rcomes_any (R x y : Int) (v u : Value) (ds : List Dr) (sl : List Int) (w : World) (hv : DS w v ds) (hu : IS w u sl) (hsl : sl.length ≤ 9223372036854775807) (hk : HouseOk R ds x y) :
    Calls Try.prog 58 #[.agg #[.int .i64 R, v, .int .i64 x, .int .i64 y], u] w fun e w' => e = .returned (.int .i64 (comesT ds x sl : Nat)) ∧ Below w.heap.size w w' := by
  have HSP : Kp (∀ W, Below w.heap.size w W → Calls Try.prog 56 #[.agg #[.int .i64 R, v, .int .i64 x, .int .i64 y], u, .int .i64 x, .int .i64 R] W fun e w' => e = .returned (.int .i64 (comesT ds x sl : Nat)) ∧ Below W.heap.size W w') := ⟨fun W hW => by
    obtain ⟨r1, r2⟩ := hk.rooms
    have hod := open_at sl hk.at_
    have e : comesT ds x sl = spreadF (openF ds sl ds.length) x.toNat R.toNat := by
      unfold comesT
      rw [spread_full (by omega) hod hk.inf.2 (k := R.toNat) (by omega), spread_full (by omega) hod hk.inf.2 (k := 12) (by omega)]
    have := rspread_any R x y v u ds sl x.toNat R.toNat W (hv.below hW) (by have := hk.len; omega) (hu.below hW) hsl (hk.at_.inn (by omega)) (lt_4096b hk.inf.2 r2) (by omega)
    rw [Int.toNat_of_nonneg hk.inf.1, Int.toNat_of_nonneg (by omega)] at this
    rw [e]
    exact this⟩
  obtain ⟨g, c, rfl⟩ := hv.shape
  obtain ⟨gu, cu, rfl⟩ := hu.shape
  obtain ⟨M, hM⟩ : ∃ M, ds.length = M := ⟨_, rfl⟩
  obtain ⟨K, hK⟩ : ∃ K, sl.length = K := ⟨_, rfl⟩
  obtain ⟨T, hT⟩ : ∃ T : Int, (comesT ds x sl : Int) = T := ⟨_, rfl⟩
  rw [hM, hK, hT] at HSP
  rw [hM, hK, hT]
  clear hv hu hsl hk hM hK hT
  go_enter Try.func58, Try.ntmps58
  go_wp2_with fail
  refine (HSP.out _ (by repeat (first | exact Below.refl _ _ | refine Below.alloc ?_ (by simp <;> omega) _ | refine bDrewN ?_ _ | refine Below.drew ?_))).mono ?_
  rintro en w1 ⟨rfl, hb1⟩
  have HB1 : Kp (Below w.heap.size w w1) := ⟨Below.trans (by repeat (first | exact Below.refl _ _ | refine Below.alloc ?_ (by simp <;> omega) _ | refine bDrewN ?_ _ | refine Below.drew ?_)) (hb1.mono (by simp <;> omega))⟩
  clear hb1
  go_wp2
  go_ret
  exact ⟨rfl, HB1.out⟩
set_option maxRecDepth 100000 in
set_option maxHeartbeats 1000000 in
theorem rComes_any (R x y : Int) (v u : Value) (ds : List Dr) (sl : List Int) (w : World) (hv : DS w v ds) (hl : ds.length ≤ 9223372036854775807) (hu : IS w u sl) (hsl : sl.length ≤ 9223372036854775806) :
    Calls Try.prog 16 #[.agg #[.int .i64 R, v, .int .i64 x, .int .i64 y], u] w fun e w' => e = .returned (numE (askE R ds x y sl) (comesT ds x sl : Nat)) ∧ Below w.heap.size w w' := by
  have HDO : Kp (∀ W, Below w.heap.size w W → Calls Try.prog 54 #[.agg #[.int .i64 R, v, .int .i64 x, .int .i64 y], u] W fun e w' => e = .returned (.int .i64 (askE R ds x y sl)) ∧ Below W.heap.size W w') := ⟨fun W hW => rdoors_any R x y v u ds sl W (hv.below hW) hl (hu.below hW) hsl⟩
  have HCO : Kp (askE R ds x y sl = 0 → ∀ W, Below w.heap.size w W → Calls Try.prog 58 #[.agg #[.int .i64 R, v, .int .i64 x, .int .i64 y], u] W fun e w' => e = .returned (.int .i64 (comesT ds x sl : Nat)) ∧ Below W.heap.size W w') := ⟨fun h W hW => rcomes_any R x y v u ds sl W (hv.below hW) (hu.below hW) (by omega) (valB_ok (chkE_zero h).1)⟩
  obtain ⟨E, hE⟩ : ∃ E, askE R ds x y sl = E := ⟨_, rfl⟩
  obtain ⟨T, hT⟩ : ∃ T : Int, (comesT ds x sl : Int) = T := ⟨_, rfl⟩
  obtain ⟨g, c, rfl⟩ := hv.shape
  obtain ⟨gu, cu, rfl⟩ := hu.shape
  obtain ⟨M, hM⟩ : ∃ M, ds.length = M := ⟨_, rfl⟩
  obtain ⟨K, hK⟩ : ∃ K, sl.length = K := ⟨_, rfl⟩
  rw [hE, hM, hK] at HDO
  rw [hE, hT, hM, hK] at HCO
  rw [hE, hT, hM, hK]
  clear hv hl hu hsl hE hT hM hK
  by_cases h0 : E = 0
  · subst h0
    have HC2 := Kp.mk (HCO.out rfl)
    have HV : Kp (numE 0 T = .tuple #[.int .i64 T, .int .i64 0]) := ⟨rfl⟩
    rw [HV.out]
    clear HCO HV
    go_enter Try.func16, Try.ntmps16
    go_wp2_with fail
    refine (HDO.out _ (by repeat (first | exact Below.refl _ _ | refine Below.alloc ?_ (by simp <;> omega) _ | refine bDrewN ?_ _ | refine Below.drew ?_))).mono ?_
    rintro en w1 ⟨rfl, hb1⟩
    have HB1 : Kp (Below w.heap.size w w1) := ⟨Below.trans (by repeat (first | refine Below.alloc ?_ (by (try simp) <;> omega) _ | refine bDrewN ?_ _ | refine Below.drew ?_ | refine Below.setCell ?_ (by (try simp) <;> omega) _ | exact Below.refl _ _)) (hb1.mono (by (try simp) <;> omega))⟩
    have hz1_0 : w.heap.size < w1.heap.size := by have := hb1.size; (try simp at this); omega
    obtain ⟨hc, hf⟩ := bcell hb1
    have c1_0_0 : w1.cell? ⟨w.heap.size, 0, none⟩ = some (.int .i64 R) := (hc _ _ (by (try simp) <;> omega)).trans (by go_simp)
    have c1_0_1 : w1.cell? ⟨w.heap.size, 1, none⟩ = some ((.slice g M c)) := (hc _ _ (by (try simp) <;> omega)).trans (by go_simp)
    have c1_0_2 : w1.cell? ⟨w.heap.size, 2, none⟩ = some (.int .i64 x) := (hc _ _ (by (try simp) <;> omega)).trans (by go_simp)
    have c1_0_3 : w1.cell? ⟨w.heap.size, 3, none⟩ = some (.int .i64 y) := (hc _ _ (by (try simp) <;> omega)).trans (by go_simp)
    have z1_0 : ∀ j, w1.frozen? ⟨w.heap.size, j, none⟩ = false := fun j => (hf _ _ (by (try simp) <;> omega)).trans (by go_simp)
    clear hc hf hb1
    go_wp2_with fail
    refine (HC2.out _ HB1.out).mono ?_
    rintro en w3 ⟨rfl, hb3⟩
    have HB3 := Kp.mk (HB1.out.trans (hb3.mono HB1.out.size))
    clear hb3
    go_wp2
    go_ret2
    exact ⟨rfl, HB3.out⟩
  · have i1 : (E == (0 : Int)) = false := by simp [h0]
    have i2 : (E != (0 : Int)) = true := by simp [h0]
    have HV : Kp (numE E T = .tuple #[.int .i64 0, .int .i64 E]) := ⟨by unfold numE; rw [if_neg h0]⟩
    rw [HV.out]
    clear HCO h0 HV
    go_enter Try.func16, Try.ntmps16
    go_wp2_with fail
    refine (HDO.out _ (by repeat (first | exact Below.refl _ _ | refine Below.alloc ?_ (by simp <;> omega) _ | refine bDrewN ?_ _ | refine Below.drew ?_))).mono ?_
    rintro en w1 ⟨rfl, hb1⟩
    have HB1 : Kp (Below w.heap.size w w1) := ⟨Below.trans (by repeat (first | exact Below.refl _ _ | refine Below.alloc ?_ (by simp <;> omega) _ | refine bDrewN ?_ _ | refine Below.drew ?_)) (hb1.mono (by simp <;> omega))⟩
    clear hb1
    go_wp2
    go_ret2
    exact ⟨rfl, HB1.out⟩
end Go.Proofs.Ythkamfjjfkpekaa.Pe
