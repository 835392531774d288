/-
  WALKS (layer 8, pest): the reference's Flow and Value; the program's Flow.
-/
import Derived.Test.YthkamfjjfkpekaaPeRefI
import Derived.Test.YthkamfjjfkpekaaPeLeast
namespace Go.Proofs.Ythkamfjjfkpekaa.Pe
open Go Go.RowKit Go.Proofs Go.Sort

theorem zeroF_same {S : Nat} {ol ol2 : List Int} {R : Nat} (hR : R ≤ 12) (h1 : ∀ j, j < R → ol.getD j 0 = ol2.getD j 0) (h2 : ∀ j, R ≤ j → j < 12 → ol.getD j 0 = 0) : zeroF S ol 12 = zeroF S ol2 R := by
  have a : ∀ k, k ≤ R → zeroF S ol k = zeroF S ol2 k := fun k => by
    induction k with
    | zero => exact fun _ => rfl
    | succ k ih => exact fun hk => by unfold zeroF; rw [ih (by omega), h1 k (by omega)]
  have b : ∀ m, R + m ≤ 12 → zeroF S ol (R + m) = zeroF S ol R := fun m => by
    induction m with
    | zero => exact fun _ => rfl
    | succ m ih =>
        intro hm
        show (zeroF S ol (R + m) && (decide (ol.getD (R + m) 0 = 0) || S.testBit (R + m))) = _
        rw [ih (by omega), h2 (R + m) (by omega) (by omega), decide_eq_true rfl, Bool.true_or, Bool.and_true]
  have := b (12 - R) (by omega)
  rw [show R + (12 - R) = 12 by omega] at this
  rw [this, a R (Nat.le_refl _)]
theorem valS_same {S : Nat} {ol ol2 : List Int} {R : Nat} (hR : R ≤ 12) (h1 : ∀ j, j < R → ol.getD j 0 = ol2.getD j 0) (h2 : ∀ j, R ≤ j → j < 12 → ol.getD j 0 = 0) : valS S ol 12 = valS S ol2 R := by
  have a : ∀ k, k ≤ R → valS S ol k = valS S ol2 k := fun k => by
    induction k with
    | zero => exact fun _ => rfl
    | succ k ih => exact fun hk => by unfold valS; rw [ih (by omega), h1 k (by omega)]
  have b : ∀ m, R + m ≤ 12 → valS S ol (R + m) = valS S ol R := fun m => by
    induction m with
    | zero => exact fun _ => rfl
    | succ m ih =>
        intro hm
        show (if S.testBit (R + m) then valS S ol (R + m) + ol.getD (R + m) 0 else valS S ol (R + m)) = _
        rw [ih (by omega), h2 (R + m) (by omega) (by omega), Int.add_zero]
        split <;> rfl
  have := b (12 - R) (by omega)
  rw [show R + (12 - R) = 12 by omega] at this
  rw [this, a R (Nat.le_refl _)]
theorem outF_out {ds : List Dr} {fl : List Int} {R r : Nat} (hD : DoorsOk R ds) (hr : R ≤ r) : ∀ k : Nat, k ≤ ds.length → outF ds fl r k = 0
  | 0, _ => rfl
  | k + 1, hk => by
    have ih := outF_out hD hr k (by omega) (fl := fl)
    obtain ⟨⟨h1, h2, h3⟩, -⟩ := hD _ (getD_mem (show k < ds.length by omega))
    unfold outF
    rw [ih, if_neg (by omega), if_neg (by omega)]
    rfl
theorem amtE_ok {R : Int} {ds : List Dr} {x y : Int} {l : List Int} (h : amtE R ds x y l = 0) : HouseOk R ds x y ∧ l.length = ds.length ∧ allIn (-1000) 1000 l = true := by
  obtain ⟨h1, -, h3⟩ := chkE_zero h
  unfold amtB at h3
  rw [Bool.and_eq_true, decide_eq_true_eq] at h3
  exact ⟨valB_ok h1, h3⟩
theorem amtL_at {l : List Int} {k : Nat} {f : Int} (h : l[k]? = some f) : (amtL l).getD k 0 = f := by
  unfold amtL
  rw [List.getD_eq_getElem?_getD, List.getElem?_append_left (List.getElem?_eq_some_iff.1 h).1, h]
  rfl
theorem leav_same {R : Int} {ds : List Dr} {x y : Int} (l : List Int) (hk : HouseOk R ds x y) : R.toNat ≤ 12 ∧ (∀ j, j < R.toNat → (leavF ds l ds.length).getD j 0 = (leavR R.toNat ds l ds.length).getD j 0) ∧ ∀ j, R.toNat ≤ j → j < 12 → (leavF ds l ds.length).getD j 0 = 0 := by
  have hr : R.toNat ≤ 12 := by have := hk.rooms; omega
  refine ⟨hr, fun j hj => ?_, fun j h1 h2 => ?_⟩
  · rw [leavF_at hk.dok hr (by omega) _ (Nat.le_refl _), leavR_at hk.dok hj _ (Nat.le_refl _)]
  · rw [leavF_at hk.dok hr h2 _ (Nat.le_refl _), outF_out hk.dok h1 _ (Nat.le_refl _)]
theorem rflow_ok (R x y : Int) (v u : Value) (ds : List Dr) (l : List Int) (w : World) (hv : DS w v ds) (hu : IS w u l) (h : amtE R ds x y l = 0) :
    Calls Try.prog 72 #[.agg #[.int .i64 R, v, .int .i64 x, .int .i64 y], u] w fun e w' => e = .returned (.bool (flowB ds l x y)) ∧ Below w.heap.size w w' := by
  obtain ⟨hk, h1, h2⟩ := amtE_ok h
  obtain ⟨a, b, c⟩ := leav_same (amtL l) hk
  have e : flowB ds l x y = (capF ds (amtL l) ds.length && zeroF (x.toNat ||| y.toNat) (leavR R.toNat ds (amtL l) ds.length) R.toNat) := by
    unfold flowB
    rw [zeroF_same a b c]
  have := rflow_any R.toNat x.toNat y.toNat v u ds l (amtL l) w hv hk.len hu h1 (fun k f hf => amtL_at hf) (fun k _ => amtL_bd h2 k) a hk.dok (lt_4096 hk.inf.2 hk.rooms.2) (lt_4096 hk.kept.2 hk.rooms.2)
  rw [Int.toNat_of_nonneg hk.inf.1, Int.toNat_of_nonneg hk.kept.1, Int.toNat_of_nonneg (by have := hk.rooms; omega)] at this
  rw [e]
  exact this
theorem rvalue_ok (R x y : Int) (v u : Value) (ds : List Dr) (l : List Int) (w : World) (hv : DS w v ds) (hu : IS w u l) (h : amtE R ds x y l = 0) :
    Calls Try.prog 74 #[.agg #[.int .i64 R, v, .int .i64 x, .int .i64 y], u] w fun e w' => e = .returned (.int .i64 (valT ds l x)) ∧ Below w.heap.size w w' := by
  obtain ⟨hk, h1, h2⟩ := amtE_ok h
  obtain ⟨a, b, c⟩ := leav_same (amtL l) hk
  have e : valT ds l x = valS x.toNat (leavR R.toNat ds (amtL l) ds.length) R.toNat := by
    unfold valT
    rw [valS_same a b c]
  have := rvalue_any R.toNat x.toNat y.toNat v u ds l (amtL l) w hv hk.len hu h1 (fun k f hf => amtL_at hf) (fun k _ => amtL_bd h2 k) a hk.dok (lt_4096 hk.inf.2 hk.rooms.2) (lt_4096 hk.kept.2 hk.rooms.2)
  rw [Int.toNat_of_nonneg hk.inf.1, Int.toNat_of_nonneg hk.kept.1, Int.toNat_of_nonneg (by have := hk.rooms; omega)] at this
  rw [e]
  exact this
set_option maxRecDepth 100000 in
set_option maxHeartbeats 1000000 in
theorem rFlow_any (R x y : Int) (v u : Value) (ds : List Dr) (sl : List Int) (w : World) (hv : DS w v ds) (hl : ds.length ≤ 9223372036854775807) (hu : IS w u sl) (hsl : sl.length ≤ 9223372036854775806) :
    Calls Try.prog 26 #[.agg #[.int .i64 R, v, .int .i64 x, .int .i64 y], u] w fun e w' => e = .returned (boolE (amtE R ds x y sl) (flowB ds sl x y)) ∧ Below w.heap.size w w' := by
  have HDO : Kp (∀ W, Below w.heap.size w W → Calls Try.prog 71 #[.agg #[.int .i64 R, v, .int .i64 x, .int .i64 y], u] W fun e w' => e = .returned (.int .i64 (amtE R ds x y sl)) ∧ Below W.heap.size W w') := ⟨fun W hW => ramounts_any R x y v u ds sl W (hv.below hW) hl (hu.below hW) hsl⟩
  have HCO : Kp (amtE R ds x y sl = 0 → ∀ W, Below w.heap.size w W → Calls Try.prog 72 #[.agg #[.int .i64 R, v, .int .i64 x, .int .i64 y], u] W fun e w' => e = .returned (.bool (flowB ds sl x y)) ∧ Below W.heap.size W w') := ⟨fun h W hW => rflow_ok R x y v u ds sl W (hv.below hW) (hu.below hW) h⟩
  obtain ⟨E, hE⟩ : ∃ E, amtE R ds x y sl = E := ⟨_, rfl⟩
  obtain ⟨T, hT⟩ : ∃ T : Bool, (flowB ds sl x y) = T := ⟨_, rfl⟩
  obtain ⟨g, c, rfl⟩ := hv.shape
  obtain ⟨gu, cu, rfl⟩ := hu.shape
  rw [hE] at HDO
  rw [hE, hT] at HCO
  rw [hE, hT]
  obtain ⟨M, hM⟩ : ∃ M, ds.length = M := ⟨_, rfl⟩
  obtain ⟨K, hK⟩ : ∃ K, sl.length = K := ⟨_, rfl⟩
  rw [hM, hK] at HDO HCO
  rw [hM, hK]
  clear hv hl hu hsl hE hT hM hK
  by_cases h0 : E = 0
  · subst h0
    have HC2 := Kp.mk (HCO.out rfl)
    have HV : Kp (boolE 0 T = .tuple #[.bool T, .int .i64 0]) := ⟨rfl⟩
    rw [HV.out]
    clear HCO HV
    go_enter Try.func26, Try.ntmps26
    go_wp2_with fail
    refine (HDO.out _ (by repeat (first | exact Below.refl _ _ | refine Below.alloc ?_ (by simp <;> omega) _ | refine bDrewN ?_ _ | refine Below.drew ?_))).mono ?_
    rintro en w1 ⟨rfl, hb1⟩
    have HB1 : Kp (Below w.heap.size w w1) := ⟨Below.trans (by repeat (first | refine Below.alloc ?_ (by (try simp) <;> omega) _ | refine bDrewN ?_ _ | refine Below.drew ?_ | refine Below.setCell ?_ (by (try simp) <;> omega) _ | exact Below.refl _ _)) (hb1.mono (by (try simp) <;> omega))⟩
    have hz1_0 : w.heap.size < w1.heap.size := by have := hb1.size; (try simp at this); omega
    obtain ⟨hc, hf⟩ := bcell hb1
    have c1_0_0 : w1.cell? ⟨w.heap.size, 0, none⟩ = some (.int .i64 R) := (hc _ _ (by (try simp) <;> omega)).trans (by go_simp)
    have c1_0_1 : w1.cell? ⟨w.heap.size, 1, none⟩ = some ((.slice g M c)) := (hc _ _ (by (try simp) <;> omega)).trans (by go_simp)
    have c1_0_2 : w1.cell? ⟨w.heap.size, 2, none⟩ = some (.int .i64 x) := (hc _ _ (by (try simp) <;> omega)).trans (by go_simp)
    have c1_0_3 : w1.cell? ⟨w.heap.size, 3, none⟩ = some (.int .i64 y) := (hc _ _ (by (try simp) <;> omega)).trans (by go_simp)
    have z1_0 : ∀ j, w1.frozen? ⟨w.heap.size, j, none⟩ = false := fun j => (hf _ _ (by (try simp) <;> omega)).trans (by go_simp)
    clear hc hf hb1
    go_wp2_with fail
    refine (HC2.out _ HB1.out).mono ?_
    rintro en w3 ⟨rfl, hb3⟩
    have HB3 := Kp.mk (HB1.out.trans (hb3.mono HB1.out.size))
    clear hb3
    go_wp2
    go_ret2
    exact ⟨rfl, HB3.out⟩
  · have i1 : (E == (0 : Int)) = false := by simp [h0]
    have i2 : (E != (0 : Int)) = true := by simp [h0]
    have HV : Kp (boolE E T = .tuple #[.bool false, .int .i64 E]) := ⟨by unfold boolE; rw [if_neg h0]⟩
    rw [HV.out]
    clear HCO h0 HV
    go_enter Try.func26, Try.ntmps26
    go_wp2_with fail
    refine (HDO.out _ (by repeat (first | exact Below.refl _ _ | refine Below.alloc ?_ (by simp <;> omega) _ | refine bDrewN ?_ _ | refine Below.drew ?_))).mono ?_
    rintro en w1 ⟨rfl, hb1⟩
    have HB1 : Kp (Below w.heap.size w w1) := ⟨Below.trans (by repeat (first | exact Below.refl _ _ | refine Below.alloc ?_ (by simp <;> omega) _ | refine bDrewN ?_ _ | refine Below.drew ?_)) (hb1.mono (by simp <;> omega))⟩
    clear hb1
    go_wp2
    go_ret2
    exact ⟨rfl, HB1.out⟩
set_option maxRecDepth 100000 in
set_option maxHeartbeats 1000000 in
theorem rValue_any (R x y : Int) (v u : Value) (ds : List Dr) (sl : List Int) (w : World) (hv : DS w v ds) (hl : ds.length ≤ 9223372036854775807) (hu : IS w u sl) (hsl : sl.length ≤ 9223372036854775806) :
    Calls Try.prog 28 #[.agg #[.int .i64 R, v, .int .i64 x, .int .i64 y], u] w fun e w' => e = .returned (valE (amtE R ds x y sl) (flowB ds sl x y) (valT ds sl x)) ∧ Below w.heap.size w w' := by
  have HDO : Kp (∀ W, Below w.heap.size w W → Calls Try.prog 71 #[.agg #[.int .i64 R, v, .int .i64 x, .int .i64 y], u] W fun e w' => e = .returned (.int .i64 (amtE R ds x y sl)) ∧ Below W.heap.size W w') := ⟨fun W hW => ramounts_any R x y v u ds sl W (hv.below hW) hl (hu.below hW) hsl⟩
  have HFL : Kp (amtE R ds x y sl = 0 → ∀ W, Below w.heap.size w W → Calls Try.prog 72 #[.agg #[.int .i64 R, v, .int .i64 x, .int .i64 y], u] W fun e w' => e = .returned (.bool (flowB ds sl x y)) ∧ Below W.heap.size W w') := ⟨fun h W hW => rflow_ok R x y v u ds sl W (hv.below hW) (hu.below hW) h⟩
  have HVA : Kp (amtE R ds x y sl = 0 → ∀ W, Below w.heap.size w W → Calls Try.prog 74 #[.agg #[.int .i64 R, v, .int .i64 x, .int .i64 y], u] W fun e w' => e = .returned (.int .i64 (valT ds sl x)) ∧ Below W.heap.size W w') := ⟨fun h W hW => rvalue_ok R x y v u ds sl W (hv.below hW) (hu.below hW) h⟩
  obtain ⟨E, hE⟩ : ∃ E, amtE R ds x y sl = E := ⟨_, rfl⟩
  obtain ⟨F, hF⟩ : ∃ F, flowB ds sl x y = F := ⟨_, rfl⟩
  obtain ⟨T, hT⟩ : ∃ T, valT ds sl x = T := ⟨_, rfl⟩
  obtain ⟨g, c, rfl⟩ := hv.shape
  obtain ⟨gu, cu, rfl⟩ := hu.shape
  obtain ⟨M, hM⟩ : ∃ M, ds.length = M := ⟨_, rfl⟩
  obtain ⟨K, hK⟩ : ∃ K, sl.length = K := ⟨_, rfl⟩
  rw [hE, hM, hK] at HDO
  rw [hE, hF, hM, hK] at HFL
  rw [hE, hT, hM, hK] at HVA
  rw [hE, hF, hT, hM, hK]
  clear hv hl hu hsl hE hF hT hM hK
  by_cases h0 : E = 0
  · subst h0
    have HF2 := Kp.mk (HFL.out rfl)
    have HV2 := Kp.mk (HVA.out rfl)
    clear HFL HVA
    cases F with
    | false =>
      have HV : Kp (valE 0 false T = .tuple #[.int .i64 0, .int .i64 9]) := ⟨rfl⟩
      rw [HV.out]
      clear HV HV2
      go_enter Try.func28, Try.ntmps28
      go_wp2_with fail
      refine (HDO.out _ (by repeat (first | exact Below.refl _ _ | refine Below.alloc ?_ (by simp <;> omega) _ | refine bDrewN ?_ _ | refine Below.drew ?_))).mono ?_
      rintro en w1 ⟨rfl, hb1⟩
      have HB1 : Kp (Below w.heap.size w w1) := ⟨Below.trans (by repeat (first | refine Below.alloc ?_ (by (try simp) <;> omega) _ | refine bDrewN ?_ _ | refine Below.drew ?_ | refine Below.setCell ?_ (by (try simp) <;> omega) _ | exact Below.refl _ _)) (hb1.mono (by (try simp) <;> omega))⟩
      have hz1_0 : w.heap.size < w1.heap.size := by have := hb1.size; (try simp at this); omega
      obtain ⟨hc, hf⟩ := bcell hb1
      have c1_0_0 : w1.cell? ⟨w.heap.size, 0, none⟩ = some (.int .i64 R) := (hc _ _ (by (try simp) <;> omega)).trans (by go_simp)
      have c1_0_1 : w1.cell? ⟨w.heap.size, 1, none⟩ = some ((.slice g M c)) := (hc _ _ (by (try simp) <;> omega)).trans (by go_simp)
      have c1_0_2 : w1.cell? ⟨w.heap.size, 2, none⟩ = some (.int .i64 x) := (hc _ _ (by (try simp) <;> omega)).trans (by go_simp)
      have c1_0_3 : w1.cell? ⟨w.heap.size, 3, none⟩ = some (.int .i64 y) := (hc _ _ (by (try simp) <;> omega)).trans (by go_simp)
      have z1_0 : ∀ j, w1.frozen? ⟨w.heap.size, j, none⟩ = false := fun j => (hf _ _ (by (try simp) <;> omega)).trans (by go_simp)
      clear hc hf hb1
      go_wp2_with fail
      refine (HF2.out _ HB1.out).mono ?_
      rintro en w3 ⟨rfl, hb3⟩
      have HB3 := Kp.mk (HB1.out.trans (hb3.mono HB1.out.size))
      clear hb3
      go_wp2
      go_ret2
      exact ⟨rfl, HB3.out⟩
    | true =>
      have HV : Kp (valE 0 true T = .tuple #[.int .i64 T, .int .i64 0]) := ⟨rfl⟩
      rw [HV.out]
      clear HV
      go_enter Try.func28, Try.ntmps28
      go_wp2_with fail
      refine (HDO.out _ (by repeat (first | exact Below.refl _ _ | refine Below.alloc ?_ (by simp <;> omega) _ | refine bDrewN ?_ _ | refine Below.drew ?_))).mono ?_
      rintro en w1 ⟨rfl, hb1⟩
      have HB1 : Kp (Below w.heap.size w w1) := ⟨Below.trans (by repeat (first | refine Below.alloc ?_ (by (try simp) <;> omega) _ | refine bDrewN ?_ _ | refine Below.drew ?_ | refine Below.setCell ?_ (by (try simp) <;> omega) _ | exact Below.refl _ _)) (hb1.mono (by (try simp) <;> omega))⟩
      have hz1_0 : w.heap.size < w1.heap.size := by have := hb1.size; (try simp at this); omega
      obtain ⟨hc, hf⟩ := bcell hb1
      have c1_0_0 : w1.cell? ⟨w.heap.size, 0, none⟩ = some (.int .i64 R) := (hc _ _ (by (try simp) <;> omega)).trans (by go_simp)
      have c1_0_1 : w1.cell? ⟨w.heap.size, 1, none⟩ = some ((.slice g M c)) := (hc _ _ (by (try simp) <;> omega)).trans (by go_simp)
      have c1_0_2 : w1.cell? ⟨w.heap.size, 2, none⟩ = some (.int .i64 x) := (hc _ _ (by (try simp) <;> omega)).trans (by go_simp)
      have c1_0_3 : w1.cell? ⟨w.heap.size, 3, none⟩ = some (.int .i64 y) := (hc _ _ (by (try simp) <;> omega)).trans (by go_simp)
      have z1_0 : ∀ j, w1.frozen? ⟨w.heap.size, j, none⟩ = false := fun j => (hf _ _ (by (try simp) <;> omega)).trans (by go_simp)
      clear hc hf hb1
      go_wp2_with fail
      refine (HF2.out _ HB1.out).mono ?_
      rintro en w2 ⟨rfl, hb2⟩
      have HB2 : Kp (Below w.heap.size w w2) := ⟨Below.trans (by repeat (first | refine Below.alloc ?_ (by have := HB1.out.size; (try simp) <;> omega) _ | refine bDrewN ?_ _ | refine Below.drew ?_ | refine Below.setCell ?_ (by have := HB1.out.size; (try simp) <;> omega) _ | exact HB1.out)) (hb2.mono (by have := HB1.out.size; (try simp) <;> omega))⟩
      have hz2_0 : w.heap.size < w2.heap.size := by have := hb2.size; (try simp at this); omega
      obtain ⟨hc, hf⟩ := bcell hb2
      have c2_0_0 : w2.cell? ⟨w.heap.size, 0, none⟩ = some (.int .i64 R) := (hc _ _ (by (try simp) <;> omega)).trans (by go_simp)
      have c2_0_1 : w2.cell? ⟨w.heap.size, 1, none⟩ = some ((.slice g M c)) := (hc _ _ (by (try simp) <;> omega)).trans (by go_simp)
      have c2_0_2 : w2.cell? ⟨w.heap.size, 2, none⟩ = some (.int .i64 x) := (hc _ _ (by (try simp) <;> omega)).trans (by go_simp)
      have c2_0_3 : w2.cell? ⟨w.heap.size, 3, none⟩ = some (.int .i64 y) := (hc _ _ (by (try simp) <;> omega)).trans (by go_simp)
      have z2_0 : ∀ j, w2.frozen? ⟨w.heap.size, j, none⟩ = false := fun j => (hf _ _ (by (try simp) <;> omega)).trans (by go_simp)
      clear hc hf hb2
      go_wp2_with fail
      refine (HV2.out _ HB2.out).mono ?_
      rintro en w3 ⟨rfl, hb3⟩
      have HB3 := Kp.mk (HB2.out.trans (hb3.mono HB2.out.size))
      clear hb3
      go_wp2
      go_ret2
      exact ⟨rfl, HB3.out⟩
  · have i1 : (E == (0 : Int)) = false := by simp [h0]
    have i2 : (E != (0 : Int)) = true := by simp [h0]
    have HV : Kp (valE E F T = .tuple #[.int .i64 0, .int .i64 E]) := ⟨by unfold valE; rw [if_neg h0]⟩
    rw [HV.out]
    clear HFL HVA h0 HV
    go_enter Try.func28, Try.ntmps28
    go_wp2_with fail
    refine (HDO.out _ (by repeat (first | exact Below.refl _ _ | refine Below.alloc ?_ (by simp <;> omega) _ | refine bDrewN ?_ _ | refine Below.drew ?_))).mono ?_
    rintro en w1 ⟨rfl, hb1⟩
    have HB1 : Kp (Below w.heap.size w w1) := ⟨Below.trans (by repeat (first | exact Below.refl _ _ | refine Below.alloc ?_ (by simp <;> omega) _ | refine bDrewN ?_ _ | refine Below.drew ?_)) (hb1.mono (by simp <;> omega))⟩
    clear hb1
    go_wp2
    go_ret2
    exact ⟨rfl, HB1.out⟩
set_option maxRecDepth 100000 in
set_option maxHeartbeats 2000000 in
theorem Flow_st (R x y : Int) (g : Option Addr) (M c : Nat) (gu : Option Addr) (nu cu : Nat) (P F : Bool) (ER : Int) (FA : List Int) (w : World)
    (HAA : Kp (∀ W, Below w.heap.size w W → Calls Try.prog 68 #[.agg #[.int .i64 R, .slice g M c, .int .i64 x, .int .i64 y], .slice gu nu cu] W fun e w' => e = .returned (.bool P) ∧ Below W.heap.size W w'))
    (HCK : Kp (∀ W, Below w.heap.size w W → Calls Try.prog 48 #[.agg #[.int .i64 R, .slice g M c, .int .i64 x, .int .i64 y], .bool true, .bool P] W fun e w' => e = .returned (.int .i64 ER) ∧ Below W.heap.size W w'))
    (HAM : Kp (ER = 0 → ∀ W, Below w.heap.size w W → Calls Try.prog 70 #[.slice gu nu cu] W fun e w' => e = .returned (.agg (ivs FA)) ∧ Below W.heap.size W w'))
    (HIF : Kp (ER = 0 → ∀ W, Below w.heap.size w W → Calls Try.prog 69 #[.agg #[.int .i64 R, .slice g M c, .int .i64 x, .int .i64 y], .agg (ivs FA)] W fun e w' => e = .returned (.bool F) ∧ Below W.heap.size W w')) :
    Calls Try.prog 25 #[.agg #[.int .i64 R, .slice g M c, .int .i64 x, .int .i64 y], .slice gu nu cu] w fun e w' => e = .returned (boolE ER F) ∧ Below w.heap.size w w' := by
  go_enter Try.func25, Try.ntmps25
  go_wp2_with fail
  obtain ⟨W1, hW1⟩ : ∃ W, w.alloc (.cells #[.int .i64 R, .slice g M c, .int .i64 x, .int .i64 y] 24) = W := ⟨_, rfl⟩
  obtain ⟨hb1, hall⟩ := houseBox hW1
  try rw [hW1]
  obtain ⟨B, hB⟩ : ∃ B, w.heap.size = B := ⟨_, rfl⟩
  rw [hB] at hall
  have HB1 := Kp.mk hb1
  obtain ⟨c0, c1, c2, c3⟩ := hall W1 (Below.refl _ _)
  have HALL1 := Kp.mk hall
  try simp only [hB]
  clear hW1 hb1 hall hB
  have K1 : Kp (∀ d os, _) := ⟨fun d os => HAA.out (grow (redrawn W1 d) os) (HB1.out.trans ((below_regrown W1 d os).mono HB1.out.size))⟩
  have K2 : Kp (∀ d os, _) := ⟨fun d os => HCK.out (grow (redrawn W1 d) os) (HB1.out.trans ((below_regrown W1 d os).mono HB1.out.size))⟩
  have rg_c0 := fun d os => cell_regrown c0 d os
  have rg_c1 := fun d os => cell_regrown c1 d os
  have rg_c2 := fun d os => cell_regrown c2 d os
  have rg_c3 := fun d os => cell_regrown c3 d os
  clear c0 c1 c2 c3 HAA HCK
  refine wp_region_quiet_below (by kernel_rfl) (by kernel_rfl) ?_
  repeat (any_goals (first | go_big_quiet_step (first | (with_reducible exact Calls.regrown_of (K1.out _ _)) | (with_reducible exact Calls.regrown_of (K2.out _ _))) | quiet_step (first | (with_reducible exact Calls.regrown_of (K1.out _ _)) | (with_reducible exact Calls.regrown_of (K2.out _ _)))))
  refine wpQuiet_nil ?_
  intro _ hqw
  obtain ⟨⟨dq, osq⟩, hqv⟩ := hqw
  subst hqv
  obtain ⟨wq, hqwq⟩ : ∃ wq, grow (redrawn (W1) dq) osq = wq := ⟨_, rfl⟩
  have hbwq : Below (W1).heap.size (W1) wq := by rw [← hqwq]; exact below_regrown _ dq osq
  rw [hqwq]
  clear hqwq
  have HBQ := Kp.mk (HB1.out.trans (hbwq.mono HB1.out.size))
  have HALL : Kp (∀ w', Below wq.heap.size wq w' → w'.cell? ⟨B, 0, none⟩ = some (.int .i64 R) ∧ w'.cell? ⟨B, 1, none⟩ = some (.slice g M c) ∧ w'.cell? ⟨B, 2, none⟩ = some (.int .i64 x) ∧ w'.cell? ⟨B, 3, none⟩ = some (.int .i64 y)) := ⟨fun w' h => HALL1.out w' (hbwq.trans (h.mono hbwq.size))⟩
  clear hbwq rg_c0 rg_c1 rg_c2 rg_c3 K1 K2 HALL1
  by_cases hE : ER = 0
  · have HAM2 := Kp.mk (HAM.out hE)
    have HIF2 := Kp.mk (HIF.out hE)
    subst hE
    have HV : Kp (boolE 0 F = .tuple #[.bool F, .int .i64 0]) := ⟨rfl⟩
    clear HAM HIF
    go_wp2_with fail
    refine wp_region_noPanic ?_
    refine region_nm ?_
    intro ops Qp hops hQp
    have HQP : Kp (∀ c a d v w, Qp (.panic c) (Act.put a d v) w → Qp (.panic c) a w) := ⟨by subst hQp; intro c a d v w h; exact h⟩
    have HFIN : Kp (∀ (w' : World), Below wq.heap.size wq w' → Qp .normal { tmps := #[.agg #[.int .i64 R, .slice g M c, .int .i64 x, .int .i64 y], .slice gu nu cu, .pointer (some ⟨B, 0, none⟩), undef, .bool F, .int .i64 0, .int .i64 0, .agg #[.int .i64 R, .slice g M c, .int .i64 x, .int .i64 y], .agg #[.int .i64 R, .slice g M c, .int .i64 x, .int .i64 y], .slice gu nu cu, .bool P, .int .i64 0, .int .i64 0, .bool false, undef, .agg #[.int .i64 R, .slice g M c, .int .i64 x, .int .i64 y], .slice gu nu cu, .agg (ivs FA), .bool F], defers := [] } w') := by
      refine ⟨?_⟩
      intro w' hw 
      have HBW := Kp.mk (HBQ.out.trans (hw.mono HBQ.out.size))
      have HWB := Kp.mk hw
      clear HQP hops hw
      subst hQp
      refine NoPanic.normal ?_
      go_wp2
      go_ret2
      exact ⟨by rw [HV.out]; rfl, HBW.out⟩
    have S0_1_2_3 : Kp (∀ (w' : World), Below wq.heap.size wq w' → wpAnyH Try.prog .any ops Qp (fun w' => Below wq.heap.size wq w') 2 #[true, true, true, true, false, false] { tmps := #[.agg #[.int .i64 R, .slice g M c, .int .i64 x, .int .i64 y], .slice gu nu cu, .pointer (some ⟨B, 0, none⟩), undef, .bool false, .int .i64 0, .int .i64 0, .agg #[.int .i64 R, .slice g M c, .int .i64 x, .int .i64 y], .agg #[.int .i64 R, .slice g M c, .int .i64 x, .int .i64 y], .slice gu nu cu, .bool P, .int .i64 0, .int .i64 0, .bool false, undef, .agg #[.int .i64 R, .slice g M c, .int .i64 x, .int .i64 y], .slice gu nu cu, .agg (ivs FA), .bool F], defers := [] } w') := by
      refine ⟨?_⟩
      intro w' hw
      refine wpAnyH_take (i := 4) (oi := { dst := some 4, op := Go.Op.assign (Go.Operand.tmp 18), type := 4, pos := "flow.go:17", after := #[{ on := 3, ground := Go.Ground.data }, { on := 3, ground := Go.Ground.chain }, { on := 0, ground := Go.Ground.phase }, { on := 1, ground := Go.Ground.phase }, { on := 2, ground := Go.Ground.phase }, { on := 3, ground := Go.Ground.phase }], guard := none }) (v := .bool F) (by rw [hops]; kernel_rfl) (by rw [hops]; kernel_rfl) (by rw [hops]; kernel_rfl) (by rw [hops]; kernel_rfl) (fun c a w h => HQP.out c a _ _ w h) (Or.inl ⟨by rw [hops]; kernel_rfl, by intro w _; go_simp⟩) hw ?_
      simp only [Act.put, List.setIfInBounds_toArray, List.set_cons_zero, List.set_cons_succ]
      refine wpAnyH_take (i := 5) (oi := { dst := some 5, op := Go.Op.assign (Go.Operand.const (Go.Value.int Go.IntKind.i64 0)), type := 28, pos := "flow.go:17", after := #[{ on := 4, ground := Go.Ground.chain }, { on := 0, ground := Go.Ground.phase }, { on := 1, ground := Go.Ground.phase }, { on := 2, ground := Go.Ground.phase }, { on := 3, ground := Go.Ground.phase }, { on := 4, ground := Go.Ground.phase }], guard := none }) (v := .int .i64 0) (by rw [hops]; kernel_rfl) (by rw [hops]; kernel_rfl) (by rw [hops]; kernel_rfl) (by rw [hops]; kernel_rfl) (fun c a w h => HQP.out c a _ _ w h) (Or.inl ⟨by rw [hops]; kernel_rfl, by intro w _; go_simp⟩) hw ?_
      simp only [Act.put, List.setIfInBounds_toArray, List.set_cons_zero, List.set_cons_succ]
      refine wpAnyH_done (by rw [hops]; kernel_rfl) ?_ _
      exact HFIN.out w' hw 
    have S0_1_2 : Kp (∀ (w' : World), Below wq.heap.size wq w' → wpAnyH Try.prog .any ops Qp (fun w' => Below wq.heap.size wq w') 3 #[true, true, true, false, false, false] { tmps := #[.agg #[.int .i64 R, .slice g M c, .int .i64 x, .int .i64 y], .slice gu nu cu, .pointer (some ⟨B, 0, none⟩), undef, .bool false, .int .i64 0, .int .i64 0, .agg #[.int .i64 R, .slice g M c, .int .i64 x, .int .i64 y], .agg #[.int .i64 R, .slice g M c, .int .i64 x, .int .i64 y], .slice gu nu cu, .bool P, .int .i64 0, .int .i64 0, .bool false, undef, .agg #[.int .i64 R, .slice g M c, .int .i64 x, .int .i64 y], .slice gu nu cu, .agg (ivs FA), undef], defers := [] } w') := by
      refine ⟨?_⟩
      intro w' hw
      refine wpAnyH_ready (rs := [3]) (by rw [hops]; kernel_rfl) (by simp) ?_
      refine AllReadyH.cons (o := { dst := some 18, op := Go.Op.call { callee := Go.Callee.value (Go.Operand.func 69), args := #[Go.Operand.tmp 15, Go.Operand.tmp 17], argTypes := #[24, 83] }, type := 4, pos := "flow.go:17", after := #[{ on := 0, ground := Go.Ground.data }, { on := 2, ground := Go.Ground.data }, { on := 2, ground := Go.Ground.chain }], guard := none }) (by rw [hops]; kernel_rfl) (fun K hK => ?_) ?_
      · rw [if_pos (by rw [hops]; kernel_rfl)]
        go_simp
        refine (HIF2.out _ (HBQ.out.trans (hw.mono HBQ.out.size))).mono ?_
        rintro en w5 ⟨rfl, hb5⟩
        exact hK.out _ _ (hw.trans (hb5.mono hw.size)) (fun hwn => S0_1_2_3.out w5 hwn )
      exact AllReadyH.nil
    have S : Kp (∀ (w' : World), Below wq.heap.size wq w' → wpAnyH Try.prog .any ops Qp (fun w' => Below wq.heap.size wq w') 6 #[false, false, false, false, false, false] { tmps := #[.agg #[.int .i64 R, .slice g M c, .int .i64 x, .int .i64 y], .slice gu nu cu, .pointer (some ⟨B, 0, none⟩), undef, .bool false, .int .i64 0, .int .i64 0, .agg #[.int .i64 R, .slice g M c, .int .i64 x, .int .i64 y], .agg #[.int .i64 R, .slice g M c, .int .i64 x, .int .i64 y], .slice gu nu cu, .bool P, .int .i64 0, .int .i64 0, .bool false, undef, undef, undef, undef, undef], defers := [] } w') := by
      refine ⟨?_⟩
      intro w' hw
      refine wpAnyH_take (i := 0) (oi := { dst := some 15, op := Go.Op.load 24 (Go.Operand.tmp 2), type := 24, pos := "flow.go:17", after := #[], guard := none }) (v := .agg #[.int .i64 R, .slice g M c, .int .i64 x, .int .i64 y]) (by rw [hops]; kernel_rfl) (by rw [hops]; kernel_rfl) (by rw [hops]; kernel_rfl) (by rw [hops]; kernel_rfl) (fun c a w h => HQP.out c a _ _ w h) (Or.inl ⟨by rw [hops]; kernel_rfl, by intro w hwS; obtain ⟨q0, q1, q2, q3⟩ := HALL.out w hwS; go_simp⟩) hw ?_
      simp only [Act.put, List.setIfInBounds_toArray, List.set_cons_zero, List.set_cons_succ]
      refine wpAnyH_take (i := 1) (oi := { dst := some 16, op := Go.Op.move (Go.Operand.tmp 1), type := 25, pos := "flow.go:17", after := #[], guard := none }) (v := .slice gu nu cu) (by rw [hops]; kernel_rfl) (by rw [hops]; kernel_rfl) (by rw [hops]; kernel_rfl) (by rw [hops]; kernel_rfl) (fun c a w h => HQP.out c a _ _ w h) (Or.inl ⟨by rw [hops]; kernel_rfl, by intro w _; go_simp⟩) hw ?_
      simp only [Act.put, List.setIfInBounds_toArray, List.set_cons_zero, List.set_cons_succ]
      refine wpAnyH_ready (rs := [2]) (by rw [hops]; kernel_rfl) (by simp) ?_
      refine AllReadyH.cons (o := { dst := some 17, op := Go.Op.call { callee := Go.Callee.value (Go.Operand.func 70), args := #[Go.Operand.tmp 16], argTypes := #[25] }, type := 83, pos := "flow.go:17", after := #[{ on := 1, ground := Go.Ground.data }], guard := none }) (by rw [hops]; kernel_rfl) (fun K hK => ?_) ?_
      · rw [if_pos (by rw [hops]; kernel_rfl)]
        go_simp
        refine (HAM2.out _ (HBQ.out.trans (hw.mono HBQ.out.size))).mono ?_
        rintro en w5 ⟨rfl, hb5⟩
        exact hK.out _ _ (hw.trans (hb5.mono hw.size)) (fun hwn => S0_1_2.out w5 hwn )
      exact AllReadyH.nil
    have hsz : ops.size = 6 := by rw [hops]; rfl
    refine wp_region_held_drew (S := fun w' => Below wq.heap.size wq w') (by kernel_rfl) (Below.drew (Below.refl _ _)) (fun hw0 => ?_)
    rw [hsz]
    exact S.out _ hw0
  · have i1 : (ER == (0 : Int)) = false := by simp [hE]
    have i2 : (ER != (0 : Int)) = true := by simp [hE]
    have HV : Kp (boolE ER F = .tuple #[.bool false, .int .i64 ER]) := ⟨by unfold boolE; rw [if_neg hE]⟩
    clear hE HAM HIF
    go_wp2
    go_ret2
    exact ⟨by rw [HV.out]; rfl, HBQ.out⟩
theorem Flow_any (R x y : Int) (v u : Value) (ds : List Dr) (l : List Int) (w : World) (hv : DS w v ds) (hl : ds.length ≤ 9223372036854775807) (hu : IS w u l) (hsl : l.length ≤ 9223372036854775807) :
    Calls Try.prog 25 #[.agg #[.int .i64 R, v, .int .i64 x, .int .i64 y], u] w fun e w' => e = .returned (boolE (amtE R ds x y l) (flowB ds l x y)) ∧ Below w.heap.size w w' := by
  obtain ⟨g, c, rfl⟩ := hv.shape
  obtain ⟨gu, cu, rfl⟩ := hu.shape
  refine Flow_st R x y g ds.length c gu l.length cu (amtB ds.length l) (flowB ds l x y) (amtE R ds x y l) (amtL l) w
    ⟨fun W hW => areAmounts_any R x y g ds.length c _ l W hl (hu.below hW) hsl⟩ ⟨fun W hW => checked_any R x y _ ds _ _ W (hv.below hW) hl⟩
    ⟨fun h W hW => amountsOf_any _ l W (hu.below hW) (by have := (amtE_ok h).1.len; have := (amtE_ok h).2.1; omega)⟩ ⟨fun h W hW => ?_⟩
  obtain ⟨hk, h1, h2⟩ := amtE_ok h
  have := isFlow_any R x.toNat y.toNat _ ds (amtL l) W (hv.below hW) hk.len (amtL_len (by have := hk.len; omega)) (fun k _ => amtL_bd h2 k) (hk.at_.inn (by have := hk.rooms; omega)) (fun d hd => (hk.doors d hd).2) (lt_4096 hk.inf.2 hk.rooms.2) (lt_4096 hk.kept.2 hk.rooms.2)
  rwa [Int.toNat_of_nonneg hk.inf.1, Int.toNat_of_nonneg hk.kept.1] at this
end Go.Proofs.Ythkamfjjfkpekaa.Pe
