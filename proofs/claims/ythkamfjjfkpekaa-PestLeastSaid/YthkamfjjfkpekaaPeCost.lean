/-
  WALKS (layer 8, pest): Cost of the program.
-/
import Derived.Test.YthkamfjjfkpekaaPeCuts
namespace Go.Proofs.Ythkamfjjfkpekaa.Pe
open Go Go.RowKit Go.Proofs Go.Sort

theorem ascF_le {l : List Int} {n : Nat} (h : ascF l n = true) {k : Nat} (hk : k ≤ n) : ascF l k = true := by
  cases e : ascF l k with
  | true => rfl
  | false => rw [ascF_no e hk] at h; cases h
theorem asc_ge {l : List Int} {lo : Int} (h : ascF l l.length = true) (hlo : ∀ x ∈ l, lo ≤ x) : ∀ k : Nat, k < l.length → lo + (k : Int) ≤ l.getD k 0
  | 0, hk => by
    have := hlo (l.getD 0 0) (by rw [List.getD_eq_getElem?_getD, List.getElem?_eq_getElem hk]; exact List.getElem_mem _)
    simpa using this
  | k + 1, hk => by
    have ih := asc_ge h hlo k (by omega)
    have h2 := ascF_le h (k := k + 1 + 1) (by omega)
    unfold ascF at h2
    simp only [Bool.and_eq_true, Bool.or_eq_true, beq_iff_eq, decide_eq_true_eq, Nat.add_sub_cancel] at h2
    omega
theorem allIn_iff {lo hi : Int} {l : List Int} : allIn lo hi l = true ↔ ∀ x ∈ l, lo ≤ x ∧ x ≤ hi := by
  unfold allIn
  rw [List.all_eq_true]
  simp
/-- Numbers that ascend within bounds are not more than these. -/
theorem asc_len {l : List Int} {M : Nat} (h : ascF l l.length = true) (hi : allIn 0 ((M : Int) - 1) l = true) : l.length ≤ M := by
  by_cases h0 : l.length = 0
  · omega
  · have h1 := asc_ge h (fun x hx => (allIn_iff.1 hi x hx).1) (l.length - 1) (by omega)
    have h2 := (allIn_iff.1 hi (l.getD (l.length - 1) 0) (by rw [List.getD_eq_getElem?_getD, List.getElem?_eq_getElem (by omega)]; exact List.getElem_mem _)).2
    omega
/-- What the first doors cost. -/
def costF (ds : List Dr) (sl : List Int) : Nat → Int
  | 0 => 0
  | k + 1 => costF ds sl k + (ds.getD (sl.getD k 0).toNat default).c
theorem costF_bd {ds : List Dr} {sl : List Int} (hd : ∀ d ∈ ds, 0 ≤ d.c ∧ d.c ≤ 1000) : ∀ k : Nat, 0 ≤ costF ds sl k ∧ costF ds sl k ≤ 1000 * k
  | 0 => by simp [costF]
  | k + 1 => by
    have ih := costF_bd hd k (sl := sl)
    unfold costF
    have : 0 ≤ (ds.getD (sl.getD k 0).toNat default).c ∧ (ds.getD (sl.getD k 0).toNat default).c ≤ 1000 := by
      rw [List.getD_eq_getElem?_getD]
      cases h : ds[(sl.getD k 0).toNat]? with
      | none => exact ⟨Int.le_refl 0, (by decide : (0 : Int) ≤ 1000)⟩
      | some d => exact hd d (List.mem_of_getElem? h)
    omega
set_option maxRecDepth 100000 in
set_option maxHeartbeats 2000000 in
theorem Cost_st (R x y : Int) (g : Option Addr) (M c : Nat) (gu : Option Addr) (nu cu : Nat) (P Q : Bool) (ER : Int) (ds : List Dr) (sl : List Int) (w : World) (hM : ds.length = M) (hN : sl.length = nu) (hv : DS w (.slice g M c) ds) (hu : IS w (.slice gu nu cu) sl)
    (HAD : Kp (∀ W, Below w.heap.size w W → Calls Try.prog 49 #[.agg #[.int .i64 R, .slice g M c, .int .i64 x, .int .i64 y], .slice gu nu cu] W fun e w' => e = .returned (.bool P) ∧ Below W.heap.size W w'))
    (HAS : Kp (∀ W, Below w.heap.size w W → Calls Try.prog 50 #[.slice gu nu cu] W fun e w' => e = .returned (.bool Q) ∧ Below W.heap.size W w'))
    (HCK : Kp (∀ W, Below w.heap.size w W → Calls Try.prog 48 #[.agg #[.int .i64 R, .slice g M c, .int .i64 x, .int .i64 y], .bool P, .bool Q] W fun e w' => e = .returned (.int .i64 ER) ∧ Below W.heap.size W w'))
    (HOK : Kp (ER = 0 → M ≤ 40 ∧ nu ≤ 40 ∧ (∀ z ∈ sl, 0 ≤ z ∧ z ≤ (M : Int) - 1) ∧ ∀ k, 0 ≤ costF ds sl k ∧ costF ds sl k ≤ 1000 * k)) :
    Calls Try.prog 23 #[.agg #[.int .i64 R, .slice g M c, .int .i64 x, .int .i64 y], .slice gu nu cu] w fun e w' => e = .returned (numE ER (costF ds sl nu)) ∧ Below w.heap.size w w' := by
  have HDS := Kp.mk hv
  have HIS := Kp.mk hu
  have HM := Kp.mk hM
  have HN := Kp.mk hN
  clear hv hu hM hN
  go_enter Try.func23, Try.ntmps23
  go_wp2_with fail
  obtain ⟨W1, hW1⟩ : ∃ W, w.alloc (.cells #[.int .i64 R, .slice g M c, .int .i64 x, .int .i64 y] 24) = W := ⟨_, rfl⟩
  obtain ⟨hb1, hall⟩ := houseBox hW1
  try rw [hW1]
  obtain ⟨B, hB⟩ : ∃ B, w.heap.size = B := ⟨_, rfl⟩
  rw [hB] at hall
  have HB1 := Kp.mk hb1
  obtain ⟨c0, c1, c2, c3⟩ := hall W1 (Below.refl _ _)
  have HALL1 := Kp.mk hall
  try simp only [hB]
  clear hW1 hb1 hall hB
  have K1 : Kp (∀ d os, _) := ⟨fun d os => HAD.out (grow (redrawn W1 d) os) (HB1.out.trans ((below_regrown W1 d os).mono HB1.out.size))⟩
  have K2 : Kp (∀ d os, _) := ⟨fun d os => HAS.out (grow (redrawn W1 d) os) (HB1.out.trans ((below_regrown W1 d os).mono HB1.out.size))⟩
  have K3 : Kp (∀ d os, _) := ⟨fun d os => HCK.out (grow (redrawn W1 d) os) (HB1.out.trans ((below_regrown W1 d os).mono HB1.out.size))⟩
  have rg_c0 := fun d os => cell_regrown c0 d os
  have rg_c1 := fun d os => cell_regrown c1 d os
  have rg_c2 := fun d os => cell_regrown c2 d os
  have rg_c3 := fun d os => cell_regrown c3 d os
  clear c0 c1 c2 c3 HAD HAS HCK
  refine wp_region_quiet_below (by kernel_rfl) (by kernel_rfl) ?_
  repeat (any_goals (first | go_big_quiet_step (first | (with_reducible exact Calls.regrown_of (K1.out _ _)) | (with_reducible exact Calls.regrown_of (K2.out _ _)) | (with_reducible exact Calls.regrown_of (K3.out _ _))) | quiet_step (first | (with_reducible exact Calls.regrown_of (K1.out _ _)) | (with_reducible exact Calls.regrown_of (K2.out _ _)) | (with_reducible exact Calls.regrown_of (K3.out _ _)))))
  refine wpQuiet_nil ?_
  intro _ hqw
  obtain ⟨⟨dq, osq⟩, hqv⟩ := hqw
  subst hqv
  obtain ⟨wq, hqwq⟩ : ∃ wq, grow (redrawn (W1) dq) osq = wq := ⟨_, rfl⟩
  have hbwq : Below (W1).heap.size (W1) wq := by rw [← hqwq]; exact below_regrown _ dq osq
  rw [hqwq]
  clear hqwq
  have HBQ := Kp.mk (HB1.out.trans (hbwq.mono HB1.out.size))
  have HC1 : Kp (wq.cell? ⟨B, 1, none⟩ = some (.slice g M c)) := ⟨(HALL1.out wq hbwq).2.1⟩
  clear hbwq rg_c0 rg_c1 rg_c2 rg_c3 K1 K2 K3 HALL1
  by_cases hE : ER = 0
  · obtain ⟨m1, m2, m3, m4⟩ := HOK.out hE
    have HZI := Kp.mk m3
    have HCO := Kp.mk m4
    clear HOK m3 m4
    subst hE
    have HV : Kp (numE 0 (costF ds sl nu) = .tuple #[.int .i64 (costF ds sl nu), .int .i64 0]) := ⟨rfl⟩
    go_wp2_with fail
    go_loop [7, 22] (fun a i => ∃ k : Nat, k ≤ nu ∧ i = .int .i64 (k : Nat) ∧ a = .int .i64 (costF ds sl k)) (fun _ i => nu - (intOf i).toNat)
    case atStart => exact ⟨0, Nat.zero_le _, rfl, rfl⟩
    case round =>
      obtain ⟨k, hk, rfl, rfl⟩ := hrel
      by_cases hlt : k < nu
      · obtain ⟨z, hz⟩ : ∃ z, sl[k]? = some z := ⟨_, List.getElem?_eq_getElem (by rw [HN.out]; exact hlt)⟩
        have hzd : sl.getD k 0 = z := by rw [List.getD_eq_getElem?_getD, hz]; rfl
        obtain ⟨z0, z1⟩ := HZI.out z (List.mem_of_getElem? hz)
        obtain ⟨j, rfl⟩ := Int.eq_ofNat_of_zero_le z0
        obtain ⟨d, hd⟩ : ∃ d, ds[j]? = some d := ⟨_, List.getElem?_eq_getElem (by rw [HM.out]; omega)⟩
        have hdd : ds.getD j default = d := by rw [List.getD_eq_getElem?_getD, hd]; rfl
        have HST : Kp (costF ds sl (k + 1) = costF ds sl k + d.c) := ⟨by
          show costF ds sl k + (ds.getD (sl.getD k 0).toNat default).c = _
          rw [hzd, Int.toNat_natCast, hdd]⟩
        have e1 : IntKind.i64.wrap (costF ds sl k + d.c) = costF ds sl k + d.c := IntWalk.i64_in _ (by
          have h1 := HCO.out (k + 1)
          have h2 := HST.out
          omega)
        obtain ⟨ga, ca, e', -, hic⟩ := HIS.out.below HBQ.out
        obtain ⟨b, o, hg, hcell⟩ := hic k _ hz
        simp only [Value.slice.injEq] at e'
        obtain ⟨rfl, -, -⟩ := e'
        subst hg
        obtain ⟨gb, cb, e', hid⟩ := HDS.out.below HBQ.out
        obtain ⟨b2, o2, hg, h1, h2, h3⟩ := hid j d hd
        simp only [Value.slice.injEq] at e'
        obtain ⟨rfl, -, -⟩ := e'
        subst hg
        have cB := HC1.out
        obtain ⟨da, db, dc⟩ := d
        obtain ⟨T, hT⟩ : ∃ T, costF ds sl k = T := ⟨_, rfl⟩
        simp only at h1 h2 h3 e1 HST
        rw [hT] at HST e1 ⊢
        have o1 : (k : Int) < (nu : Int) := by omega
        have o2' : (j : Int) < (M : Int) := by omega
        clear hz hzd hd hdd z0 z1 hic hid hT
        go_wp2
        go_round
        case rel => exact ⟨k + 1, by omega, by go_num, by rw [HST.out]⟩
        case measure => simp [intOf]; omega
      · have hkn : k = nu := by omega
        subst hkn
        have o1 : ¬ (k : Int) < (k : Int) := by omega
        go_wp2
        go_ret2
        exact ⟨by rw [HV.out]; rfl, HBQ.out⟩
  · have i1 : (ER == (0 : Int)) = false := by simp [hE]
    have i2 : (ER != (0 : Int)) = true := by simp [hE]
    have HE := Kp.mk hE
    clear hE HOK
    go_wp2
    go_ret2
    exact ⟨by unfold numE; rw [if_neg HE.out]; rfl, HBQ.out⟩
theorem Cost_any (R x y : Int) (v u : Value) (ds : List Dr) (sl : List Int) (w : World) (hv : DS w v ds) (hl : ds.length ≤ 9223372036854775807) (hu : IS w u sl) (hsl : sl.length ≤ 9223372036854775807) :
    Calls Try.prog 23 #[.agg #[.int .i64 R, v, .int .i64 x, .int .i64 y], u] w fun e w' => e = .returned (numE (askE R ds x y sl) (costF ds sl sl.length)) ∧ Below w.heap.size w w' := by
  obtain ⟨g, c, rfl⟩ := hv.shape
  obtain ⟨gu, cu, rfl⟩ := hu.shape
  refine Cost_st R x y g ds.length c gu sl.length cu (allIn 0 ((ds.length : Int) - 1) sl) (ascF sl sl.length) (askE R ds x y sl) ds sl w rfl rfl hv hu
    ⟨fun W hW => areDoors_any R x y g ds.length c _ sl W hl (hu.below hW) hsl⟩ ⟨fun W hW => isAscending_any _ sl W (hu.below hW) hsl⟩ ⟨fun W hW => checked_any R x y _ ds _ _ W (hv.below hW) hl⟩ ⟨fun h => ?_⟩
  obtain ⟨h1, h2, h3⟩ := chkE_zero h
  have hk := valB_ok h1
  have := asc_len h3 h2
  exact ⟨hk.len, by have := hk.len; omega, allIn_iff.1 h2, costF_bd fun d hd => (hk.doors d hd).2⟩
end Go.Proofs.Ythkamfjjfkpekaa.Pe
