/-
  WALKS (layer 8, pest): reached, Comes, Spread of the program.
-/
import Derived.Test.YthkamfjjfkpekaaPeOpen
import Derived.Test.YthkamfjjfkpekaaPeChk
import Derived.Test.YthkamfjjfkpekaaPeAsk
import Derived.Test.YthkamfjjfkpekaaPeAsc
namespace Go.Proofs.Ythkamfjjfkpekaa.Pe
open Go Go.RowKit Go.Proofs Go.Sort

theorem reached_any (R : Nat) (v : Value) (ds : List Dr) (S : Nat) (w : World) (hv : DS w v ds) (hl : ds.length ≤ 1000) (hR : 1 ≤ R) (hR2 : R ≤ 12) (hd : DoorsAt R ds) (hS : S < 2 ^ R) :
    Calls Try.prog 57 #[v, .int .i64 (S : Nat)] w fun e w' => e = .returned (.int .i64 (spreadF ds S 12 : Nat)) ∧ Below w.heap.size w w' := by
  have HO : Kp (Calls Try.prog 52 #[.int .i64 12, v, .int .i64 (S : Nat)] w fun e w' => e = .returned (.int .i64 (spreadF ds S 12 : Nat)) ∧ Below w.heap.size w w') := ⟨on_any R 12 v ds S w hv hl hR hR2 hd hS⟩
  obtain ⟨g, c, rfl⟩ := hv.shape
  clear hv hl hd hS hR hR2
  go_enter Try.func57, Try.ntmps57
  go_wp2_with fail
  refine (HO.out).mono ?_
  rintro en w1 ⟨rfl, hb1⟩
  go_wp2
  go_ret
  exact ⟨rfl, hb1⟩
/-- A number and an error. -/
def numE (E T : Int) : Value := if E = 0 then .tuple #[.int .i64 T, .int .i64 0] else .tuple #[.int .i64 0, .int .i64 E]
set_option maxRecDepth 100000 in
set_option maxHeartbeats 2000000 in
theorem Comes_st (R x y : Int) (g : Option Addr) (M c : Nat) (gu : Option Addr) (nu cu : Nat) (P Q : Bool) (ER T : Int) (ol : List Dr) (w : World)
    (HAD : Kp (∀ W, Below w.heap.size w W → Calls Try.prog 49 #[.agg #[.int .i64 R, .slice g M c, .int .i64 x, .int .i64 y], .slice gu nu cu] W fun e w' => e = .returned (.bool P) ∧ Below W.heap.size W w'))
    (HAS : Kp (∀ W, Below w.heap.size w W → Calls Try.prog 50 #[.slice gu nu cu] W fun e w' => e = .returned (.bool Q) ∧ Below W.heap.size W w'))
    (HCK : Kp (∀ W, Below w.heap.size w W → Calls Try.prog 48 #[.agg #[.int .i64 R, .slice g M c, .int .i64 x, .int .i64 y], .bool P, .bool Q] W fun e w' => e = .returned (.int .i64 ER) ∧ Below W.heap.size W w'))
    (HOP : Kp (ER = 0 → ∀ W, Below w.heap.size w W → Calls Try.prog 53 #[.agg #[.int .i64 R, .slice g M c, .int .i64 x, .int .i64 y], .slice gu nu cu] W fun e w' => ∃ r, e = .returned r ∧ DS w' r ol ∧ Below W.heap.size W w'))
    (HRE : Kp (ER = 0 → ∀ W r, DS W r ol → Calls Try.prog 57 #[r, .int .i64 x] W fun e w' => e = .returned (.int .i64 T) ∧ Below W.heap.size W w')) :
    Calls Try.prog 15 #[.agg #[.int .i64 R, .slice g M c, .int .i64 x, .int .i64 y], .slice gu nu cu] w fun e w' => e = .returned (numE ER T) ∧ Below w.heap.size w w' := by
  go_enter Try.func15, Try.ntmps15
  go_wp2_with fail
  obtain ⟨W1, hW1⟩ : ∃ W, w.alloc (.cells #[.int .i64 R, .slice g M c, .int .i64 x, .int .i64 y] 24) = W := ⟨_, rfl⟩
  obtain ⟨hb1, hall⟩ := houseBox hW1
  try rw [hW1]
  obtain ⟨B, hB⟩ : ∃ B, w.heap.size = B := ⟨_, rfl⟩
  rw [hB] at hall
  have HB1 := Kp.mk hb1
  obtain ⟨c0, c1, c2, c3⟩ := hall W1 (Below.refl _ _)
  have HALL1 := Kp.mk hall
  try simp only [hB]
  clear hW1 hb1 hall hB
  have K1 : Kp (∀ d os, _) := ⟨fun d os => HAD.out (grow (redrawn W1 d) os) (HB1.out.trans ((below_regrown W1 d os).mono HB1.out.size))⟩
  have K2 : Kp (∀ d os, _) := ⟨fun d os => HAS.out (grow (redrawn W1 d) os) (HB1.out.trans ((below_regrown W1 d os).mono HB1.out.size))⟩
  have K3 : Kp (∀ d os, _) := ⟨fun d os => HCK.out (grow (redrawn W1 d) os) (HB1.out.trans ((below_regrown W1 d os).mono HB1.out.size))⟩
  have rg_c0 := fun d os => cell_regrown c0 d os
  have rg_c1 := fun d os => cell_regrown c1 d os
  have rg_c2 := fun d os => cell_regrown c2 d os
  have rg_c3 := fun d os => cell_regrown c3 d os
  clear c0 c1 c2 c3 HAD HAS HCK
  refine wp_region_quiet_below (by kernel_rfl) (by kernel_rfl) ?_
  repeat (any_goals (first | go_big_quiet_step (first | (with_reducible exact Calls.regrown_of (K1.out _ _)) | (with_reducible exact Calls.regrown_of (K2.out _ _)) | (with_reducible exact Calls.regrown_of (K3.out _ _))) | quiet_step (first | (with_reducible exact Calls.regrown_of (K1.out _ _)) | (with_reducible exact Calls.regrown_of (K2.out _ _)) | (with_reducible exact Calls.regrown_of (K3.out _ _)))))
  refine wpQuiet_nil ?_
  intro _ hqw
  obtain ⟨⟨dq, osq⟩, hqv⟩ := hqw
  subst hqv
  obtain ⟨wq, hqwq⟩ : ∃ wq, grow (redrawn (W1) dq) osq = wq := ⟨_, rfl⟩
  have hbwq : Below (W1).heap.size (W1) wq := by rw [← hqwq]; exact below_regrown _ dq osq
  rw [hqwq]
  clear hqwq
  have HALL : Kp (∀ w', Below wq.heap.size wq w' → w'.cell? ⟨B, 0, none⟩ = some (.int .i64 R) ∧ w'.cell? ⟨B, 1, none⟩ = some (.slice g M c) ∧ w'.cell? ⟨B, 2, none⟩ = some (.int .i64 x) ∧ w'.cell? ⟨B, 3, none⟩ = some (.int .i64 y)) := ⟨fun w' h => HALL1.out w' (hbwq.trans (h.mono hbwq.size))⟩
  have HBQ := Kp.mk (HB1.out.trans (hbwq.mono HB1.out.size))
  clear hbwq rg_c0 rg_c1 rg_c2 rg_c3 K1 K2 K3 HALL1
  by_cases hE : ER = 0
  · subst hE
    go_wp2_with fail
    refine wp_region_noPanic ?_
    refine region_nm ?_
    intro ops Qp hops hQp
    have HQP : Kp (∀ c a d v w, Qp (.panic c) (Act.put a d v) w → Qp (.panic c) a w) := ⟨by subst hQp; intro c a d v w h; exact h⟩
    have HFIN : Kp (∀ (w' : World) (r : Value), Below wq.heap.size wq w' → (DS w' r ol) → Qp .normal { tmps := #[.agg #[.int .i64 R, .slice g M c, .int .i64 x, .int .i64 y], .slice gu nu cu, .pointer (some ⟨B, 0, none⟩), undef, .int .i64 T, .int .i64 0, .int .i64 0, .agg #[.int .i64 R, .slice g M c, .int .i64 x, .int .i64 y], .agg #[.int .i64 R, .slice g M c, .int .i64 x, .int .i64 y], .slice gu nu cu, .bool P, .slice gu nu cu, .bool Q, .int .i64 0, .int .i64 0, .bool false, undef, .agg #[.int .i64 R, .slice g M c, .int .i64 x, .int .i64 y], .slice gu nu cu, r, .pointer (some ⟨B, 2, none⟩), .int .i64 x, .int .i64 T], defers := [] } w') := by
      refine ⟨?_⟩
      intro w' r hw hr
      have HBW := Kp.mk (HBQ.out.trans (hw.mono HBQ.out.size))
      clear HQP hops hw
      subst hQp
      refine NoPanic.normal ?_
      go_wp2
      go_ret2
      exact ⟨by unfold numE; rw [if_pos rfl]; rfl, HBW.out⟩
    have S0_1_2_3_4_5 : Kp (∀ (w' : World) (r : Value), Below wq.heap.size wq w' → (DS w' r ol) → wpAnyH Try.prog .any ops Qp (fun w' => Below wq.heap.size wq w') 2 #[true, true, true, true, true, true, false, false] { tmps := #[.agg #[.int .i64 R, .slice g M c, .int .i64 x, .int .i64 y], .slice gu nu cu, .pointer (some ⟨B, 0, none⟩), undef, .int .i64 0, .int .i64 0, .int .i64 0, .agg #[.int .i64 R, .slice g M c, .int .i64 x, .int .i64 y], .agg #[.int .i64 R, .slice g M c, .int .i64 x, .int .i64 y], .slice gu nu cu, .bool P, .slice gu nu cu, .bool Q, .int .i64 0, .int .i64 0, .bool false, undef, .agg #[.int .i64 R, .slice g M c, .int .i64 x, .int .i64 y], .slice gu nu cu, r, .pointer (some ⟨B, 2, none⟩), .int .i64 x, .int .i64 T], defers := [] } w') := by
      refine ⟨?_⟩
      intro w' r hw hr
      refine wpAnyH_take (i := 6) (oi := { dst := some 4, op := Go.Op.assign (Go.Operand.tmp 22), type := 3, pos := "spread.go:24", after := #[{ on := 5, ground := Go.Ground.data }, { on := 5, ground := Go.Ground.chain }, { on := 0, ground := Go.Ground.phase }, { on := 1, ground := Go.Ground.phase }, { on := 2, ground := Go.Ground.phase }, { on := 3, ground := Go.Ground.phase }, { on := 4, ground := Go.Ground.phase }, { on := 5, ground := Go.Ground.phase }], guard := none }) (v := .int .i64 T) (by rw [hops]; kernel_rfl) (by rw [hops]; kernel_rfl) (by rw [hops]; kernel_rfl) (by rw [hops]; kernel_rfl) (fun c a w h => HQP.out c a _ _ w h) (Or.inl ⟨by rw [hops]; kernel_rfl, by intro w _; go_simp⟩) hw ?_
      simp only [Act.put, List.setIfInBounds_toArray, List.set_cons_zero, List.set_cons_succ]
      refine wpAnyH_take (i := 7) (oi := { dst := some 5, op := Go.Op.assign (Go.Operand.const (Go.Value.int Go.IntKind.i64 0)), type := 28, pos := "spread.go:24", after := #[{ on := 6, ground := Go.Ground.chain }, { on := 0, ground := Go.Ground.phase }, { on := 1, ground := Go.Ground.phase }, { on := 2, ground := Go.Ground.phase }, { on := 3, ground := Go.Ground.phase }, { on := 4, ground := Go.Ground.phase }, { on := 5, ground := Go.Ground.phase }, { on := 6, ground := Go.Ground.phase }], guard := none }) (v := .int .i64 0) (by rw [hops]; kernel_rfl) (by rw [hops]; kernel_rfl) (by rw [hops]; kernel_rfl) (by rw [hops]; kernel_rfl) (fun c a w h => HQP.out c a _ _ w h) (Or.inl ⟨by rw [hops]; kernel_rfl, by intro w _; go_simp⟩) hw ?_
      simp only [Act.put, List.setIfInBounds_toArray, List.set_cons_zero, List.set_cons_succ]
      refine wpAnyH_done (by rw [hops]; kernel_rfl) ?_ _
      exact HFIN.out w' r hw hr
    have S0_1_2_3_4 : Kp (∀ (w' : World) (r : Value), Below wq.heap.size wq w' → (DS w' r ol) → wpAnyH Try.prog .any ops Qp (fun w' => Below wq.heap.size wq w') 3 #[true, true, true, true, true, false, false, false] { tmps := #[.agg #[.int .i64 R, .slice g M c, .int .i64 x, .int .i64 y], .slice gu nu cu, .pointer (some ⟨B, 0, none⟩), undef, .int .i64 0, .int .i64 0, .int .i64 0, .agg #[.int .i64 R, .slice g M c, .int .i64 x, .int .i64 y], .agg #[.int .i64 R, .slice g M c, .int .i64 x, .int .i64 y], .slice gu nu cu, .bool P, .slice gu nu cu, .bool Q, .int .i64 0, .int .i64 0, .bool false, undef, .agg #[.int .i64 R, .slice g M c, .int .i64 x, .int .i64 y], .slice gu nu cu, r, .pointer (some ⟨B, 2, none⟩), .int .i64 x, undef], defers := [] } w') := by
      refine ⟨?_⟩
      intro w' r hw hr
      refine wpAnyH_ready (rs := [5]) (by rw [hops]; kernel_rfl) (by simp) ?_
      refine AllReadyH.cons (o := { dst := some 22, op := Go.Op.call { callee := Go.Callee.value (Go.Operand.func 57), args := #[Go.Operand.tmp 19, Go.Operand.tmp 21], argTypes := #[22, 3] }, type := 3, pos := "spread.go:24", after := #[{ on := 2, ground := Go.Ground.data }, { on := 4, ground := Go.Ground.data }, { on := 2, ground := Go.Ground.chain }], guard := none }) (by rw [hops]; kernel_rfl) (fun K hK => ?_) ?_
      · rw [if_pos (by rw [hops]; kernel_rfl)]
        go_simp
        refine (HRE.out (by simp) _ _ hr).mono ?_
        rintro en w5 ⟨rfl, hb5⟩
        exact hK.out _ _ (hw.trans (hb5.mono hw.size)) (fun hwn => S0_1_2_3_4_5.out w5 r hwn (hr.below hb5) )
      exact AllReadyH.nil
    have S : Kp (∀ (w' : World), Below wq.heap.size wq w' → wpAnyH Try.prog .any ops Qp (fun w' => Below wq.heap.size wq w') 8 #[false, false, false, false, false, false, false, false] { tmps := #[.agg #[.int .i64 R, .slice g M c, .int .i64 x, .int .i64 y], .slice gu nu cu, .pointer (some ⟨B, 0, none⟩), undef, .int .i64 0, .int .i64 0, .int .i64 0, .agg #[.int .i64 R, .slice g M c, .int .i64 x, .int .i64 y], .agg #[.int .i64 R, .slice g M c, .int .i64 x, .int .i64 y], .slice gu nu cu, .bool P, .slice gu nu cu, .bool Q, .int .i64 0, .int .i64 0, .bool false, undef, undef, undef, undef, undef, undef, undef], defers := [] } w') := by
      refine ⟨?_⟩
      intro w' hw
      refine wpAnyH_take (i := 0) (oi := { dst := some 17, op := Go.Op.load 24 (Go.Operand.tmp 2), type := 24, pos := "spread.go:24", after := #[], guard := none }) (v := .agg #[.int .i64 R, .slice g M c, .int .i64 x, .int .i64 y]) (by rw [hops]; kernel_rfl) (by rw [hops]; kernel_rfl) (by rw [hops]; kernel_rfl) (by rw [hops]; kernel_rfl) (fun c a w h => HQP.out c a _ _ w h) (Or.inl ⟨by rw [hops]; kernel_rfl, by intro w hwS; obtain ⟨q0, q1, q2, q3⟩ := HALL.out w hwS; go_simp⟩) hw ?_
      simp only [Act.put, List.setIfInBounds_toArray, List.set_cons_zero, List.set_cons_succ]
      refine wpAnyH_take (i := 1) (oi := { dst := some 18, op := Go.Op.move (Go.Operand.tmp 1), type := 25, pos := "spread.go:24", after := #[], guard := none }) (v := .slice gu nu cu) (by rw [hops]; kernel_rfl) (by rw [hops]; kernel_rfl) (by rw [hops]; kernel_rfl) (by rw [hops]; kernel_rfl) (fun c a w h => HQP.out c a _ _ w h) (Or.inl ⟨by rw [hops]; kernel_rfl, by intro w _; go_simp⟩) hw ?_
      simp only [Act.put, List.setIfInBounds_toArray, List.set_cons_zero, List.set_cons_succ]
      refine wpAnyH_take (i := 3) (oi := { dst := some 20, op := Go.Op.fieldAddr 24 (Go.Operand.tmp 2) 2, type := 0, pos := "spread.go:24", after := #[], guard := none }) (v := .pointer (some ⟨B, 2, none⟩)) (by rw [hops]; kernel_rfl) (by rw [hops]; kernel_rfl) (by rw [hops]; kernel_rfl) (by rw [hops]; kernel_rfl) (fun c a w h => HQP.out c a _ _ w h) (Or.inl ⟨by rw [hops]; kernel_rfl, by intro w _; go_simp⟩) hw ?_
      simp only [Act.put, List.setIfInBounds_toArray, List.set_cons_zero, List.set_cons_succ]
      refine wpAnyH_take (i := 4) (oi := { dst := some 21, op := Go.Op.load 3 (Go.Operand.tmp 20), type := 3, pos := "spread.go:24", after := #[{ on := 3, ground := Go.Ground.data }], guard := none }) (v := .int .i64 x) (by rw [hops]; kernel_rfl) (by rw [hops]; kernel_rfl) (by rw [hops]; kernel_rfl) (by rw [hops]; kernel_rfl) (fun c a w h => HQP.out c a _ _ w h) (Or.inl ⟨by rw [hops]; kernel_rfl, by intro w hwS; obtain ⟨q0, q1, q2, q3⟩ := HALL.out w hwS; go_simp⟩) hw ?_
      simp only [Act.put, List.setIfInBounds_toArray, List.set_cons_zero, List.set_cons_succ]
      refine wpAnyH_ready (rs := [2]) (by rw [hops]; kernel_rfl) (by simp) ?_
      refine AllReadyH.cons (o := { dst := some 19, op := Go.Op.call { callee := Go.Callee.value (Go.Operand.func 53), args := #[Go.Operand.tmp 17, Go.Operand.tmp 18], argTypes := #[24, 25] }, type := 22, pos := "spread.go:24", after := #[{ on := 0, ground := Go.Ground.data }, { on := 1, ground := Go.Ground.data }], guard := none }) (by rw [hops]; kernel_rfl) (fun K hK => ?_) ?_
      · rw [if_pos (by rw [hops]; kernel_rfl)]
        go_simp
        refine (HOP.out (by simp) _ (HBQ.out.trans (hw.mono HBQ.out.size))).mono ?_
        rintro en w5 ⟨r, rfl, hr, hb5⟩
        exact hK.out _ _ (hw.trans (hb5.mono hw.size)) (fun hwn => S0_1_2_3_4.out w5 r hwn hr )
      exact AllReadyH.nil
    have hsz : ops.size = 8 := by rw [hops]; rfl
    refine wp_region_held_drew (S := fun w' => Below wq.heap.size wq w') (by kernel_rfl) (Below.drew (Below.refl _ _)) (fun hw0 => ?_)
    rw [hsz]
    exact S.out _ hw0
  · have i1 : (ER == (0 : Int)) = false := by simp [hE]
    have i2 : (ER != (0 : Int)) = true := by simp [hE]
    have HE := Kp.mk hE
    clear hE
    go_wp2
    go_ret2
    exact ⟨by unfold numE; rw [if_neg HE.out]; rfl, HBQ.out⟩
/-- What a valid house is. -/
structure HouseOk (R : Int) (ds : List Dr) (x y : Int) : Prop where
  rooms : 1 ≤ R ∧ R ≤ 12
  inf : 0 ≤ x ∧ x.toNat < 2 ^ R.toNat
  kept : 0 ≤ y ∧ y.toNat < 2 ^ R.toNat
  apart : bits .and .i64 x y = 0
  len : ds.length ≤ 40
  at_ : DoorsAt R.toNat ds
  doors : ∀ d ∈ ds, (0 ≤ d.a ∧ d.a < d.b ∧ d.b ≤ R - 1) ∧ 0 ≤ d.c ∧ d.c ≤ 1000
theorem valB_ok {R x y : Int} {ds : List Dr} (h : valB R ds x y = true) : HouseOk R ds x y := by
  unfold valB at h
  simp only [Bool.and_eq_true, beq_iff_eq, decide_eq_true_eq] at h
  obtain ⟨⟨⟨⟨h1, h2⟩, h3⟩, h4⟩, h5⟩ := h
  obtain ⟨r, a1, a2⟩ := setB_room h1
  obtain ⟨-, b1, b2⟩ := setB_room h2
  have hp : (2 : Int) ^ R.toNat = ((2 ^ R.toNat : Nat) : Int) := by simp
  have hp2 : 0 < 2 ^ R.toNat := Nat.pow_pos (by omega)
  rw [hp] at a2 b2
  have hd : ∀ d ∈ ds, (0 ≤ d.a ∧ d.a < d.b ∧ d.b ≤ R - 1) ∧ 0 ≤ d.c ∧ d.c ≤ 1000 := fun d hd => by
    have := List.all_eq_true.1 h5 d hd
    unfold doorB at this
    rw [Bool.and_eq_true, Bool.and_eq_true, allIn_two, inB_iff, decide_eq_true_eq] at this
    omega
  exact ⟨r, ⟨a1, by omega⟩, ⟨b1, by omega⟩, h3, h4, fun d hm => by have := hd d hm; omega, hd⟩
/-- The error of a house and some of its doors. -/
def askE (R : Int) (ds : List Dr) (x y : Int) (sl : List Int) : Int := chkE (valB R ds x y) (allIn 0 ((ds.length : Int) - 1) sl) (ascF sl sl.length)
/-- The rooms to which pests come, with some doors sealed. -/
def comesT (ds : List Dr) (x : Int) (sl : List Int) : Nat := spreadF (openF ds sl ds.length) x.toNat 12
theorem open_ds {R : Int} {x y : Int} {v u : Value} {ds : List Dr} {sl : List Int} {w : World} (hv : DS w v ds) (hu : IS w u sl) (hl : ds.length ≤ 1000) (hsl : sl.length ≤ 9223372036854775807) :
    Calls Try.prog 53 #[.agg #[.int .i64 R, v, .int .i64 x, .int .i64 y], u] w fun e w' => ∃ r, e = .returned r ∧ DS w' r (openF ds sl ds.length) ∧ Below w.heap.size w w' :=
  (open_any R x y v u ds sl w hv hu hl hsl).mono fun e w' ⟨r, he, ⟨_, _, ho⟩, hb⟩ => ⟨r, he, ho.ds, hb⟩
theorem Comes_any (R x y : Int) (v u : Value) (ds : List Dr) (sl : List Int) (w : World) (hv : DS w v ds) (hl : ds.length ≤ 9223372036854775807) (hu : IS w u sl) (hsl : sl.length ≤ 9223372036854775807) :
    Calls Try.prog 15 #[.agg #[.int .i64 R, v, .int .i64 x, .int .i64 y], u] w fun e w' => e = .returned (numE (askE R ds x y sl) (comesT ds x sl : Nat)) ∧ Below w.heap.size w w' := by
  obtain ⟨g, c, rfl⟩ := hv.shape
  obtain ⟨gu, cu, rfl⟩ := hu.shape
  refine Comes_st R x y g ds.length c gu sl.length cu (allIn 0 ((ds.length : Int) - 1) sl) (ascF sl sl.length) (askE R ds x y sl) (comesT ds x sl : Nat) (openF ds sl ds.length) w
    ⟨fun W hW => areDoors_any R x y g ds.length c _ sl W hl (hu.below hW) hsl⟩ ⟨fun W hW => isAscending_any _ sl W (hu.below hW) hsl⟩ ⟨fun W hW => checked_any R x y _ ds _ _ W (hv.below hW) hl⟩
    ⟨fun h W hW => ?_⟩ ⟨fun h W r hr => ?_⟩
  · have hk := valB_ok (chkE_zero h).1
    exact open_ds (hv.below hW) (hu.below hW) (by have := hk.len; omega) hsl
  · have hk := valB_ok (chkE_zero h).1
    have := reached_any R.toNat r (openF ds sl ds.length) x.toNat W hr (by have := openF_len ds sl ds.length; have := hk.len; omega) (by have := hk.rooms; omega) (by have := hk.rooms; omega) (open_at sl hk.at_) hk.inf.2
    rwa [Int.toNat_of_nonneg hk.inf.1] at this
end Go.Proofs.Ythkamfjjfkpekaa.Pe
