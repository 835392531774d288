/-
  WALKS (layer 7, scene): the program's Raised where it refuses.
-/
import Derived.Test.YtjnggchljilooaaScRais
import Derived.Test.YtjnggchljilooaaScShelf
namespace Go.Proofs.Ytjnggchljilooaa.Sc
open Go Go.RowKit Go.Sort

theorem RI.away {w : World} {G b : Nat} {v : Value} {L : List Int} (h : RI w G v L) (hb : b ≠ G) (j : Nat) (u : Value) : RI (w.setCell ⟨b, j, none⟩ u) G v L := by
  obtain ⟨c, rfl, hc, hf, hl⟩ := h
  exact ⟨c, rfl, hc, fun j => by simp [go_sem, hf], fun i x hx => (World.cell?_setCell_other _ _ _ _ (by simp only [ne_eq, Addr.mk.injEq, not_and]; intros; omega)).trans (hl i x hx)⟩
def RS (w : World) (B G cap M : Nat) (wd dp : Int) (X : List Int) (wr : World) : Prop := Below w.heap.size w wr ∧ (wr.cell? ⟨B, 0, none⟩ = some (.int .i64 wd) ∧ wr.cell? ⟨B, 1, none⟩ = some (.int .i64 dp) ∧ wr.cell? ⟨B, 2, none⟩ = some (.slice (some ⟨G, 0, none⟩) M cap) ∧ wr.cell? ⟨B + 1, 0, none⟩ = some (.int .i64 0) ∧ wr.cell? ⟨B + 1, 1, none⟩ = some (.int .i64 0) ∧ wr.cell? ⟨B + 1, 2, none⟩ = some (.slice none 0 0)) ∧ (∀ j, wr.frozen? ⟨B + 1, j, none⟩ = false) ∧ (∀ j, wr.frozen? ⟨G, j, none⟩ = false) ∧ ∀ (i : Nat) (y : Int), X[i]? = some y → wr.cell? ⟨G, i, none⟩ = some (.int .i64 y)
set_option maxRecDepth 100000 in
set_option maxHeartbeats 4000000 in
theorem Raised_in (wd dp n m x : Int) (L : List Int) (g : Option Addr) (M c : Nat) (w : World)
    (HV : Kp (∀ W, Below w.heap.size w W → Calls Try.prog 16 #[.agg #[.int .i64 wd, .int .i64 dp, .slice g M c]] W fun e w' => e = .returned (.bool true) ∧ Below W.heap.size W w'))
    (HMI : Kp (∀ W, Below w.heap.size w W → Calls Try.prog 56 #[.slice g M c] W fun e w' => e = .returned (.int .i64 m) ∧ W = w'))
    (HMA : Kp (∀ W, Below w.heap.size w W → Calls Try.prog 57 #[.slice g M c] W fun e w' => e = .returned (.int .i64 x) ∧ W = w'))
    (HWI : Kp (∀ W u, IS W u [n] → Calls Try.prog 51 #[.int .i64 (IntKind.i64.wrap (-m)), .int .i64 (IntKind.i64.wrap (1000 - x)), u] W fun e w' => e = .returned (.bool true) ∧ W = w'))
    (HCL : Kp (∀ W, Below w.heap.size w W → Calls Try.prog 58 #[.slice g M c] W fun e w' => ∃ u, e = .returned u ∧ (∃ G, W.heap.size ≤ G ∧ G < w'.heap.size ∧ RI w' G u L) ∧ Below W.heap.size W w'))
    (HLM : Kp (L.length = M ∧ M ≤ 1000 ∧ ∀ (k : Nat) (y : Int), L[k]? = some y → IntKind.i64.wrap (y + n) = y + n)) :
    Calls Try.prog 21 #[.agg #[.int .i64 wd, .int .i64 dp, .slice g M c], .int .i64 n] w fun e w' => (∃ u G, e = .returned (.tuple #[.agg #[.int .i64 wd, .int .i64 dp, u], .int .i64 0]) ∧ w.heap.size ≤ G ∧ RI w' G u (L.map (· + n))) ∧ Below w.heap.size w w' := by
  go_enter Try.func21, Try.ntmps21
  go_wp2_with fail
  try simp only [Nat.add_assoc, Nat.reduceAdd]
  obtain ⟨W1, hW1⟩ : ∃ W, (w.alloc (.cells #[.int .i64 wd, .int .i64 dp, .slice g M c] 24)).alloc (.cells #[.int .i64 0, .int .i64 0, .slice none 0 0] 24) = W := ⟨_, rfl⟩
  obtain ⟨hb1, hall⟩ := boxesG_start hW1
  have HSZ : Kp (w.heap.size + 2 ≤ W1.heap.size) := ⟨by rw [← hW1]; simp⟩
  rw [hW1]
  obtain ⟨B, hB⟩ : ∃ B, w.heap.size = B := ⟨_, rfl⟩
  have HBB := Kp.mk hB
  have HVX := Kp.mk (HV.out W1 hb1)
  rw [hB] at hall HSZ
  have HB1 := Kp.mk hb1
  have HALL := Kp.mk hall
  try simp only [hB]
  clear hW1 hb1 hall hB
  refine (HVX.out).mono ?_
  rintro en w2 ⟨rfl, hb2⟩
  go_wp2_with fail
  refine wp_region_noPanic ?_
  refine region_nm ?_
  intro ops Qp hops hQp
  have HQP : Kp (∀ c a d v w, Qp (.panic c) (Act.put a d v) w → Qp (.panic c) a w) := ⟨by subst hQp; intro c a d v w h; exact h⟩
  have HFIN : Kp (∀ (w' : World) (b9 : Nat), Below w2.heap.size w2 w' → Qp .normal { tmps := #[.agg #[.int .i64 wd, .int .i64 dp, .slice g M c], .int .i64 n, .pointer (some ⟨B, 0, none⟩), undef, .pointer (some ⟨B + 1, 0, none⟩), .int .i64 0, undef, .agg #[.int .i64 wd, .int .i64 dp, .slice g M c], .bool true, .bool false, undef, .pointer (some ⟨B, 2, none⟩), .slice g M c, .int .i64 m, .int .i64 (IntKind.i64.wrap (-m)), .pointer (some ⟨B, 2, none⟩), .slice g M c, .int .i64 x, .int .i64 (IntKind.i64.wrap (1000 - x)), .int .i64 n, .slice (some ⟨b9, 0, none⟩) 1 1, .bool true, .bool false, undef, undef, undef, undef, undef, undef, undef, undef, undef, undef, undef, undef, undef, undef, undef, undef, undef, undef, undef, undef, undef], defers := [] } w') := by
    refine ⟨?_⟩
    intro w' b9 hw
    obtain ⟨q0, q1, q2, r0, r1, r2, qz, rz⟩ := HALL.out w' (hb2.trans (hw.mono hb2.size))
    have hb := HB1.out.trans (hb2.mono HB1.out.size)
    have HBW := Kp.mk (hb.trans (hw.mono hb.size))
    have z0 := rz 0
    have z1 := rz 1
    have z2 := rz 2
    have HX := Kp.mk (hb2.trans (hw.mono hb2.size))
    clear HQP hops hw rz qz hb hb2 HVX z0 z1 z2
    subst hQp
    refine NoPanic.normal ?_
    go_wp2_with fail
    refine (HCL.out _ HBW.out).mono ?_
    rintro en w5 ⟨u, rfl, ⟨G, hG1, hG2, hR⟩, hb5⟩
    clear q0 q1 q2 r0 r1 r2
    obtain ⟨q0, q1, q2, r0, r1, r2, qz, rz⟩ := HALL.out w5 (HX.out.trans (hb5.mono HX.out.size))
    have HB5 := Kp.mk (HBW.out.trans (hb5.mono HBW.out.size))
    have y2 := qz 2
    obtain ⟨cap, rfl, hcap, hfz, hcells⟩ := hR
    obtain ⟨hLM, hM, hup⟩ := HLM.out
    rw [hLM] at hcap
    rw [hLM]
    have HC5 := Kp.mk (And.intro hcells hfz)
    have HRZ := Kp.mk (And.intro qz rz)
    have hne : B + 1 < G := by have := HX.out.size; have := HSZ.out; have := hG1; omega
    clear hcells hfz qz rz hb5 hup
    go_wp2_with fail
    have HNE := Kp.mk hne
    clear hne
    have H0 : Kp (RS w B G cap M wd dp (upL 0 n L) (w5.setCell ⟨B, 2, none⟩ (.slice (some ⟨G, 0, none⟩) M cap))) := by
      have h1 := HNE.out
      have h2 := HBB.out
      refine ⟨HB5.out.setCell (by simp only; omega) _, ⟨?_, ?_, ?_, ?_, ?_, ?_⟩, fun j => ?_, fun j => ?_, fun i y hy => ?_⟩
      · exact (World.cell?_setCell_other _ _ _ _ (by simp)).trans q0
      · exact (World.cell?_setCell_other _ _ _ _ (by simp)).trans q1
      · simp [go_sem, q2]
      · exact (World.cell?_setCell_other _ _ _ _ (by simp)).trans r0
      · exact (World.cell?_setCell_other _ _ _ _ (by simp)).trans r1
      · exact (World.cell?_setCell_other _ _ _ _ (by simp)).trans r2
      · simp [go_sem, HRZ.out.2 j]
      · simp [go_sem, HC5.out.2 j]
      · rw [upL_zero] at hy
        exact (World.cell?_setCell_other _ _ _ _ (by simp only [ne_eq, Addr.mk.injEq, not_and]; intros; omega)).trans (HC5.out.1 i y hy)
    clear q0 q1 q2 r0 r1 r2 y2
    go_loopw [31] (fun i wr => ∃ k : Nat, k ≤ M ∧ i = .int .i64 k ∧ Kp (RS w B G cap M wd dp (upL k n L) wr)) (fun i _ => M - (intOf i).toNat)
    case atStart => exact ⟨0, Nat.zero_le _, rfl, H0⟩
    case round =>
      obtain ⟨k, hk, rfl, HK⟩ := hrel
      obtain ⟨hbl, ⟨q0, q1, q2, r0, r1, r2⟩, hz, hf, hcells⟩ := HK.out
      have h1 := HNE.out
      have h2 := HBB.out
      by_cases hlt : k < M
      · obtain ⟨y, hy⟩ : ∃ y, L[k]? = some y := ⟨_, List.getElem?_eq_getElem (by omega)⟩
        have o1 : (k : Int) < (M : Int) := by omega
        have o4 : IntKind.i64.wrap ((k : Int) + 1) = (k : Int) + 1 := IntWalk.i64_in _ (by omega)
        have o5 := HLM.out.2.2 k y hy
        have hc := hcells k y (upL_at hy)
        have hfk := hf k
        have HN2 : Kp (RS w B G cap M wd dp (upL (k + 1) n L) (wr.setCell ⟨G, k, none⟩ (.int .i64 (y + n)))) := by
          refine ⟨hbl.setCell (by simp only; omega) _, ⟨?_, ?_, ?_, ?_, ?_, ?_⟩, fun j => ?_, fun j => ?_, fun i z hzz => ?_⟩
          · exact (World.cell?_setCell_other _ _ _ _ (by simp only [ne_eq, Addr.mk.injEq, not_and]; intros; omega)).trans q0
          · exact (World.cell?_setCell_other _ _ _ _ (by simp only [ne_eq, Addr.mk.injEq, not_and]; intros; omega)).trans q1
          · exact (World.cell?_setCell_other _ _ _ _ (by simp only [ne_eq, Addr.mk.injEq, not_and]; intros; omega)).trans q2
          · exact (World.cell?_setCell_other _ _ _ _ (by simp only [ne_eq, Addr.mk.injEq, not_and]; intros; omega)).trans r0
          · exact (World.cell?_setCell_other _ _ _ _ (by simp only [ne_eq, Addr.mk.injEq, not_and]; intros; omega)).trans r1
          · exact (World.cell?_setCell_other _ _ _ _ (by simp only [ne_eq, Addr.mk.injEq, not_and]; intros; omega)).trans r2
          · simp [go_sem, hz j]
          · simp [go_sem, hf j]
          · rw [← upL_step hy] at hzz
            by_cases e : i = k
            · subst e
              rw [List.getElem?_set_self (by rw [upL_len]; omega)] at hzz
              cases hzz
              simp [go_sem, hc]
            · rw [List.getElem?_set_ne (fun t => e t.symm)] at hzz
              exact (World.cell?_setCell_other _ _ _ _ (by simp only [ne_eq, Addr.mk.injEq, not_and, and_true, true_and]; intros; omega)).trans (hcells i z hzz)
        clear hcells hz hf hy
        go_wp2_with fail
        go_roundw
        case rel => exact ⟨k + 1, by omega, by go_num, HN2⟩
        case measure => simp [intOf]; omega
      · have hkM : k = M := by omega
        subst hkM
        have o1 : ¬ (k : Int) < (k : Int) := by omega
        have HU : Kp (RI wr G (.slice (some ⟨G, 0, none⟩) k cap) (L.map (· + n))) := ⟨by
          have hmap : L.map (· + n) = upL k n L := by rw [← upL_all, HLM.out.1]
          rw [hmap]
          exact ⟨cap, by rw [upL_len, HLM.out.1], by rw [upL_len, HLM.out.1]; omega, hf, hcells⟩⟩
        have t0 := hz 0
        have t1 := hz 1
        have t2 := hz 2
        clear hcells hz hf
        go_wp2_with fail
        exact bodyPost_ret (v := .tuple #[.agg #[.int .i64 wd, .int .i64 dp, .slice (some ⟨G, 0, none⟩) k cap], .int .i64 0]) (by simp [results, Try.results21, go_sem, r0, r1, r2]) rfl (by
          rw [h2] at hbl
          refine ⟨⟨.slice (some ⟨G, 0, none⟩) k cap, ⟨?_, ⟨G, by omega, ?_⟩⟩⟩, ?_⟩
          · rfl
          · repeat (first | exact HU.out | refine RI.away ?_ (by omega) _ _)
          · repeat (first | exact hbl | refine Below.setCell ?_ (by simp only; omega) _))
  have S0_1_2_3_4_5_6_7_8_9_10 : Kp (∀ (w' : World) (b9 : Nat), Below w2.heap.size w2 w' → w'.cell? ⟨b9, 0, none⟩ = some (.int .i64 n) → wpAnyH Try.prog .any ops Qp (fun w' => Below w2.heap.size w2 w') 1 #[true, true, true, true, true, true, true, true, true, true, true, false] { tmps := #[.agg #[.int .i64 wd, .int .i64 dp, .slice g M c], .int .i64 n, .pointer (some ⟨B, 0, none⟩), undef, .pointer (some ⟨B + 1, 0, none⟩), .int .i64 0, undef, .agg #[.int .i64 wd, .int .i64 dp, .slice g M c], .bool true, .bool false, undef, .pointer (some ⟨B, 2, none⟩), .slice g M c, .int .i64 m, .int .i64 (IntKind.i64.wrap (-m)), .pointer (some ⟨B, 2, none⟩), .slice g M c, .int .i64 x, .int .i64 (IntKind.i64.wrap (1000 - x)), .int .i64 n, .slice (some ⟨b9, 0, none⟩) 1 1, .bool true, undef, undef, undef, undef, undef, undef, undef, undef, undef, undef, undef, undef, undef, undef, undef, undef, undef, undef, undef, undef, undef, undef], defers := [] } w') := by
    refine ⟨?_⟩
    intro w' b9 hw f9_0
    refine wpAnyH_take (i := 11) (oi := { dst := some 22, op := Go.Op.unOp Go.UnOp.not 4 (Go.Operand.tmp 21), type := 4, pos := "scene.go:51", after := #[{ on := 10, ground := Go.Ground.data }], guard := none }) (v := .bool false) (by rw [hops]; kernel_rfl) (by rw [hops]; kernel_rfl) (by rw [hops]; kernel_rfl) (by rw [hops]; kernel_rfl) (fun c a w h => HQP.out c a _ _ w h) (Or.inl ⟨by rw [hops]; kernel_rfl, by intro w _; go_simp⟩) hw ?_
    simp only [Act.put, List.setIfInBounds_toArray, List.set_cons_zero, List.set_cons_succ]
    refine wpAnyH_done (by rw [hops]; kernel_rfl) ?_ _
    exact HFIN.out w' b9 hw
  have S0_1_2_3_4_5_6_7_8_9 : Kp (∀ (w' : World) (b9 : Nat), Below w2.heap.size w2 w' → w'.cell? ⟨b9, 0, none⟩ = some (.int .i64 n) → wpAnyH Try.prog .any ops Qp (fun w' => Below w2.heap.size w2 w') 2 #[true, true, true, true, true, true, true, true, true, true, false, false] { tmps := #[.agg #[.int .i64 wd, .int .i64 dp, .slice g M c], .int .i64 n, .pointer (some ⟨B, 0, none⟩), undef, .pointer (some ⟨B + 1, 0, none⟩), .int .i64 0, undef, .agg #[.int .i64 wd, .int .i64 dp, .slice g M c], .bool true, .bool false, undef, .pointer (some ⟨B, 2, none⟩), .slice g M c, .int .i64 m, .int .i64 (IntKind.i64.wrap (-m)), .pointer (some ⟨B, 2, none⟩), .slice g M c, .int .i64 x, .int .i64 (IntKind.i64.wrap (1000 - x)), .int .i64 n, .slice (some ⟨b9, 0, none⟩) 1 1, undef, undef, undef, undef, undef, undef, undef, undef, undef, undef, undef, undef, undef, undef, undef, undef, undef, undef, undef, undef, undef, undef, undef], defers := [] } w') := by
    refine ⟨?_⟩
    intro w' b9 hw f9_0
    refine wpAnyH_ready (rs := [10]) (by rw [hops]; kernel_rfl) (by simp) ?_
    refine AllReadyH.cons (o := { dst := some 21, op := Go.Op.call { callee := Go.Callee.value (Go.Operand.func 51), args := #[Go.Operand.tmp 14, Go.Operand.tmp 18, Go.Operand.tmp 20], argTypes := #[3, 3, 22] }, type := 4, pos := "scene.go:51", after := #[{ on := 3, ground := Go.Ground.data }, { on := 7, ground := Go.Ground.data }, { on := 9, ground := Go.Ground.data }, { on := 6, ground := Go.Ground.chain }], guard := none }) (by rw [hops]; kernel_rfl) (fun K hK => ?_) ?_
    · rw [if_pos (by rw [hops]; kernel_rfl)]
      go_simp
      refine (HWI.out _ _ (is_one f9_0)).mono ?_
      rintro en w5 ⟨rfl, hb5⟩
      have hb5 : Below w'.heap.size w' w5 := by rw [← hb5]; exact Below.refl _ _
      exact hK.out _ _ (hw.trans (hb5.mono hw.size)) (fun hwn => S0_1_2_3_4_5_6_7_8_9_10.out w5 b9 hwn ((hb5.cell (p := ⟨b9, 0, none⟩) (World.block_lt_of_cell? _ _ f9_0)).trans f9_0))
    exact AllReadyH.nil
  have S0_1_2_3_4_5_6_8 : Kp (∀ (w' : World), Below w2.heap.size w2 w' → wpAnyH Try.prog .any ops Qp (fun w' => Below w2.heap.size w2 w') 4 #[true, true, true, true, true, true, true, false, true, false, false, false] { tmps := #[.agg #[.int .i64 wd, .int .i64 dp, .slice g M c], .int .i64 n, .pointer (some ⟨B, 0, none⟩), undef, .pointer (some ⟨B + 1, 0, none⟩), .int .i64 0, undef, .agg #[.int .i64 wd, .int .i64 dp, .slice g M c], .bool true, .bool false, undef, .pointer (some ⟨B, 2, none⟩), .slice g M c, .int .i64 m, .int .i64 (IntKind.i64.wrap (-m)), .pointer (some ⟨B, 2, none⟩), .slice g M c, .int .i64 x, undef, .int .i64 n, undef, undef, undef, undef, undef, undef, undef, undef, undef, undef, undef, undef, undef, undef, undef, undef, undef, undef, undef, undef, undef, undef, undef, undef], defers := [] } w') := by
    refine ⟨?_⟩
    intro w' hw
    refine wpAnyH_take (i := 7) (oi := { dst := some 18, op := Go.Op.binOp Go.BinOp.sub 3 (Go.Operand.const (Go.Value.int Go.IntKind.i64 1000)) (Go.Operand.tmp 17) 3, type := 3, pos := "scene.go:51", after := #[{ on := 6, ground := Go.Ground.data }], guard := none }) (v := .int .i64 (IntKind.i64.wrap (1000 - x))) (by rw [hops]; kernel_rfl) (by rw [hops]; kernel_rfl) (by rw [hops]; kernel_rfl) (by rw [hops]; kernel_rfl) (fun c a w h => HQP.out c a _ _ w h) (Or.inl ⟨by rw [hops]; kernel_rfl, by intro w _; go_simp⟩) hw ?_
    simp only [Act.put, List.setIfInBounds_toArray, List.set_cons_zero, List.set_cons_succ]
    refine wpAnyH_ready (rs := [9]) (by rw [hops]; kernel_rfl) (by simp) ?_
    refine AllReadyH.cons (o := { dst := some 20, op := Go.Op.buildSlice 22 1 #[(0, Go.Operand.tmp 19)], type := 22, pos := "scene.go:51", after := #[{ on := 8, ground := Go.Ground.data }], guard := none }) (by rw [hops]; kernel_rfl) (fun K hK => ?_) ?_
    · rw [if_pos (by rw [hops]; kernel_rfl)]
      go_simp
      have hal : Below w'.heap.size w' (w'.alloc (.cells #[.int .i64 n] 3)) := (Below.refl _ _).alloc (Nat.le_refl _) _
      exact hK.out _ _ (hw.trans (hal.mono hw.size)) (fun hwn => S0_1_2_3_4_5_6_7_8_9.out (w'.alloc (.cells #[.int .i64 n] 3)) w'.heap.size hwn (by go_simp))
    exact AllReadyH.nil
  have S0_1_2_3_4_5_6_8_9 : Kp (∀ (w' : World) (b9 : Nat), Below w2.heap.size w2 w' → w'.cell? ⟨b9, 0, none⟩ = some (.int .i64 n) → wpAnyH Try.prog .any ops Qp (fun w' => Below w2.heap.size w2 w') 3 #[true, true, true, true, true, true, true, false, true, true, false, false] { tmps := #[.agg #[.int .i64 wd, .int .i64 dp, .slice g M c], .int .i64 n, .pointer (some ⟨B, 0, none⟩), undef, .pointer (some ⟨B + 1, 0, none⟩), .int .i64 0, undef, .agg #[.int .i64 wd, .int .i64 dp, .slice g M c], .bool true, .bool false, undef, .pointer (some ⟨B, 2, none⟩), .slice g M c, .int .i64 m, .int .i64 (IntKind.i64.wrap (-m)), .pointer (some ⟨B, 2, none⟩), .slice g M c, .int .i64 x, undef, .int .i64 n, .slice (some ⟨b9, 0, none⟩) 1 1, undef, undef, undef, undef, undef, undef, undef, undef, undef, undef, undef, undef, undef, undef, undef, undef, undef, undef, undef, undef, undef, undef, undef], defers := [] } w') := by
    refine ⟨?_⟩
    intro w' b9 hw f9_0
    refine wpAnyH_take (i := 7) (oi := { dst := some 18, op := Go.Op.binOp Go.BinOp.sub 3 (Go.Operand.const (Go.Value.int Go.IntKind.i64 1000)) (Go.Operand.tmp 17) 3, type := 3, pos := "scene.go:51", after := #[{ on := 6, ground := Go.Ground.data }], guard := none }) (v := .int .i64 (IntKind.i64.wrap (1000 - x))) (by rw [hops]; kernel_rfl) (by rw [hops]; kernel_rfl) (by rw [hops]; kernel_rfl) (by rw [hops]; kernel_rfl) (fun c a w h => HQP.out c a _ _ w h) (Or.inl ⟨by rw [hops]; kernel_rfl, by intro w _; go_simp⟩) hw ?_
    simp only [Act.put, List.setIfInBounds_toArray, List.set_cons_zero, List.set_cons_succ]
    refine wpAnyH_ready (rs := [10]) (by rw [hops]; kernel_rfl) (by simp) ?_
    refine AllReadyH.cons (o := { dst := some 21, op := Go.Op.call { callee := Go.Callee.value (Go.Operand.func 51), args := #[Go.Operand.tmp 14, Go.Operand.tmp 18, Go.Operand.tmp 20], argTypes := #[3, 3, 22] }, type := 4, pos := "scene.go:51", after := #[{ on := 3, ground := Go.Ground.data }, { on := 7, ground := Go.Ground.data }, { on := 9, ground := Go.Ground.data }, { on := 6, ground := Go.Ground.chain }], guard := none }) (by rw [hops]; kernel_rfl) (fun K hK => ?_) ?_
    · rw [if_pos (by rw [hops]; kernel_rfl)]
      go_simp
      refine (HWI.out _ _ (is_one f9_0)).mono ?_
      rintro en w5 ⟨rfl, hb5⟩
      have hb5 : Below w'.heap.size w' w5 := by rw [← hb5]; exact Below.refl _ _
      exact hK.out _ _ (hw.trans (hb5.mono hw.size)) (fun hwn => S0_1_2_3_4_5_6_7_8_9_10.out w5 b9 hwn ((hb5.cell (p := ⟨b9, 0, none⟩) (World.block_lt_of_cell? _ _ f9_0)).trans f9_0))
    exact AllReadyH.nil
  have S0_1_2_3_4_5_8_9 : Kp (∀ (w' : World) (b9 : Nat), Below w2.heap.size w2 w' → w'.cell? ⟨b9, 0, none⟩ = some (.int .i64 n) → wpAnyH Try.prog .any ops Qp (fun w' => Below w2.heap.size w2 w') 4 #[true, true, true, true, true, true, false, false, true, true, false, false] { tmps := #[.agg #[.int .i64 wd, .int .i64 dp, .slice g M c], .int .i64 n, .pointer (some ⟨B, 0, none⟩), undef, .pointer (some ⟨B + 1, 0, none⟩), .int .i64 0, undef, .agg #[.int .i64 wd, .int .i64 dp, .slice g M c], .bool true, .bool false, undef, .pointer (some ⟨B, 2, none⟩), .slice g M c, .int .i64 m, .int .i64 (IntKind.i64.wrap (-m)), .pointer (some ⟨B, 2, none⟩), .slice g M c, undef, undef, .int .i64 n, .slice (some ⟨b9, 0, none⟩) 1 1, undef, undef, undef, undef, undef, undef, undef, undef, undef, undef, undef, undef, undef, undef, undef, undef, undef, undef, undef, undef, undef, undef, undef], defers := [] } w') := by
    refine ⟨?_⟩
    intro w' b9 hw f9_0
    refine wpAnyH_ready (rs := [6]) (by rw [hops]; kernel_rfl) (by simp) ?_
    refine AllReadyH.cons (o := { dst := some 17, op := Go.Op.call { callee := Go.Callee.value (Go.Operand.func 57), args := #[Go.Operand.tmp 16], argTypes := #[22] }, type := 3, pos := "scene.go:51", after := #[{ on := 5, ground := Go.Ground.data }, { on := 2, ground := Go.Ground.chain }], guard := none }) (by rw [hops]; kernel_rfl) (fun K hK => ?_) ?_
    · rw [if_pos (by rw [hops]; kernel_rfl)]
      go_simp
      refine (HMA.out _ (HB1.out.trans (hb2.mono HB1.out.size) |>.trans (hw.mono (HB1.out.trans (hb2.mono HB1.out.size)).size))).mono ?_
      rintro en w5 ⟨rfl, hb5⟩
      have hb5 : Below w'.heap.size w' w5 := by rw [← hb5]; exact Below.refl _ _
      exact hK.out _ _ (hw.trans (hb5.mono hw.size)) (fun hwn => S0_1_2_3_4_5_6_8_9.out w5 b9 hwn ((hb5.cell (p := ⟨b9, 0, none⟩) (World.block_lt_of_cell? _ _ f9_0)).trans f9_0))
    exact AllReadyH.nil
  have S0_1_2_4_5_8 : Kp (∀ (w' : World), Below w2.heap.size w2 w' → wpAnyH Try.prog .any ops Qp (fun w' => Below w2.heap.size w2 w') 6 #[true, true, true, false, true, true, false, false, true, false, false, false] { tmps := #[.agg #[.int .i64 wd, .int .i64 dp, .slice g M c], .int .i64 n, .pointer (some ⟨B, 0, none⟩), undef, .pointer (some ⟨B + 1, 0, none⟩), .int .i64 0, undef, .agg #[.int .i64 wd, .int .i64 dp, .slice g M c], .bool true, .bool false, undef, .pointer (some ⟨B, 2, none⟩), .slice g M c, .int .i64 m, undef, .pointer (some ⟨B, 2, none⟩), .slice g M c, undef, undef, .int .i64 n, undef, undef, undef, undef, undef, undef, undef, undef, undef, undef, undef, undef, undef, undef, undef, undef, undef, undef, undef, undef, undef, undef, undef, undef], defers := [] } w') := by
    refine ⟨?_⟩
    intro w' hw
    refine wpAnyH_take (i := 3) (oi := { dst := some 14, op := Go.Op.unOp Go.UnOp.neg 3 (Go.Operand.tmp 13), type := 3, pos := "scene.go:51", after := #[{ on := 2, ground := Go.Ground.data }], guard := none }) (v := .int .i64 (IntKind.i64.wrap (-m))) (by rw [hops]; kernel_rfl) (by rw [hops]; kernel_rfl) (by rw [hops]; kernel_rfl) (by rw [hops]; kernel_rfl) (fun c a w h => HQP.out c a _ _ w h) (Or.inl ⟨by rw [hops]; kernel_rfl, by intro w _; go_simp⟩) hw ?_
    simp only [Act.put, List.setIfInBounds_toArray, List.set_cons_zero, List.set_cons_succ]
    refine wpAnyH_ready (rs := [6, 9]) (by rw [hops]; kernel_rfl) (by simp) ?_
    refine AllReadyH.cons (o := { dst := some 17, op := Go.Op.call { callee := Go.Callee.value (Go.Operand.func 57), args := #[Go.Operand.tmp 16], argTypes := #[22] }, type := 3, pos := "scene.go:51", after := #[{ on := 5, ground := Go.Ground.data }, { on := 2, ground := Go.Ground.chain }], guard := none }) (by rw [hops]; kernel_rfl) (fun K hK => ?_) ?_
    · rw [if_pos (by rw [hops]; kernel_rfl)]
      go_simp
      refine (HMA.out _ (HB1.out.trans (hb2.mono HB1.out.size) |>.trans (hw.mono (HB1.out.trans (hb2.mono HB1.out.size)).size))).mono ?_
      rintro en w5 ⟨rfl, hb5⟩
      have hb5 : Below w'.heap.size w' w5 := by rw [← hb5]; exact Below.refl _ _
      exact hK.out _ _ (hw.trans (hb5.mono hw.size)) (fun hwn => S0_1_2_3_4_5_6_8.out w5 hwn)
    refine AllReadyH.cons (o := { dst := some 20, op := Go.Op.buildSlice 22 1 #[(0, Go.Operand.tmp 19)], type := 22, pos := "scene.go:51", after := #[{ on := 8, ground := Go.Ground.data }], guard := none }) (by rw [hops]; kernel_rfl) (fun K hK => ?_) ?_
    · rw [if_pos (by rw [hops]; kernel_rfl)]
      go_simp
      have hal : Below w'.heap.size w' (w'.alloc (.cells #[.int .i64 n] 3)) := (Below.refl _ _).alloc (Nat.le_refl _) _
      exact hK.out _ _ (hw.trans (hal.mono hw.size)) (fun hwn => S0_1_2_3_4_5_8_9.out (w'.alloc (.cells #[.int .i64 n] 3)) w'.heap.size hwn (by go_simp))
    exact AllReadyH.nil
  have S0_1_2_4_5_8_9 : Kp (∀ (w' : World) (b9 : Nat), Below w2.heap.size w2 w' → w'.cell? ⟨b9, 0, none⟩ = some (.int .i64 n) → wpAnyH Try.prog .any ops Qp (fun w' => Below w2.heap.size w2 w') 5 #[true, true, true, false, true, true, false, false, true, true, false, false] { tmps := #[.agg #[.int .i64 wd, .int .i64 dp, .slice g M c], .int .i64 n, .pointer (some ⟨B, 0, none⟩), undef, .pointer (some ⟨B + 1, 0, none⟩), .int .i64 0, undef, .agg #[.int .i64 wd, .int .i64 dp, .slice g M c], .bool true, .bool false, undef, .pointer (some ⟨B, 2, none⟩), .slice g M c, .int .i64 m, undef, .pointer (some ⟨B, 2, none⟩), .slice g M c, undef, undef, .int .i64 n, .slice (some ⟨b9, 0, none⟩) 1 1, undef, undef, undef, undef, undef, undef, undef, undef, undef, undef, undef, undef, undef, undef, undef, undef, undef, undef, undef, undef, undef, undef, undef], defers := [] } w') := by
    refine ⟨?_⟩
    intro w' b9 hw f9_0
    refine wpAnyH_take (i := 3) (oi := { dst := some 14, op := Go.Op.unOp Go.UnOp.neg 3 (Go.Operand.tmp 13), type := 3, pos := "scene.go:51", after := #[{ on := 2, ground := Go.Ground.data }], guard := none }) (v := .int .i64 (IntKind.i64.wrap (-m))) (by rw [hops]; kernel_rfl) (by rw [hops]; kernel_rfl) (by rw [hops]; kernel_rfl) (by rw [hops]; kernel_rfl) (fun c a w h => HQP.out c a _ _ w h) (Or.inl ⟨by rw [hops]; kernel_rfl, by intro w _; go_simp⟩) hw ?_
    simp only [Act.put, List.setIfInBounds_toArray, List.set_cons_zero, List.set_cons_succ]
    refine wpAnyH_ready (rs := [6]) (by rw [hops]; kernel_rfl) (by simp) ?_
    refine AllReadyH.cons (o := { dst := some 17, op := Go.Op.call { callee := Go.Callee.value (Go.Operand.func 57), args := #[Go.Operand.tmp 16], argTypes := #[22] }, type := 3, pos := "scene.go:51", after := #[{ on := 5, ground := Go.Ground.data }, { on := 2, ground := Go.Ground.chain }], guard := none }) (by rw [hops]; kernel_rfl) (fun K hK => ?_) ?_
    · rw [if_pos (by rw [hops]; kernel_rfl)]
      go_simp
      refine (HMA.out _ (HB1.out.trans (hb2.mono HB1.out.size) |>.trans (hw.mono (HB1.out.trans (hb2.mono HB1.out.size)).size))).mono ?_
      rintro en w5 ⟨rfl, hb5⟩
      have hb5 : Below w'.heap.size w' w5 := by rw [← hb5]; exact Below.refl _ _
      exact hK.out _ _ (hw.trans (hb5.mono hw.size)) (fun hwn => S0_1_2_3_4_5_6_8_9.out w5 b9 hwn ((hb5.cell (p := ⟨b9, 0, none⟩) (World.block_lt_of_cell? _ _ f9_0)).trans f9_0))
    exact AllReadyH.nil
  have S0_1_4_5_8_9 : Kp (∀ (w' : World) (b9 : Nat), Below w2.heap.size w2 w' → w'.cell? ⟨b9, 0, none⟩ = some (.int .i64 n) → wpAnyH Try.prog .any ops Qp (fun w' => Below w2.heap.size w2 w') 6 #[true, true, false, false, true, true, false, false, true, true, false, false] { tmps := #[.agg #[.int .i64 wd, .int .i64 dp, .slice g M c], .int .i64 n, .pointer (some ⟨B, 0, none⟩), undef, .pointer (some ⟨B + 1, 0, none⟩), .int .i64 0, undef, .agg #[.int .i64 wd, .int .i64 dp, .slice g M c], .bool true, .bool false, undef, .pointer (some ⟨B, 2, none⟩), .slice g M c, undef, undef, .pointer (some ⟨B, 2, none⟩), .slice g M c, undef, undef, .int .i64 n, .slice (some ⟨b9, 0, none⟩) 1 1, undef, undef, undef, undef, undef, undef, undef, undef, undef, undef, undef, undef, undef, undef, undef, undef, undef, undef, undef, undef, undef, undef, undef], defers := [] } w') := by
    refine ⟨?_⟩
    intro w' b9 hw f9_0
    refine wpAnyH_ready (rs := [2]) (by rw [hops]; kernel_rfl) (by simp) ?_
    refine AllReadyH.cons (o := { dst := some 13, op := Go.Op.call { callee := Go.Callee.value (Go.Operand.func 56), args := #[Go.Operand.tmp 12], argTypes := #[22] }, type := 3, pos := "scene.go:51", after := #[{ on := 1, ground := Go.Ground.data }], guard := none }) (by rw [hops]; kernel_rfl) (fun K hK => ?_) ?_
    · rw [if_pos (by rw [hops]; kernel_rfl)]
      go_simp
      refine (HMI.out _ (HB1.out.trans (hb2.mono HB1.out.size) |>.trans (hw.mono (HB1.out.trans (hb2.mono HB1.out.size)).size))).mono ?_
      rintro en w5 ⟨rfl, hb5⟩
      have hb5 : Below w'.heap.size w' w5 := by rw [← hb5]; exact Below.refl _ _
      exact hK.out _ _ (hw.trans (hb5.mono hw.size)) (fun hwn => S0_1_2_4_5_8_9.out w5 b9 hwn ((hb5.cell (p := ⟨b9, 0, none⟩) (World.block_lt_of_cell? _ _ f9_0)).trans f9_0))
    exact AllReadyH.nil
  have S : Kp (∀ (w' : World), Below w2.heap.size w2 w' → wpAnyH Try.prog .any ops Qp (fun w' => Below w2.heap.size w2 w') 12 #[false, false, false, false, false, false, false, false, false, false, false, false] { tmps := #[.agg #[.int .i64 wd, .int .i64 dp, .slice g M c], .int .i64 n, .pointer (some ⟨B, 0, none⟩), undef, .pointer (some ⟨B + 1, 0, none⟩), .int .i64 0, undef, .agg #[.int .i64 wd, .int .i64 dp, .slice g M c], .bool true, .bool false, undef, undef, undef, undef, undef, undef, undef, undef, undef, undef, undef, undef, undef, undef, undef, undef, undef, undef, undef, undef, undef, undef, undef, undef, undef, undef, undef, undef, undef, undef, undef, undef, undef, undef], defers := [] } w') := by
    refine ⟨?_⟩
    intro w' hw
    refine wpAnyH_take (i := 0) (oi := { dst := some 11, op := Go.Op.fieldAddr 24 (Go.Operand.tmp 2) 2, type := 0, pos := "scene.go:51", after := #[], guard := none }) (v := .pointer (some ⟨B, 2, none⟩)) (by rw [hops]; kernel_rfl) (by rw [hops]; kernel_rfl) (by rw [hops]; kernel_rfl) (by rw [hops]; kernel_rfl) (fun c a w h => HQP.out c a _ _ w h) (Or.inl ⟨by rw [hops]; kernel_rfl, by intro w _; go_simp⟩) hw ?_
    simp only [Act.put, List.setIfInBounds_toArray, List.set_cons_zero, List.set_cons_succ]
    refine wpAnyH_take (i := 1) (oi := { dst := some 12, op := Go.Op.load 22 (Go.Operand.tmp 11), type := 22, pos := "scene.go:51", after := #[{ on := 0, ground := Go.Ground.data }], guard := none }) (v := .slice g M c) (by rw [hops]; kernel_rfl) (by rw [hops]; kernel_rfl) (by rw [hops]; kernel_rfl) (by rw [hops]; kernel_rfl) (fun c a w h => HQP.out c a _ _ w h) (Or.inl ⟨by rw [hops]; kernel_rfl, by intro w hwS; obtain ⟨q0, q1, q2, r0, r1, r2, qz, rz⟩ := HALL.out w (hb2.trans (hwS.mono hb2.size)); go_simp⟩) hw ?_
    simp only [Act.put, List.setIfInBounds_toArray, List.set_cons_zero, List.set_cons_succ]
    refine wpAnyH_take (i := 4) (oi := { dst := some 15, op := Go.Op.fieldAddr 24 (Go.Operand.tmp 2) 2, type := 0, pos := "scene.go:51", after := #[], guard := none }) (v := .pointer (some ⟨B, 2, none⟩)) (by rw [hops]; kernel_rfl) (by rw [hops]; kernel_rfl) (by rw [hops]; kernel_rfl) (by rw [hops]; kernel_rfl) (fun c a w h => HQP.out c a _ _ w h) (Or.inl ⟨by rw [hops]; kernel_rfl, by intro w _; go_simp⟩) hw ?_
    simp only [Act.put, List.setIfInBounds_toArray, List.set_cons_zero, List.set_cons_succ]
    refine wpAnyH_take (i := 5) (oi := { dst := some 16, op := Go.Op.load 22 (Go.Operand.tmp 15), type := 22, pos := "scene.go:51", after := #[{ on := 4, ground := Go.Ground.data }], guard := none }) (v := .slice g M c) (by rw [hops]; kernel_rfl) (by rw [hops]; kernel_rfl) (by rw [hops]; kernel_rfl) (by rw [hops]; kernel_rfl) (fun c a w h => HQP.out c a _ _ w h) (Or.inl ⟨by rw [hops]; kernel_rfl, by intro w hwS; obtain ⟨q0, q1, q2, r0, r1, r2, qz, rz⟩ := HALL.out w (hb2.trans (hwS.mono hb2.size)); go_simp⟩) hw ?_
    simp only [Act.put, List.setIfInBounds_toArray, List.set_cons_zero, List.set_cons_succ]
    refine wpAnyH_take (i := 8) (oi := { dst := some 19, op := Go.Op.move (Go.Operand.tmp 1), type := 3, pos := "scene.go:51", after := #[], guard := none }) (v := .int .i64 n) (by rw [hops]; kernel_rfl) (by rw [hops]; kernel_rfl) (by rw [hops]; kernel_rfl) (by rw [hops]; kernel_rfl) (fun c a w h => HQP.out c a _ _ w h) (Or.inl ⟨by rw [hops]; kernel_rfl, by intro w _; go_simp⟩) hw ?_
    simp only [Act.put, List.setIfInBounds_toArray, List.set_cons_zero, List.set_cons_succ]
    refine wpAnyH_ready (rs := [2, 9]) (by rw [hops]; kernel_rfl) (by simp) ?_
    refine AllReadyH.cons (o := { dst := some 13, op := Go.Op.call { callee := Go.Callee.value (Go.Operand.func 56), args := #[Go.Operand.tmp 12], argTypes := #[22] }, type := 3, pos := "scene.go:51", after := #[{ on := 1, ground := Go.Ground.data }], guard := none }) (by rw [hops]; kernel_rfl) (fun K hK => ?_) ?_
    · rw [if_pos (by rw [hops]; kernel_rfl)]
      go_simp
      refine (HMI.out _ (HB1.out.trans (hb2.mono HB1.out.size) |>.trans (hw.mono (HB1.out.trans (hb2.mono HB1.out.size)).size))).mono ?_
      rintro en w5 ⟨rfl, hb5⟩
      have hb5 : Below w'.heap.size w' w5 := by rw [← hb5]; exact Below.refl _ _
      exact hK.out _ _ (hw.trans (hb5.mono hw.size)) (fun hwn => S0_1_2_4_5_8.out w5 hwn)
    refine AllReadyH.cons (o := { dst := some 20, op := Go.Op.buildSlice 22 1 #[(0, Go.Operand.tmp 19)], type := 22, pos := "scene.go:51", after := #[{ on := 8, ground := Go.Ground.data }], guard := none }) (by rw [hops]; kernel_rfl) (fun K hK => ?_) ?_
    · rw [if_pos (by rw [hops]; kernel_rfl)]
      go_simp
      have hal : Below w'.heap.size w' (w'.alloc (.cells #[.int .i64 n] 3)) := (Below.refl _ _).alloc (Nat.le_refl _) _
      exact hK.out _ _ (hw.trans (hal.mono hw.size)) (fun hwn => S0_1_4_5_8_9.out (w'.alloc (.cells #[.int .i64 n] 3)) w'.heap.size hwn (by go_simp))
    exact AllReadyH.nil
  have hsz : ops.size = 12 := by rw [hops]; rfl
  refine wp_region_held_drew (S := fun w' => Below w2.heap.size w2 w') (by kernel_rfl) (Below.drew (Below.refl _ _)) (fun hw0 => ?_)
  rw [hsz]
  exact S.out _ hw0
end Go.Proofs.Ytjnggchljilooaa.Sc
