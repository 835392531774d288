/-
  WALKS (layer 5, carve): the reference's small functions: in a range, inside, the place of a grain, whether it is there, an empty block.
-/
import Derived.Test.YtcjlijiifhggfaaCvPieces1
namespace Go.Proofs.Ytcjlijiifhggfaa.Cv
open Go Go.RowKit Go.Sort

theorem rwithin_any (n lo hi : Int) (w : World) : Calls Try.prog 47 #[.int .i64 n, .int .i64 lo, .int .i64 hi] w fun e w' => e = .returned (.bool (decide (lo ≤ n) && decide (n ≤ hi))) ∧ w = w' := by
  by_cases h0 : lo ≤ n
  · by_cases h1 : n ≤ hi
    · have HE : Kp ((decide (lo ≤ n) && decide (n ≤ hi)) = true) := ⟨by simp [h0, h1]⟩
      go_enter Try.func47, Try.ntmps47
      go_wp2
      go_ret
      exact ⟨ret_bool HE.out.symm, rfl⟩
    · have HE : Kp (false = decide (n ≤ hi)) := ⟨(decide_eq_false h1).symm⟩
      go_enter Try.func47, Try.ntmps47
      go_wp2
      go_ret
      exact ⟨ret_bool HE.out, rfl⟩
  · have HE : Kp ((decide (lo ≤ n) && decide (n ≤ hi)) = false) := ⟨by simp [h0]⟩
    go_enter Try.func47, Try.ntmps47
    go_wp2
    go_ret
    exact ⟨ret_bool HE.out.symm, rfl⟩
theorem rin_eq {s : Nat} {x : Int} : (decide (0 ≤ x) && decide (x ≤ (s : Int) - 1)) = ixB x s := by
  unfold ixB
  congr 1
  exact decide_eq_decide.2 (by omega)
set_option maxHeartbeats 1000000 in
theorem rinside_any (s : Nat) (hs : s ≤ 10) (g : Gr) (w : World) : Calls Try.prog 77 #[.int .i64 s, .agg #[.int .i64 g.x, .int .i64 g.y, .int .i64 g.z]] w fun e w' => e = .returned (.bool (insB s g)) ∧ Below w.heap.size w w' := by
  obtain ⟨x, y, z⟩ := g
  have HW : Kp (∀ W n, Calls Try.prog 47 #[.int .i64 n, .int .i64 0, .int .i64 ((s : Int) - 1)] W fun e w' => e = .returned (.bool (ixB n s)) ∧ W = w') := ⟨fun W n => by
    have h := rwithin_any n 0 ((s : Int) - 1) W
    rwa [rin_eq] at h⟩
  have e1 : IntKind.i64.wrap ((s : Int) - 1) = (s : Int) - 1 := IntWalk.i64_in _ (by omega)
  obtain ⟨a, ha⟩ : ∃ a, ixB x s = a := ⟨_, rfl⟩
  obtain ⟨b, hb⟩ : ∃ b, ixB y s = b := ⟨_, rfl⟩
  obtain ⟨c, hc⟩ : ∃ c, ixB z s = c := ⟨_, rfl⟩
  have HE : Kp (insB s ⟨x, y, z⟩ = (a && (b && c))) := ⟨by rw [← ha, ← hb, ← hc]; rfl⟩
  have HA := Kp.mk ha
  have HB := Kp.mk hb
  have HC := Kp.mk hc
  clear ha hb hc hs
  cases a with
  | false =>
    go_enter Try.func77, Try.ntmps77
    go_wp2_with fail
    refine (HW.out _ x).mono ?_
    rw [HA.out]
    rintro en w1 ⟨rfl, rfl⟩
    go_wp2
    go_ret
    exact ⟨ret_bool (by rw [HE.out]; rfl), by repeat (first | exact Below.refl _ _ | refine Below.alloc ?_ (by simp <;> omega) _ | refine bDrewN ?_ _ | refine Below.drew ?_)⟩
  | true =>
    cases b with
    | false =>
      go_enter Try.func77, Try.ntmps77
      go_wp2_with fail
      refine (HW.out _ x).mono ?_
      rw [HA.out]
      rintro en w1 ⟨rfl, rfl⟩
      go_wp2_with fail
      refine (HW.out _ y).mono ?_
      rw [HB.out]
      rintro en w1 ⟨rfl, rfl⟩
      go_wp2
      go_ret
      exact ⟨ret_bool (by rw [HE.out]; rfl), by repeat (first | exact Below.refl _ _ | refine Below.alloc ?_ (by simp <;> omega) _ | refine bDrewN ?_ _ | refine Below.drew ?_)⟩
    | true =>
      cases c
      all_goals
        go_enter Try.func77, Try.ntmps77
        go_wp2_with fail
        refine (HW.out _ x).mono ?_
        rw [HA.out]
        rintro en w1 ⟨rfl, rfl⟩
        go_wp2_with fail
        refine (HW.out _ y).mono ?_
        rw [HB.out]
        rintro en w1 ⟨rfl, rfl⟩
        go_wp2_with fail
        refine (HW.out _ z).mono ?_
        rw [HC.out]
        rintro en w1 ⟨rfl, rfl⟩
        go_wp2
        go_ret
        exact ⟨ret_bool (by rw [HE.out]; rfl), by repeat (first | exact Below.refl _ _ | refine Below.alloc ?_ (by simp <;> omega) _ | refine bDrewN ?_ _ | refine Below.drew ?_)⟩
theorem rplace_any {s : Nat} (hs : s ≤ 10) (g : Gr) (hg : insB s g = true) (w : World) : Calls Try.prog 71 #[.int .i64 s, .agg #[.int .i64 g.x, .int .i64 g.y, .int .i64 g.z]] w fun e w' => e = .returned (.int .i64 (idx s g)) ∧ Below w.heap.size w w' := by
  obtain ⟨⟨a, b⟩, ⟨c, d⟩, e, f⟩ := ins_iff.1 hg
  have hb := idx_bd hs hg
  have e1 : IntKind.i64.wrap ((s : Int) * g.z) = s * g.z := IntWalk.i64_in _ (by omega)
  have e2 : IntKind.i64.wrap (g.y + s * g.z) = g.y + s * g.z := IntWalk.i64_in _ (by omega)
  have e3 : IntKind.i64.wrap ((s : Int) * (g.y + s * g.z)) = s * (g.y + s * g.z) := IntWalk.i64_in _ (by omega)
  have e4 : IntKind.i64.wrap (g.x + (s : Int) * (g.y + s * g.z)) = g.x + s * (g.y + s * g.z) := IntWalk.i64_in _ (by unfold idx at hb; omega)
  obtain ⟨gx, gy, gz⟩ := g
  simp only [idx] at *
  clear a b c d e f hb hg
  go_enter Try.func71, Try.ntmps71
  go_wp2
  go_ret
  exact ⟨rfl, by repeat (first | exact Below.refl _ _ | refine Below.alloc ?_ (by simp <;> omega) _ | refine bDrewN ?_ _ | refine Below.drew ?_)⟩
theorem rempty_any (s : Nat) (hs : s ≤ 10) (w : World) : Calls Try.prog 41 #[.int .i64 s] w fun e w' => ∃ M, e = .returned (.agg #[.int .i64 s, .slice (some ⟨M, 0, none⟩) (s * s * s) (s * s * s)]) ∧ w.heap.size < M ∧ MR M (s * s * s) (s * s * s) (List.replicate (s * s * s) false) w' ∧ Below w.heap.size w w' := by
  have hc := cube_bd hs
  obtain ⟨e1, e2⟩ := cube_wrap hs
  obtain ⟨N, hN⟩ : ∃ N, s * s * s = N := ⟨_, rfl⟩
  rw [hN] at hc e2 ⊢
  have hN2 := hc.2
  obtain ⟨W5, hrun, hm, hb5, hz5⟩ := run_falses (w.alloc (.cells #[.int .i64 0, .slice none 0 0] 24)) N (by omega)
  rw [World.size_alloc] at hrun hm
  have b1 : Below w.heap.size w (w.alloc (.cells #[.int .i64 0, .slice none 0 0] 24)) := by repeat (first | exact Below.refl _ _ | refine Below.alloc ?_ (by simp <;> omega) _ | refine bDrewN ?_ _ | refine Below.drew ?_)
  have hbw := b1.trans (hb5.mono (by simp))
  have q0 : W5.cell? ⟨w.heap.size, 0, none⟩ = some (.int .i64 0) := (hb5.cell (p := ⟨w.heap.size, 0, none⟩) (by simp)).trans (by go_simp)
  have q1 : W5.cell? ⟨w.heap.size, 1, none⟩ = some (.slice none 0 0) := (hb5.cell (p := ⟨w.heap.size, 1, none⟩) (by simp)).trans (by go_simp)
  have qz : ∀ j, W5.frozen? ⟨w.heap.size, j, none⟩ = false := fun j => (hb5.frozen (p := ⟨w.heap.size, j, none⟩) (by simp)).trans (by go_simp)
  have HM := Kp.mk hm
  have HB := Kp.mk hbw
  clear hm hbw b1 hb5 hc hN
  go_enter Try.func41, Try.ntmps41
  go_wp2
  have g1 := setCell_grown W5 w.heap.size 0 (.int .i64 s)
  have g2 := setCell_grown (W5.setCell ⟨w.heap.size, 0, none⟩ (.int .i64 s)) w.heap.size 1 (.slice (some ⟨w.heap.size + 1, 0, none⟩) N N)
  have hz5' : W5.heap.size = w.heap.size + 2 := by rw [hz5, World.size_alloc]
  have s1 := g1.size
  have hMR := HM.out.same (Nat.le_trans s1 g2.size) ((g2.block (w.heap.size + 1) (by omega) (fun e => by simp only [Option.some.injEq] at e; omega)).trans (g1.block (w.heap.size + 1) (by omega) (fun e => by simp only [Option.some.injEq] at e; omega)))
  exact bodyPost_ret (v := .agg #[.int .i64 s, .slice (some ⟨w.heap.size + 1, 0, none⟩) N N]) (by simp [results, Try.results41, go_sem, q0, q1]) rfl ⟨_, rfl, by omega, hMR, (HB.out.setCell (Nat.le_refl _) _).setCell (Nat.le_refl _) _⟩
set_option maxHeartbeats 1000000 in
theorem rhas_any (s : Nat) (v : Value) (h : List Bool) (g : Gr) (w : World) (hs : s ≤ 10) (hl : h.length = s * s * s) (hv : LB w v h) :
    Calls Try.prog 45 #[.agg #[.int .i64 s, v], .agg #[.int .i64 g.x, .int .i64 g.y, .int .i64 g.z]] w fun e w' => e = .returned (.bool (hasB s h g)) ∧ Below w.heap.size w w' := by
  obtain ⟨ga, c, rfl, hc, hi⟩ := hv
  have HI : Kp (∀ W, Calls Try.prog 77 #[.int .i64 s, .agg #[.int .i64 g.x, .int .i64 g.y, .int .i64 g.z]] W fun e w' => e = .returned (.bool (insB s g)) ∧ Below W.heap.size W w') := ⟨fun W => rinside_any s hs g W⟩
  cases hin : insB s g with
  | false =>
    have HR : Kp (hasB s h g = false) := ⟨by unfold hasB; rw [hin]; rfl⟩
    obtain ⟨gx, gy, gz⟩ := g
    rw [hin] at HI
    clear hi hc hl hin hs
    go_enter Try.func45, Try.ntmps45
    go_wp2
    obtain ⟨W1, hW1⟩ : ∃ W1, (w.alloc (.cells #[.int .i64 s, .slice ga h.length c] 24)).alloc (.cells #[.int .i64 gx, .int .i64 gy, .int .i64 gz] 48) = W1 := ⟨_, rfl⟩
    rw [hW1]
    obtain ⟨hB1, a0, a1, e0, e1, e2⟩ := has_start hW1
    have HB1 := Kp.mk hB1
    have r0 := fun d os => cell_regrown a0 d os
    have r1 := fun d os => cell_regrown a1 d os
    have r2 := fun d os => cell_regrown e0 d os
    have r3 := fun d os => cell_regrown e1 d os
    have r4 := fun d os => cell_regrown e2 d os
    have K1 : Kp (∀ d os, _) := ⟨fun d os => HI.out (grow (redrawn W1 d) os)⟩
    clear hW1 hB1 a0 a1 e0 e1 e2
    refine wp_region_quiet_below (by kernel_rfl) (by kernel_rfl) ?_
    repeat (any_goals (first | go_big_quiet_step (first | (with_reducible exact Calls.regrown_of (K1.out _ _))) | quiet_step (first | (with_reducible exact Calls.regrown_of (K1.out _ _)))))
    refine wpQuiet_nil ?_
    intro _ hqw
    obtain ⟨⟨dq, osq⟩, hqv⟩ := hqw
    subst hqv
    go_wp2
    go_ret
    exact ⟨ret_bool HR.out.symm, HB1.out.trans ((below_regrown W1 dq osq).mono HB1.out.size)⟩
  | true =>
    have hb := idx_bd hs hin
    have hb2 := idx_ins hin
    obtain ⟨k, hk⟩ : ∃ k : Nat, idx s g = k := ⟨(idx s g).toNat, by omega⟩
    have hkl : k < h.length := by
      rw [hl]
      have : ((k : Nat) : Int) < ((s * s * s : Nat) : Int) := by rw [← hk]; push_cast; exact hb2.2
      omega
    have HX : Kp (∀ W, Calls Try.prog 71 #[.int .i64 s, .agg #[.int .i64 g.x, .int .i64 g.y, .int .i64 g.z]] W fun e w' => e = .returned (.int .i64 k) ∧ Below W.heap.size W w') := ⟨fun W => hk ▸ rplace_any hs g hin W⟩
    obtain ⟨x, hx⟩ : ∃ x, h[k]? = some x := ⟨_, List.getElem?_eq_getElem hkl⟩
    have HR : Kp (hasB s h g = x) := ⟨by unfold hasB; rw [hin, hk, List.getD_eq_getElem?_getD, show (k : Int).toNat = k from rfl, hx]; rfl⟩
    obtain ⟨b, o, rfl, hbl, hcell⟩ := hi k x hx
    obtain ⟨gx, gy, gz⟩ := g
    rw [hin] at HI
    have o1 : (k : Int) < (h.length : Int) := by omega
    clear hi hl hin hs hb hb2 hk hx
    go_enter Try.func45, Try.ntmps45
    go_wp2
    obtain ⟨W1, hW1⟩ : ∃ W1, (w.alloc (.cells #[.int .i64 s, .slice (some ⟨b, o, none⟩) h.length c] 24)).alloc (.cells #[.int .i64 gx, .int .i64 gy, .int .i64 gz] 48) = W1 := ⟨_, rfl⟩
    rw [hW1]
    obtain ⟨hB1, a0, a1, e0, e1, e2⟩ := has_start hW1
    have a5 : W1.cell? ⟨b, o + k, none⟩ = some (.bool x) := (hB1.cell (p := ⟨b, _, none⟩) hbl).trans hcell
    have HB1 := Kp.mk hB1
    have r0 := fun d os => cell_regrown a0 d os
    have r1 := fun d os => cell_regrown a1 d os
    have r2 := fun d os => cell_regrown e0 d os
    have r3 := fun d os => cell_regrown e1 d os
    have r4 := fun d os => cell_regrown e2 d os
    have r5 := fun d os => cell_regrown a5 d os
    have K1 : Kp (∀ d os, _) := ⟨fun d os => HI.out (grow (redrawn W1 d) os)⟩
    have K2 : Kp (∀ d os, _) := ⟨fun d os => HX.out (grow (redrawn W1 d) os)⟩
    clear hW1 hB1 a0 a1 e0 e1 e2 a5 hcell
    refine wp_region_quiet_below (by kernel_rfl) (by kernel_rfl) ?_
    repeat (any_goals (first | go_big_quiet_step (first | (with_reducible exact Calls.regrown_of (K1.out _ _)) | (with_reducible exact Calls.regrown_of (K2.out _ _))) | quiet_step (first | (with_reducible exact Calls.regrown_of (K1.out _ _)) | (with_reducible exact Calls.regrown_of (K2.out _ _)))))
    refine wpQuiet_nil ?_
    intro _ hqw
    obtain ⟨⟨dq, osq⟩, hqv⟩ := hqw
    subst hqv
    go_wp2
    go_ret
    exact ⟨ret_bool HR.out.symm, HB1.out.trans ((below_regrown W1 dq osq).mono HB1.out.size)⟩
end Go.Proofs.Ytcjlijiifhggfaa.Cv
