/-
  WALKS (layer 4, cold): a rule that is valid, by the program and by the reference.
-/
import Derived.Test.YteidabpflfkdcaaDoorCdWalkA
namespace Go.Proofs.YteidabpflfkdcaaDoor.Cd
open Go Go.RowKit

/-- A rule. -/
def ruleB (a b c d e : Int) : Bool := inB (-1000) 1000 a && (inB (-1000) 1000 e && (decide (a ≤ e) && (inB 1 10000 b && (inB 1 5 c && inB 0 10000 d))))
theorem rule_iff {a b c d e : Int} : ruleB a b c d e = true ↔ (-1000 ≤ a ∧ a ≤ 1000) ∧ (-1000 ≤ e ∧ e ≤ 1000) ∧ a ≤ e ∧ (1 ≤ b ∧ b ≤ 10000) ∧ (1 ≤ c ∧ c ≤ 5) ∧ (0 ≤ d ∧ d ≤ 10000) := by
  simp only [ruleB, Bool.and_eq_true, in_iff, decide_eq_true_eq]
theorem ValidRule_any (a b c d e : Int) (w : World) : Calls Tryd.prog 67 #[.agg #[.int .i64 a, .int .i64 b, .int .i64 c, .int .i64 d, .int .i64 e]] w fun en w' => en = .returned (.bool (ruleB a b c d e)) ∧ Below w.heap.size w w' := by
  have HW : Kp (Below w.heap.size w (w.alloc (.cells #[.int .i64 a, .int .i64 b, .int .i64 c, .int .i64 d, .int .i64 e] 46))) := ⟨(Below.refl _ w).alloc (Nat.le_refl _) _⟩
  go_enter Tryd.func67, Tryd.ntmps67
  go_wp2_with fail
  refine (isTemp_any a _).mono ?_
  cases h1 : inB (-1000) 1000 a with
  | false =>
    have HE : Kp (ruleB a b c d e = false) := ⟨by unfold ruleB; rw [h1]; rfl⟩
    clear h1
    rintro en w1 ⟨rfl, hb1⟩
    have HB1 : Kp (Below w.heap.size w w1) := ⟨Below.trans (by repeat (first | refine Below.alloc ?_ (by (try simp) <;> omega) _ | refine bDrewN ?_ _ | refine Below.drew ?_ | exact Below.refl _ _)) (hb1.mono (by (try simp) <;> omega))⟩
    have hz1_0 : w.heap.size < w1.heap.size := by have := hb1.size; (try simp at this); omega
    obtain ⟨hc, hf⟩ := bcell hb1
    have c1_0_0 : w1.cell? ⟨w.heap.size, 0, none⟩ = some (.int .i64 a) := (hc _ _ (by (try simp) <;> omega)).trans (by go_simp)
    have c1_0_1 : w1.cell? ⟨w.heap.size, 1, none⟩ = some (.int .i64 b) := (hc _ _ (by (try simp) <;> omega)).trans (by go_simp)
    have c1_0_2 : w1.cell? ⟨w.heap.size, 2, none⟩ = some (.int .i64 c) := (hc _ _ (by (try simp) <;> omega)).trans (by go_simp)
    have c1_0_3 : w1.cell? ⟨w.heap.size, 3, none⟩ = some (.int .i64 d) := (hc _ _ (by (try simp) <;> omega)).trans (by go_simp)
    have c1_0_4 : w1.cell? ⟨w.heap.size, 4, none⟩ = some (.int .i64 e) := (hc _ _ (by (try simp) <;> omega)).trans (by go_simp)
    have z1_0 : ∀ j, w1.frozen? ⟨w.heap.size, j, none⟩ = false := fun j => (hf _ _ (by (try simp) <;> omega)).trans (by go_simp)
    clear hc hf hb1
    go_wp2
    go_ret
    exact ⟨ret_bool HE.out.symm, (by have hzS := HB1.out.size; (repeat (with_reducible first | exact HB1.out | refine Below.alloc ?_ ?_ _)); all_goals ((try simp) <;> omega))⟩
  | true =>
    have H1 : Kp (inB (-1000) 1000 a = true) := ⟨h1⟩
    clear h1
    rintro en w1 ⟨rfl, hb1⟩
    have HB1 : Kp (Below w.heap.size w w1) := ⟨Below.trans (by repeat (first | refine Below.alloc ?_ (by (try simp) <;> omega) _ | refine bDrewN ?_ _ | refine Below.drew ?_ | exact Below.refl _ _)) (hb1.mono (by (try simp) <;> omega))⟩
    have hz1_0 : w.heap.size < w1.heap.size := by have := hb1.size; (try simp at this); omega
    obtain ⟨hc, hf⟩ := bcell hb1
    have c1_0_0 : w1.cell? ⟨w.heap.size, 0, none⟩ = some (.int .i64 a) := (hc _ _ (by (try simp) <;> omega)).trans (by go_simp)
    have c1_0_1 : w1.cell? ⟨w.heap.size, 1, none⟩ = some (.int .i64 b) := (hc _ _ (by (try simp) <;> omega)).trans (by go_simp)
    have c1_0_2 : w1.cell? ⟨w.heap.size, 2, none⟩ = some (.int .i64 c) := (hc _ _ (by (try simp) <;> omega)).trans (by go_simp)
    have c1_0_3 : w1.cell? ⟨w.heap.size, 3, none⟩ = some (.int .i64 d) := (hc _ _ (by (try simp) <;> omega)).trans (by go_simp)
    have c1_0_4 : w1.cell? ⟨w.heap.size, 4, none⟩ = some (.int .i64 e) := (hc _ _ (by (try simp) <;> omega)).trans (by go_simp)
    have z1_0 : ∀ j, w1.frozen? ⟨w.heap.size, j, none⟩ = false := fun j => (hf _ _ (by (try simp) <;> omega)).trans (by go_simp)
    clear hc hf hb1
    go_wp2_with fail
    refine (isTemp_any e _).mono ?_
    cases h2 : inB (-1000) 1000 e with
    | false =>
      have HE : Kp (ruleB a b c d e = false) := ⟨by unfold ruleB; rw [H1.out, h2]; rfl⟩
      clear h2
      rintro en w2 ⟨rfl, hb2⟩
      have HB2 : Kp (Below w.heap.size w w2) := ⟨Below.trans (by repeat (first | refine Below.alloc ?_ (by have := HB1.out.size; (try simp) <;> omega) _ | refine bDrewN ?_ _ | refine Below.drew ?_ | exact HB1.out)) (hb2.mono (by have := HB1.out.size; (try simp) <;> omega))⟩
      have hz2_0 : w.heap.size < w2.heap.size := by have := hb2.size; (try simp at this); omega
      obtain ⟨hc, hf⟩ := bcell hb2
      have c2_0_0 : w2.cell? ⟨w.heap.size, 0, none⟩ = some (.int .i64 a) := (hc _ _ (by (try simp) <;> omega)).trans (by go_simp)
      have c2_0_1 : w2.cell? ⟨w.heap.size, 1, none⟩ = some (.int .i64 b) := (hc _ _ (by (try simp) <;> omega)).trans (by go_simp)
      have c2_0_2 : w2.cell? ⟨w.heap.size, 2, none⟩ = some (.int .i64 c) := (hc _ _ (by (try simp) <;> omega)).trans (by go_simp)
      have c2_0_3 : w2.cell? ⟨w.heap.size, 3, none⟩ = some (.int .i64 d) := (hc _ _ (by (try simp) <;> omega)).trans (by go_simp)
      have c2_0_4 : w2.cell? ⟨w.heap.size, 4, none⟩ = some (.int .i64 e) := (hc _ _ (by (try simp) <;> omega)).trans (by go_simp)
      have z2_0 : ∀ j, w2.frozen? ⟨w.heap.size, j, none⟩ = false := fun j => (hf _ _ (by (try simp) <;> omega)).trans (by go_simp)
      clear hc hf hb2
      go_wp2
      go_ret
      exact ⟨ret_bool HE.out.symm, (by have hzS := HB2.out.size; (repeat (with_reducible first | exact HB2.out | refine Below.alloc ?_ ?_ _)); all_goals ((try simp) <;> omega))⟩
    | true =>
      have H2 : Kp (inB (-1000) 1000 e = true) := ⟨h2⟩
      clear h2
      rintro en w2 ⟨rfl, hb2⟩
      have HB2 : Kp (Below w.heap.size w w2) := ⟨Below.trans (by repeat (first | refine Below.alloc ?_ (by have := HB1.out.size; (try simp) <;> omega) _ | refine bDrewN ?_ _ | refine Below.drew ?_ | exact HB1.out)) (hb2.mono (by have := HB1.out.size; (try simp) <;> omega))⟩
      have hz2_0 : w.heap.size < w2.heap.size := by have := hb2.size; (try simp at this); omega
      obtain ⟨hc, hf⟩ := bcell hb2
      have c2_0_0 : w2.cell? ⟨w.heap.size, 0, none⟩ = some (.int .i64 a) := (hc _ _ (by (try simp) <;> omega)).trans (by go_simp)
      have c2_0_1 : w2.cell? ⟨w.heap.size, 1, none⟩ = some (.int .i64 b) := (hc _ _ (by (try simp) <;> omega)).trans (by go_simp)
      have c2_0_2 : w2.cell? ⟨w.heap.size, 2, none⟩ = some (.int .i64 c) := (hc _ _ (by (try simp) <;> omega)).trans (by go_simp)
      have c2_0_3 : w2.cell? ⟨w.heap.size, 3, none⟩ = some (.int .i64 d) := (hc _ _ (by (try simp) <;> omega)).trans (by go_simp)
      have c2_0_4 : w2.cell? ⟨w.heap.size, 4, none⟩ = some (.int .i64 e) := (hc _ _ (by (try simp) <;> omega)).trans (by go_simp)
      have z2_0 : ∀ j, w2.frozen? ⟨w.heap.size, j, none⟩ = false := fun j => (hf _ _ (by (try simp) <;> omega)).trans (by go_simp)
      clear hc hf hb2
      by_cases h3 : a ≤ e
      rotate_left
      · have HE : Kp (ruleB a b c d e = false) := ⟨by unfold ruleB; rw [H1.out, H2.out, decide_eq_false h3]; rfl⟩
        go_wp2
        go_ret
        exact ⟨ret_bool HE.out.symm, (by have hzS := HB2.out.size; (repeat (with_reducible first | exact HB2.out | refine Below.alloc ?_ ?_ _)); all_goals ((try simp) <;> omega))⟩
      have H3 : Kp (decide (a ≤ e) = true) := ⟨decide_eq_true h3⟩
      go_wp2_with fail
      refine (within_any 1 10000 _ [b] _ (NS.one (by go_simp)) (by simp)).mono ?_
      rw [allB1]
      cases h4 : inB 1 10000 b with
      | false =>
        have HE : Kp (ruleB a b c d e = false) := ⟨by unfold ruleB; rw [H1.out, H2.out, H3.out, h4]; rfl⟩
        clear h4
        rintro en w3 ⟨rfl, rfl⟩
        go_wp2
        go_ret
        exact ⟨ret_bool HE.out.symm, (by have hzS := HB2.out.size; (repeat (with_reducible first | exact HB2.out | refine Below.alloc ?_ ?_ _)); all_goals ((try simp) <;> omega))⟩
      | true =>
        have H4 : Kp (inB 1 10000 b = true) := ⟨h4⟩
        clear h4
        rintro en w3 ⟨rfl, rfl⟩
        go_wp2_with fail
        refine (within_any 1 5 _ [c] _ (NS.one (by go_simp)) (by simp)).mono ?_
        rw [allB1]
        cases h5 : inB 1 5 c with
        | false =>
          have HE : Kp (ruleB a b c d e = false) := ⟨by unfold ruleB; rw [H1.out, H2.out, H3.out, H4.out, h5]; rfl⟩
          clear h5
          rintro en w3 ⟨rfl, rfl⟩
          go_wp2
          go_ret
          exact ⟨ret_bool HE.out.symm, (by have hzS := HB2.out.size; (repeat (with_reducible first | exact HB2.out | refine Below.alloc ?_ ?_ _)); all_goals ((try simp) <;> omega))⟩
        | true =>
          have H5 : Kp (inB 1 5 c = true) := ⟨h5⟩
          clear h5
          rintro en w3 ⟨rfl, rfl⟩
          go_wp2_with fail
          refine (within_any 0 10000 _ [d] _ (NS.one (by go_simp)) (by simp)).mono ?_
          rw [allB1]
          cases h6 : inB 0 10000 d with
          | false =>
            have HE : Kp (ruleB a b c d e = false) := ⟨by unfold ruleB; rw [H1.out, H2.out, H3.out, H4.out, H5.out, h6]; rfl⟩
            clear h6
            rintro en w3 ⟨rfl, rfl⟩
            go_wp2
            go_ret
            exact ⟨ret_bool HE.out.symm, (by have hzS := HB2.out.size; (repeat (with_reducible first | exact HB2.out | refine Below.alloc ?_ ?_ _)); all_goals ((try simp) <;> omega))⟩
          | true =>
            have HE : Kp (ruleB a b c d e = true) := ⟨by unfold ruleB; rw [H1.out, H2.out, H3.out, H4.out, H5.out, h6]; rfl⟩
            clear h6
            rintro en w3 ⟨rfl, rfl⟩
            go_wp2
            go_ret
            exact ⟨ret_bool HE.out.symm, (by have hzS := HB2.out.size; (repeat (with_reducible first | exact HB2.out | refine Below.alloc ?_ ?_ _)); all_goals ((try simp) <;> omega))⟩
theorem ValidRule_yes {a b c d e : Int} (h : ruleB a b c d e = true) (w : World) : Calls Tryd.prog 67 #[.agg #[.int .i64 a, .int .i64 b, .int .i64 c, .int .i64 d, .int .i64 e]] w fun en w' => en = .returned (.bool true) ∧ Below w.heap.size w w' := h ▸ ValidRule_any a b c d e w
theorem ValidRule_no {a b c d e : Int} (h : ruleB a b c d e = false) (w : World) : Calls Tryd.prog 67 #[.agg #[.int .i64 a, .int .i64 b, .int .i64 c, .int .i64 d, .int .i64 e]] w fun en w' => en = .returned (.bool false) ∧ Below w.heap.size w w' := h ▸ ValidRule_any a b c d e w
end Go.Proofs.YteidabpflfkdcaaDoor.Cd
