/-
  WALKS (layer 9, loan): what is asked of, and changed in, one loan.
-/
import Derived.Test.YtaofjomocefdkaaLnClone
namespace Go.Proofs.Ytaofjomocefdkaa.Ln
open Go Go.RowKit Go.Sort

theorem isOpen_any (x : Loan) (s : ByteArray) (w : World) : Calls Try.prog 99 #[.agg #[.string x.p, .string x.t, .int .i64 x.out, .int .i64 x.due, .int .i64 x.back], .string s] w fun e w' => e = .returned (.bool (openB s x)) ∧ Below w.heap.size w w' := by
  have HI : Kp (∀ W, Calls Try.prog 63 #[.agg #[.string x.p, .string x.t, .int .i64 x.out, .int .i64 x.due, .int .i64 x.back], .string s] W fun e w' => e = .returned (.bool (eqS x.p s)) ∧ Below W.heap.size W w') := ⟨fun W => isOf_any x s W⟩
  unfold openB
  obtain ⟨P, hP⟩ : ∃ P, eqS x.p s = P := ⟨_, rfl⟩
  obtain ⟨Q, hQ⟩ : ∃ Q, (x.back == (0 : Int)) = Q := ⟨_, rfl⟩
  rw [hP] at HI
  rw [hP, hQ]
  clear hP
  obtain ⟨p, t, o, d, b⟩ := x
  simp only at *
  go_enter Try.func99, Try.ntmps99
  go_wp2_with fail
  refine (HI.out _).mono ?_
  rintro en w1 ⟨rfl, hb1⟩
  have HB1 : Kp (Below w.heap.size w w1) := ⟨Below.trans (by repeat (first | refine Below.alloc ?_ (by (try simp) <;> omega) _ | refine bDrewN ?_ _ | refine Below.drew ?_ | refine Below.setCell ?_ (by (try simp) <;> omega) _ | exact Below.refl _ _)) (hb1.mono (by (try simp) <;> omega))⟩
  have hz1_0 : w.heap.size < w1.heap.size := by have := hb1.size; (try simp at this); omega
  obtain ⟨hc, hf⟩ := bcell hb1
  have c1_0_0 : w1.cell? ⟨w.heap.size, 0, none⟩ = some ((.string p)) := (hc _ _ (by (try simp) <;> omega)).trans (by go_simp)
  have c1_0_1 : w1.cell? ⟨w.heap.size, 1, none⟩ = some ((.string t)) := (hc _ _ (by (try simp) <;> omega)).trans (by go_simp)
  have c1_0_2 : w1.cell? ⟨w.heap.size, 2, none⟩ = some (.int .i64 o) := (hc _ _ (by (try simp) <;> omega)).trans (by go_simp)
  have c1_0_3 : w1.cell? ⟨w.heap.size, 3, none⟩ = some (.int .i64 d) := (hc _ _ (by (try simp) <;> omega)).trans (by go_simp)
  have c1_0_4 : w1.cell? ⟨w.heap.size, 4, none⟩ = some (.int .i64 b) := (hc _ _ (by (try simp) <;> omega)).trans (by go_simp)
  have z1_0 : ∀ j, w1.frozen? ⟨w.heap.size, j, none⟩ = false := fun j => (hf _ _ (by (try simp) <;> omega)).trans (by go_simp)
  clear hc hf hb1
  cases P
  all_goals
    go_wp2
    go_ret
    exact ⟨rfl, HB1.out⟩
set_option maxHeartbeats 1000000 in
theorem back_any (x : Loan) (n : Int) (w : World) : Calls Try.prog 74 #[.agg #[.string x.p, .string x.t, .int .i64 x.out, .int .i64 x.due, .int .i64 x.back], .int .i64 n] w fun e w' => e = .returned (.tuple #[.agg #[.string x.p, .string x.t, .int .i64 x.out, .int .i64 x.due, .int .i64 n], .bool (backOk n x)]) ∧ Below w.heap.size w w' := by
  unfold backOk
  obtain ⟨R, hR⟩ : ∃ R, decide (x.out < n) = R := ⟨_, rfl⟩
  rw [hR]
  obtain ⟨p, t, o, d, b⟩ := x
  simp only at *
  go_enter Try.func74, Try.ntmps74
  go_wp2
  go_region_with (fail)
  all_goals
    go_wp2
    exact bodyPost_ret (v := .tuple #[.agg #[.string p, .string t, .int .i64 o, .int .i64 d, .int .i64 n], .bool R]) (by simp [results, Try.results74, go_sem]) rfl ⟨rfl, by repeat (first | exact Below.refl _ _ | refine Below.alloc ?_ (by simp <;> omega) _ | refine bDrewN ?_ _ | refine Below.drew ?_)⟩
theorem renewed_any (x : Loan) (n : Int) (w : World) : Calls Try.prog 76 #[.agg #[.string x.p, .string x.t, .int .i64 x.out, .int .i64 x.due, .int .i64 x.back], .int .i64 n] w fun e w' => e = .returned (.tuple #[.agg #[.string x.p, .string x.t, .int .i64 x.out, .int .i64 n, .int .i64 x.back], .bool (dueOk n x)]) ∧ Below w.heap.size w w' := by
  unfold dueOk
  obtain ⟨R, hR⟩ : ∃ R, decide (x.due < n) = R := ⟨_, rfl⟩
  rw [hR]
  obtain ⟨p, t, o, d, b⟩ := x
  simp only at *
  go_enter Try.func76, Try.ntmps76
  go_wp2
  exact bodyPost_ret (v := .tuple #[.agg #[.string p, .string t, .int .i64 o, .int .i64 n, .int .i64 b], .bool R]) (by simp [results, Try.results76, go_sem]) rfl ⟨rfl, by repeat (first | exact Below.refl _ _ | refine Below.alloc ?_ (by simp <;> omega) _ | refine bDrewN ?_ _ | refine Below.drew ?_)⟩
end Go.Proofs.Ytaofjomocefdkaa.Ln
