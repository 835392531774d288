/-
  THE WALK of the law ColdReadings.
-/
import Derived.Test.YtifgdmalkebcaaaCdAwake
import Derived.Test.YtifgdmalkebcaaaCdRAt
import Derived.Test.YtifgdmalkebcaaaCdCold
namespace Go.Proofs.Ytifgdmalkebcaaa.Cd
open Go Go.RowKit Go.Sort

def Ends (w : World) (e : Ending) (w' : World) : Prop := e = .returned (.bool true) ∧ Below w.heap.size w w'
theorem lawReadings_long (u : Value) (l : List Rd) (e a b c d g x y : Int) (w : World) (hs : RS w u l) (h : 300 < l.length) :
    Calls Try.prog 3 #[.agg #[u, .int .i64 e], .agg #[.int .i64 a, .int .i64 b, .int .i64 c, .int .i64 d, .int .i64 g], .agg #[.int .i64 x, .int .i64 y]] w (Ends w) := by
  obtain ⟨gl, cl, rfl⟩ := hs.shape
  have hd : decide (l.length ≤ 300) = false := decide_eq_false (by omega)
  clear hs h
  go_enter Try.func3, Try.ntmps3
  go_wp2_with fail
  refine (short_any gl none l.length cl 0 0 _).mono ?_
  rw [hd]
  rintro en w1 ⟨rfl, rfl⟩
  go_wp2_with fail
  refine (awake_any _).mono ?_
  rintro en w2 ⟨rfl, hb2⟩
  have HB2 : Kp (Below w.heap.size w w2) := ⟨Below.trans (by repeat (first | exact Below.refl _ _ | refine Below.alloc ?_ (by simp <;> omega) _ | refine bDrewN ?_ _ | refine Below.drew ?_)) (hb2.mono (by simp <;> omega))⟩
  clear hb2
  go_wp2
  go_ret
  exact ⟨rfl, HB2.out⟩
theorem lawReadings_core (u : Value) (e a b c d g x y : Int) (n : Nat) (A E C F : Int) (V R : Bool) (w : World) (hu : ∃ gl cl, u = .slice gl n cl) (hn : n ≤ 300)
    (H1 : Kp (∀ W, Below w.heap.size w W → Calls Try.prog 16 #[u, .int .i64 e, .int .i64 x] W fun en w' => en = .returned (.tuple #[.int .i64 A, .int .i64 E]) ∧ Below W.heap.size W w'))
    (H2 : Kp (∀ W, Below w.heap.size w W → Calls Try.prog 17 #[u, .int .i64 e, .int .i64 x] W fun en w' => en = .returned (.tuple #[.int .i64 A, .int .i64 E]) ∧ Below W.heap.size W w'))
    (H3 : Kp (∀ W, Below w.heap.size w W → Calls Try.prog 18 #[u, .int .i64 e, .int .i64 y] W fun en w' => en = .returned (.tuple #[.int .i64 C, .int .i64 F]) ∧ Below W.heap.size W w'))
    (H4 : Kp (∀ W, Below w.heap.size w W → Calls Try.prog 19 #[u, .int .i64 e, .int .i64 y] W fun en w' => en = .returned (.tuple #[.int .i64 C, .int .i64 F]) ∧ Below W.heap.size W w'))
    (H5 : Kp (∀ W, Below w.heap.size w W → Calls Try.prog 20 #[u] W fun en w' => en = .returned (.bool V) ∧ Below W.heap.size W w'))
    (H6 : Kp (∀ W, Below w.heap.size w W → Calls Try.prog 21 #[u] W fun en w' => en = .returned (.bool V) ∧ Below W.heap.size W w'))
    (H7 : Kp (∀ W, Calls Try.prog 22 #[.agg #[.int .i64 a, .int .i64 b, .int .i64 c, .int .i64 d, .int .i64 g]] W fun en w' => en = .returned (.bool R) ∧ Below W.heap.size W w'))
    (H8 : Kp (∀ W, Calls Try.prog 23 #[.agg #[.int .i64 a, .int .i64 b, .int .i64 c, .int .i64 d, .int .i64 g]] W fun en w' => en = .returned (.bool R) ∧ Below W.heap.size W w')) :
    Calls Try.prog 3 #[.agg #[u, .int .i64 e], .agg #[.int .i64 a, .int .i64 b, .int .i64 c, .int .i64 d, .int .i64 g], .agg #[.int .i64 x, .int .i64 y]] w (Ends w) := by
  obtain ⟨gl, cl, rfl⟩ := hu
  have hd : decide (n ≤ 300) = true := decide_eq_true hn
  clear hn
  go_enter Try.func3, Try.ntmps3
  go_wp2_with fail
  refine (short_any gl none n cl 0 0 _).mono ?_
  rw [hd]
  clear hd
  rintro en w0 ⟨rfl, rfl⟩
  go_wp2_with fail
  refine (H1.out _ (by repeat (first | exact Below.refl _ _ | refine Below.alloc ?_ (by simp <;> omega) _ | refine bDrewN ?_ _ | refine Below.drew ?_))).mono ?_
  rintro en w1 ⟨rfl, hb1⟩
  have HB1 : Kp (Below w.heap.size w w1) := ⟨Below.trans (by repeat (first | refine Below.alloc ?_ (by (try simp) <;> omega) _ | refine bDrewN ?_ _ | refine Below.drew ?_ | exact Below.refl _ _)) (hb1.mono (by (try simp) <;> omega))⟩
  have hz1_0 : w.heap.size < w1.heap.size := by have := hb1.size; (try simp at this); omega
  have hz1_1 : w.heap.size + 1 < w1.heap.size := by have := hb1.size; (try simp at this); omega
  have hz1_2 : w.heap.size + 2 < w1.heap.size := by have := hb1.size; (try simp at this); omega
  obtain ⟨hc, hf⟩ := bcell hb1
  have c1_0_0 : w1.cell? ⟨w.heap.size, 0, none⟩ = some ((.slice gl n cl)) := (hc _ _ (by (try simp) <;> omega)).trans (by go_simp)
  have c1_0_1 : w1.cell? ⟨w.heap.size, 1, none⟩ = some (.int .i64 e) := (hc _ _ (by (try simp) <;> omega)).trans (by go_simp)
  have z1_0 : ∀ j, w1.frozen? ⟨w.heap.size, j, none⟩ = false := fun j => (hf _ _ (by (try simp) <;> omega)).trans (by go_simp)
  have c1_1_0 : w1.cell? ⟨w.heap.size + 1, 0, none⟩ = some (.int .i64 a) := (hc _ _ (by (try simp) <;> omega)).trans (by go_simp)
  have c1_1_1 : w1.cell? ⟨w.heap.size + 1, 1, none⟩ = some (.int .i64 b) := (hc _ _ (by (try simp) <;> omega)).trans (by go_simp)
  have c1_1_2 : w1.cell? ⟨w.heap.size + 1, 2, none⟩ = some (.int .i64 c) := (hc _ _ (by (try simp) <;> omega)).trans (by go_simp)
  have c1_1_3 : w1.cell? ⟨w.heap.size + 1, 3, none⟩ = some (.int .i64 d) := (hc _ _ (by (try simp) <;> omega)).trans (by go_simp)
  have c1_1_4 : w1.cell? ⟨w.heap.size + 1, 4, none⟩ = some (.int .i64 g) := (hc _ _ (by (try simp) <;> omega)).trans (by go_simp)
  have z1_1 : ∀ j, w1.frozen? ⟨w.heap.size + 1, j, none⟩ = false := fun j => (hf _ _ (by (try simp) <;> omega)).trans (by go_simp)
  have c1_2_0 : w1.cell? ⟨w.heap.size + 2, 0, none⟩ = some (.int .i64 x) := (hc _ _ (by (try simp) <;> omega)).trans (by go_simp)
  have c1_2_1 : w1.cell? ⟨w.heap.size + 2, 1, none⟩ = some (.int .i64 y) := (hc _ _ (by (try simp) <;> omega)).trans (by go_simp)
  have z1_2 : ∀ j, w1.frozen? ⟨w.heap.size + 2, j, none⟩ = false := fun j => (hf _ _ (by (try simp) <;> omega)).trans (by go_simp)
  clear hc hf hb1
  go_wp2_with fail
  refine (H2.out _ HB1.out).mono ?_
  rintro en w2 ⟨rfl, hb2⟩
  have HB2 : Kp (Below w.heap.size w w2) := ⟨Below.trans (by repeat (first | refine Below.alloc ?_ (by have := HB1.out.size; (try simp) <;> omega) _ | refine bDrewN ?_ _ | refine Below.drew ?_ | exact HB1.out)) (hb2.mono (by have := HB1.out.size; (try simp) <;> omega))⟩
  have hz2_0 : w.heap.size < w2.heap.size := by have := hb2.size; (try simp at this); omega
  have hz2_1 : w.heap.size + 1 < w2.heap.size := by have := hb2.size; (try simp at this); omega
  have hz2_2 : w.heap.size + 2 < w2.heap.size := by have := hb2.size; (try simp at this); omega
  obtain ⟨hc, hf⟩ := bcell hb2
  have c2_0_0 : w2.cell? ⟨w.heap.size, 0, none⟩ = some ((.slice gl n cl)) := (hc _ _ (by (try simp) <;> omega)).trans (by go_simp)
  have c2_0_1 : w2.cell? ⟨w.heap.size, 1, none⟩ = some (.int .i64 e) := (hc _ _ (by (try simp) <;> omega)).trans (by go_simp)
  have z2_0 : ∀ j, w2.frozen? ⟨w.heap.size, j, none⟩ = false := fun j => (hf _ _ (by (try simp) <;> omega)).trans (by go_simp)
  have c2_1_0 : w2.cell? ⟨w.heap.size + 1, 0, none⟩ = some (.int .i64 a) := (hc _ _ (by (try simp) <;> omega)).trans (by go_simp)
  have c2_1_1 : w2.cell? ⟨w.heap.size + 1, 1, none⟩ = some (.int .i64 b) := (hc _ _ (by (try simp) <;> omega)).trans (by go_simp)
  have c2_1_2 : w2.cell? ⟨w.heap.size + 1, 2, none⟩ = some (.int .i64 c) := (hc _ _ (by (try simp) <;> omega)).trans (by go_simp)
  have c2_1_3 : w2.cell? ⟨w.heap.size + 1, 3, none⟩ = some (.int .i64 d) := (hc _ _ (by (try simp) <;> omega)).trans (by go_simp)
  have c2_1_4 : w2.cell? ⟨w.heap.size + 1, 4, none⟩ = some (.int .i64 g) := (hc _ _ (by (try simp) <;> omega)).trans (by go_simp)
  have z2_1 : ∀ j, w2.frozen? ⟨w.heap.size + 1, j, none⟩ = false := fun j => (hf _ _ (by (try simp) <;> omega)).trans (by go_simp)
  have c2_2_0 : w2.cell? ⟨w.heap.size + 2, 0, none⟩ = some (.int .i64 x) := (hc _ _ (by (try simp) <;> omega)).trans (by go_simp)
  have c2_2_1 : w2.cell? ⟨w.heap.size + 2, 1, none⟩ = some (.int .i64 y) := (hc _ _ (by (try simp) <;> omega)).trans (by go_simp)
  have z2_2 : ∀ j, w2.frozen? ⟨w.heap.size + 2, j, none⟩ = false := fun j => (hf _ _ (by (try simp) <;> omega)).trans (by go_simp)
  clear hc hf hb2
  go_wp2_with fail
  refine (H3.out _ HB2.out).mono ?_
  rintro en w3 ⟨rfl, hb3⟩
  have HB3 : Kp (Below w.heap.size w w3) := ⟨Below.trans (by repeat (first | refine Below.alloc ?_ (by have := HB2.out.size; (try simp) <;> omega) _ | refine bDrewN ?_ _ | refine Below.drew ?_ | exact HB2.out)) (hb3.mono (by have := HB2.out.size; (try simp) <;> omega))⟩
  have hz3_0 : w.heap.size < w3.heap.size := by have := hb3.size; (try simp at this); omega
  have hz3_1 : w.heap.size + 1 < w3.heap.size := by have := hb3.size; (try simp at this); omega
  have hz3_2 : w.heap.size + 2 < w3.heap.size := by have := hb3.size; (try simp at this); omega
  obtain ⟨hc, hf⟩ := bcell hb3
  have c3_0_0 : w3.cell? ⟨w.heap.size, 0, none⟩ = some ((.slice gl n cl)) := (hc _ _ (by (try simp) <;> omega)).trans (by go_simp)
  have c3_0_1 : w3.cell? ⟨w.heap.size, 1, none⟩ = some (.int .i64 e) := (hc _ _ (by (try simp) <;> omega)).trans (by go_simp)
  have z3_0 : ∀ j, w3.frozen? ⟨w.heap.size, j, none⟩ = false := fun j => (hf _ _ (by (try simp) <;> omega)).trans (by go_simp)
  have c3_1_0 : w3.cell? ⟨w.heap.size + 1, 0, none⟩ = some (.int .i64 a) := (hc _ _ (by (try simp) <;> omega)).trans (by go_simp)
  have c3_1_1 : w3.cell? ⟨w.heap.size + 1, 1, none⟩ = some (.int .i64 b) := (hc _ _ (by (try simp) <;> omega)).trans (by go_simp)
  have c3_1_2 : w3.cell? ⟨w.heap.size + 1, 2, none⟩ = some (.int .i64 c) := (hc _ _ (by (try simp) <;> omega)).trans (by go_simp)
  have c3_1_3 : w3.cell? ⟨w.heap.size + 1, 3, none⟩ = some (.int .i64 d) := (hc _ _ (by (try simp) <;> omega)).trans (by go_simp)
  have c3_1_4 : w3.cell? ⟨w.heap.size + 1, 4, none⟩ = some (.int .i64 g) := (hc _ _ (by (try simp) <;> omega)).trans (by go_simp)
  have z3_1 : ∀ j, w3.frozen? ⟨w.heap.size + 1, j, none⟩ = false := fun j => (hf _ _ (by (try simp) <;> omega)).trans (by go_simp)
  have c3_2_0 : w3.cell? ⟨w.heap.size + 2, 0, none⟩ = some (.int .i64 x) := (hc _ _ (by (try simp) <;> omega)).trans (by go_simp)
  have c3_2_1 : w3.cell? ⟨w.heap.size + 2, 1, none⟩ = some (.int .i64 y) := (hc _ _ (by (try simp) <;> omega)).trans (by go_simp)
  have z3_2 : ∀ j, w3.frozen? ⟨w.heap.size + 2, j, none⟩ = false := fun j => (hf _ _ (by (try simp) <;> omega)).trans (by go_simp)
  clear hc hf hb3
  go_wp2_with fail
  refine (H4.out _ HB3.out).mono ?_
  rintro en w4 ⟨rfl, hb4⟩
  have HB4 : Kp (Below w.heap.size w w4) := ⟨Below.trans (by repeat (first | refine Below.alloc ?_ (by have := HB3.out.size; (try simp) <;> omega) _ | refine bDrewN ?_ _ | refine Below.drew ?_ | exact HB3.out)) (hb4.mono (by have := HB3.out.size; (try simp) <;> omega))⟩
  have hz4_0 : w.heap.size < w4.heap.size := by have := hb4.size; (try simp at this); omega
  have hz4_1 : w.heap.size + 1 < w4.heap.size := by have := hb4.size; (try simp at this); omega
  have hz4_2 : w.heap.size + 2 < w4.heap.size := by have := hb4.size; (try simp at this); omega
  obtain ⟨hc, hf⟩ := bcell hb4
  have c4_0_0 : w4.cell? ⟨w.heap.size, 0, none⟩ = some ((.slice gl n cl)) := (hc _ _ (by (try simp) <;> omega)).trans (by go_simp)
  have c4_0_1 : w4.cell? ⟨w.heap.size, 1, none⟩ = some (.int .i64 e) := (hc _ _ (by (try simp) <;> omega)).trans (by go_simp)
  have z4_0 : ∀ j, w4.frozen? ⟨w.heap.size, j, none⟩ = false := fun j => (hf _ _ (by (try simp) <;> omega)).trans (by go_simp)
  have c4_1_0 : w4.cell? ⟨w.heap.size + 1, 0, none⟩ = some (.int .i64 a) := (hc _ _ (by (try simp) <;> omega)).trans (by go_simp)
  have c4_1_1 : w4.cell? ⟨w.heap.size + 1, 1, none⟩ = some (.int .i64 b) := (hc _ _ (by (try simp) <;> omega)).trans (by go_simp)
  have c4_1_2 : w4.cell? ⟨w.heap.size + 1, 2, none⟩ = some (.int .i64 c) := (hc _ _ (by (try simp) <;> omega)).trans (by go_simp)
  have c4_1_3 : w4.cell? ⟨w.heap.size + 1, 3, none⟩ = some (.int .i64 d) := (hc _ _ (by (try simp) <;> omega)).trans (by go_simp)
  have c4_1_4 : w4.cell? ⟨w.heap.size + 1, 4, none⟩ = some (.int .i64 g) := (hc _ _ (by (try simp) <;> omega)).trans (by go_simp)
  have z4_1 : ∀ j, w4.frozen? ⟨w.heap.size + 1, j, none⟩ = false := fun j => (hf _ _ (by (try simp) <;> omega)).trans (by go_simp)
  have c4_2_0 : w4.cell? ⟨w.heap.size + 2, 0, none⟩ = some (.int .i64 x) := (hc _ _ (by (try simp) <;> omega)).trans (by go_simp)
  have c4_2_1 : w4.cell? ⟨w.heap.size + 2, 1, none⟩ = some (.int .i64 y) := (hc _ _ (by (try simp) <;> omega)).trans (by go_simp)
  have z4_2 : ∀ j, w4.frozen? ⟨w.heap.size + 2, j, none⟩ = false := fun j => (hf _ _ (by (try simp) <;> omega)).trans (by go_simp)
  clear hc hf hb4
  go_wp2
  have r4_0_0 := fun d os => cell_regrown c4_0_0 d os
  have r4_0_1 := fun d os => cell_regrown c4_0_1 d os
  have r4_1_0 := fun d os => cell_regrown c4_1_0 d os
  have r4_1_1 := fun d os => cell_regrown c4_1_1 d os
  have r4_1_2 := fun d os => cell_regrown c4_1_2 d os
  have r4_1_3 := fun d os => cell_regrown c4_1_3 d os
  have r4_1_4 := fun d os => cell_regrown c4_1_4 d os
  have K1 : Kp (∀ d os, _) := ⟨fun d os => H5.out (grow (redrawn w4 d) os) (HB4.out.trans ((below_regrown w4 d os).mono HB4.out.size))⟩
  have K2 : Kp (∀ d os, _) := ⟨fun d os => H6.out (grow (redrawn w4 d) os) (HB4.out.trans ((below_regrown w4 d os).mono HB4.out.size))⟩
  have K3 : Kp (∀ d os, _) := ⟨fun d os => H7.out (grow (redrawn w4 d) os)⟩
  have K4 : Kp (∀ d os, _) := ⟨fun d os => H8.out (grow (redrawn w4 d) os)⟩
  have K5 : Kp (∀ d os, _) := ⟨fun d os => awake_any (grow (redrawn w4 d) os)⟩
  refine wp_region_quiet_below (by kernel_rfl) (by kernel_rfl) ?_
  repeat (any_goals (first | go_big_quiet_step (first | (with_reducible exact Calls.regrown_of (K1.out _ _)) | (with_reducible exact Calls.regrown_of (K2.out _ _)) | (with_reducible exact Calls.regrown_of (K3.out _ _)) | (with_reducible exact Calls.regrown_of (K4.out _ _)) | (with_reducible exact Calls.regrown_of (K5.out _ _))) | quiet_step (first | (with_reducible exact Calls.regrown_of (K1.out _ _)) | (with_reducible exact Calls.regrown_of (K2.out _ _)) | (with_reducible exact Calls.regrown_of (K3.out _ _)) | (with_reducible exact Calls.regrown_of (K4.out _ _)) | (with_reducible exact Calls.regrown_of (K5.out _ _)))))
  refine wpQuiet_nil ?_
  intro _ hqw
  obtain ⟨⟨dq, osq⟩, hqv⟩ := hqw
  subst hqv
  go_wp2
  go_ret
  exact ⟨rfl, HB4.out.trans ((below_regrown w4 dq osq).mono HB4.out.size)⟩
theorem lawReadings_any (u : Value) (l : List Rd) (e a b c d g x y : Int) (w : World) (hs : RS w u l) :
    Calls Try.prog 3 #[.agg #[u, .int .i64 e], .agg #[.int .i64 a, .int .i64 b, .int .i64 c, .int .i64 d, .int .i64 g], .agg #[.int .i64 x, .int .i64 y]] w (Ends w) := by
  by_cases h : 300 < l.length
  · exact lawReadings_long u l e a b c d g x y w hs h
  · have hm : l.length ≤ 100000 := by omega
    exact lawReadings_core u e a b c d g x y l.length (atV l e x) (atE l e x) (coldN l e y) (chkE l e [y]) (readB l) (ruleB a b c d g) w hs.shape (by omega)
      ⟨fun W hW => At_any u l e x W (hs.below hW)⟩ ⟨fun W hW => rAt_any u l e x W (hs.below hW) hm⟩
      ⟨fun W hW => Cold_any u l e y W (hs.below hW)⟩ ⟨fun W hW => rCold_any u l e y W (hs.below hW) hm⟩
      ⟨fun W hW => ValidReadings_any u l W (hs.below hW)⟩ ⟨fun W hW => rValidReadings_any u l W (hs.below hW) hm⟩
      ⟨fun W => ValidRule_any a b c d g W⟩ ⟨fun W => rValidRule_any a b c d g W⟩
end Go.Proofs.Ytifgdmalkebcaaa.Cd
