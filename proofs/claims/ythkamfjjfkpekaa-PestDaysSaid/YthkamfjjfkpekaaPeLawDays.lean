/-
  WALKS (layer 8, pest): the law PestDays.
-/
import Derived.Test.YthkamfjjfkpekaaPeAwake
import Derived.Test.YthkamfjjfkpekaaPeDayA
import Derived.Test.YthkamfjjfkpekaaPeLawNev
import Derived.Test.YthkamfjjfkpekaaPeRefF
namespace Go.Proofs.Ythkamfjjfkpekaa.Pe
open Go Go.RowKit Go.Proofs Go.Sort

set_option maxRecDepth 100000 in
set_option maxHeartbeats 2000000 in
theorem days_out (R x y day room : Int) (g : Option Addr) (M c : Nat) (gu : Option Addr) (nu cu : Nat) (w : World) (h : ¬ (M ≤ 50 ∧ nu ≤ 60)) :
    Calls Try.prog 3 #[.agg #[.int .i64 R, .slice g M c, .int .i64 x, .int .i64 y], .slice gu nu cu, .int .i64 day, .int .i64 room] w fun e w' => e = .returned (.bool true) ∧ Below w.heap.size w w' := by
  have HAW := Kp.mk (fun W => awake_any W)
  have HFT := Kp.mk (fun W => fit_any R x y g M c W)
  by_cases h1 : M ≤ 50
  · have e1 : decide (M ≤ 50) = true := decide_eq_true h1
    rw [e1] at HFT
    have e2 : (60 : Int) < (nu : Int) := by omega
    clear h e1 h1
    go_enter Try.func3, Try.ntmps3
    go_wp2_with fail
    refine (HFT.out _).mono ?_
    rintro en w0 ⟨rfl, hb0⟩
    have HB0 : Kp (Below w.heap.size w w0) := ⟨Below.trans (by repeat (first | exact Below.refl _ _ | refine Below.alloc ?_ (by simp <;> omega) _ | refine bDrewN ?_ _ | refine Below.drew ?_)) (hb0.mono (by simp <;> omega))⟩
    clear hb0
    go_wp2_with fail
    refine (HAW.out _).mono ?_
    rintro en w9 ⟨rfl, hb9⟩
    have HB9 := Kp.mk (HB0.out.trans (hb9.mono HB0.out.size))
    clear hb9
    go_wp2
    go_ret
    exact ⟨rfl, HB9.out⟩
  · have e1 : decide (M ≤ 50) = false := decide_eq_false h1
    rw [e1] at HFT
    clear h e1 h1
    go_enter Try.func3, Try.ntmps3
    go_wp2_with fail
    refine (HFT.out _).mono ?_
    rintro en w0 ⟨rfl, hb0⟩
    have HB0 : Kp (Below w.heap.size w w0) := ⟨Below.trans (by repeat (first | exact Below.refl _ _ | refine Below.alloc ?_ (by simp <;> omega) _ | refine bDrewN ?_ _ | refine Below.drew ?_)) (hb0.mono (by simp <;> omega))⟩
    clear hb0
    go_wp2_with fail
    refine (HAW.out _).mono ?_
    rintro en w9 ⟨rfl, hb9⟩
    have HB9 := Kp.mk (HB0.out.trans (hb9.mono HB0.out.size))
    clear hb9
    go_wp2
    go_ret
    exact ⟨rfl, HB9.out⟩
set_option maxRecDepth 100000 in
set_option maxHeartbeats 4000000 in
theorem days_in (R x y day room : Int) (g : Option Addr) (M c : Nat) (gu : Option Addr) (nu cu : Nat) (w : World) (S1 S2 C1 C2 D1 D2 : Int) (V : Bool) (h1 : M ≤ 50) (h2 : nu ≤ 60)
    (HS1 : Kp (∀ W, Below w.heap.size w W → Calls Try.prog 13 #[.agg #[.int .i64 R, .slice g M c, .int .i64 x, .int .i64 y], .slice gu nu cu, .int .i64 day] W fun e w' => e = .returned (.tuple #[.int .i64 S1, .int .i64 S2]) ∧ Below W.heap.size W w'))
    (HS2 : Kp (∀ W, Below w.heap.size w W → Calls Try.prog 14 #[.agg #[.int .i64 R, .slice g M c, .int .i64 x, .int .i64 y], .slice gu nu cu, .int .i64 day] W fun e w' => e = .returned (.tuple #[.int .i64 S1, .int .i64 S2]) ∧ Below W.heap.size W w'))
    (HC1 : Kp (∀ W, Below w.heap.size w W → Calls Try.prog 15 #[.agg #[.int .i64 R, .slice g M c, .int .i64 x, .int .i64 y], .slice gu nu cu] W fun e w' => e = .returned (.tuple #[.int .i64 C1, .int .i64 C2]) ∧ Below W.heap.size W w'))
    (HC2 : Kp (∀ W, Below w.heap.size w W → Calls Try.prog 16 #[.agg #[.int .i64 R, .slice g M c, .int .i64 x, .int .i64 y], .slice gu nu cu] W fun e w' => e = .returned (.tuple #[.int .i64 C1, .int .i64 C2]) ∧ Below W.heap.size W w'))
    (HD1 : Kp (∀ W, Below w.heap.size w W → Calls Try.prog 17 #[.agg #[.int .i64 R, .slice g M c, .int .i64 x, .int .i64 y], .slice gu nu cu, .int .i64 room] W fun e w' => e = .returned (.tuple #[.int .i64 D1, .int .i64 D2]) ∧ Below W.heap.size W w'))
    (HD2 : Kp (∀ W, Below w.heap.size w W → Calls Try.prog 18 #[.agg #[.int .i64 R, .slice g M c, .int .i64 x, .int .i64 y], .slice gu nu cu, .int .i64 room] W fun e w' => e = .returned (.tuple #[.int .i64 D1, .int .i64 D2]) ∧ Below W.heap.size W w'))
    (HV1 : Kp (∀ W, Below w.heap.size w W → Calls Try.prog 19 #[.agg #[.int .i64 R, .slice g M c, .int .i64 x, .int .i64 y]] W fun e w' => e = .returned (.bool V) ∧ Below W.heap.size W w'))
    (HV2 : Kp (∀ W, Below w.heap.size w W → Calls Try.prog 20 #[.agg #[.int .i64 R, .slice g M c, .int .i64 x, .int .i64 y]] W fun e w' => e = .returned (.bool V) ∧ Below W.heap.size W w')) :
    Calls Try.prog 3 #[.agg #[.int .i64 R, .slice g M c, .int .i64 x, .int .i64 y], .slice gu nu cu, .int .i64 day, .int .i64 room] w fun e w' => e = .returned (.bool true) ∧ Below w.heap.size w w' := by
  have HAW := Kp.mk (fun W => awake_any W)
  have HFT := Kp.mk (fun W => fit_any R x y g M c W)
  rw [decide_eq_true h1] at HFT
  have e2 : ¬ (60 : Int) < (nu : Int) := by omega
  go_enter Try.func3, Try.ntmps3
  go_wp2_with fail
  refine (HFT.out _).mono ?_
  rintro en w1 ⟨rfl, hb1⟩
  have HB1 : Kp (Below w.heap.size w w1) := ⟨Below.trans (by repeat (first | refine Below.alloc ?_ (by (try simp) <;> omega) _ | refine bDrewN ?_ _ | refine Below.drew ?_ | refine Below.setCell ?_ (by (try simp) <;> omega) _ | exact Below.refl _ _)) (hb1.mono (by (try simp) <;> omega))⟩
  have hz1_0 : w.heap.size < w1.heap.size := by have := hb1.size; (try simp at this); omega
  obtain ⟨hc, hf⟩ := bcell hb1
  have c1_0_0 : w1.cell? ⟨w.heap.size, 0, none⟩ = some (.int .i64 R) := (hc _ _ (by (try simp) <;> omega)).trans (by go_simp)
  have c1_0_1 : w1.cell? ⟨w.heap.size, 1, none⟩ = some ((.slice g M c)) := (hc _ _ (by (try simp) <;> omega)).trans (by go_simp)
  have c1_0_2 : w1.cell? ⟨w.heap.size, 2, none⟩ = some (.int .i64 x) := (hc _ _ (by (try simp) <;> omega)).trans (by go_simp)
  have c1_0_3 : w1.cell? ⟨w.heap.size, 3, none⟩ = some (.int .i64 y) := (hc _ _ (by (try simp) <;> omega)).trans (by go_simp)
  have z1_0 : ∀ j, w1.frozen? ⟨w.heap.size, j, none⟩ = false := fun j => (hf _ _ (by (try simp) <;> omega)).trans (by go_simp)
  clear hc hf hb1
  go_wp2_with fail
  refine (HS1.out _ HB1.out).mono ?_
  rintro en w2 ⟨rfl, hb2⟩
  have HB2 : Kp (Below w.heap.size w w2) := ⟨Below.trans (by repeat (first | refine Below.alloc ?_ (by have := HB1.out.size; (try simp) <;> omega) _ | refine bDrewN ?_ _ | refine Below.drew ?_ | refine Below.setCell ?_ (by have := HB1.out.size; (try simp) <;> omega) _ | exact HB1.out)) (hb2.mono (by have := HB1.out.size; (try simp) <;> omega))⟩
  have hz2_0 : w.heap.size < w2.heap.size := by have := hb2.size; (try simp at this); omega
  obtain ⟨hc, hf⟩ := bcell hb2
  have c2_0_0 : w2.cell? ⟨w.heap.size, 0, none⟩ = some (.int .i64 R) := (hc _ _ (by (try simp) <;> omega)).trans (by go_simp)
  have c2_0_1 : w2.cell? ⟨w.heap.size, 1, none⟩ = some ((.slice g M c)) := (hc _ _ (by (try simp) <;> omega)).trans (by go_simp)
  have c2_0_2 : w2.cell? ⟨w.heap.size, 2, none⟩ = some (.int .i64 x) := (hc _ _ (by (try simp) <;> omega)).trans (by go_simp)
  have c2_0_3 : w2.cell? ⟨w.heap.size, 3, none⟩ = some (.int .i64 y) := (hc _ _ (by (try simp) <;> omega)).trans (by go_simp)
  have z2_0 : ∀ j, w2.frozen? ⟨w.heap.size, j, none⟩ = false := fun j => (hf _ _ (by (try simp) <;> omega)).trans (by go_simp)
  clear hc hf hb2
  go_wp2_with fail
  refine (HS2.out _ HB2.out).mono ?_
  rintro en w3 ⟨rfl, hb3⟩
  have HB3 : Kp (Below w.heap.size w w3) := ⟨Below.trans (by repeat (first | refine Below.alloc ?_ (by have := HB2.out.size; (try simp) <;> omega) _ | refine bDrewN ?_ _ | refine Below.drew ?_ | refine Below.setCell ?_ (by have := HB2.out.size; (try simp) <;> omega) _ | exact HB2.out)) (hb3.mono (by have := HB2.out.size; (try simp) <;> omega))⟩
  have hz3_0 : w.heap.size < w3.heap.size := by have := hb3.size; (try simp at this); omega
  obtain ⟨hc, hf⟩ := bcell hb3
  have c3_0_0 : w3.cell? ⟨w.heap.size, 0, none⟩ = some (.int .i64 R) := (hc _ _ (by (try simp) <;> omega)).trans (by go_simp)
  have c3_0_1 : w3.cell? ⟨w.heap.size, 1, none⟩ = some ((.slice g M c)) := (hc _ _ (by (try simp) <;> omega)).trans (by go_simp)
  have c3_0_2 : w3.cell? ⟨w.heap.size, 2, none⟩ = some (.int .i64 x) := (hc _ _ (by (try simp) <;> omega)).trans (by go_simp)
  have c3_0_3 : w3.cell? ⟨w.heap.size, 3, none⟩ = some (.int .i64 y) := (hc _ _ (by (try simp) <;> omega)).trans (by go_simp)
  have z3_0 : ∀ j, w3.frozen? ⟨w.heap.size, j, none⟩ = false := fun j => (hf _ _ (by (try simp) <;> omega)).trans (by go_simp)
  clear hc hf hb3
  go_wp2_with fail
  refine (HC1.out _ HB3.out).mono ?_
  rintro en w4 ⟨rfl, hb4⟩
  have HB4 : Kp (Below w.heap.size w w4) := ⟨Below.trans (by repeat (first | refine Below.alloc ?_ (by have := HB3.out.size; (try simp) <;> omega) _ | refine bDrewN ?_ _ | refine Below.drew ?_ | refine Below.setCell ?_ (by have := HB3.out.size; (try simp) <;> omega) _ | exact HB3.out)) (hb4.mono (by have := HB3.out.size; (try simp) <;> omega))⟩
  have hz4_0 : w.heap.size < w4.heap.size := by have := hb4.size; (try simp at this); omega
  obtain ⟨hc, hf⟩ := bcell hb4
  have c4_0_0 : w4.cell? ⟨w.heap.size, 0, none⟩ = some (.int .i64 R) := (hc _ _ (by (try simp) <;> omega)).trans (by go_simp)
  have c4_0_1 : w4.cell? ⟨w.heap.size, 1, none⟩ = some ((.slice g M c)) := (hc _ _ (by (try simp) <;> omega)).trans (by go_simp)
  have c4_0_2 : w4.cell? ⟨w.heap.size, 2, none⟩ = some (.int .i64 x) := (hc _ _ (by (try simp) <;> omega)).trans (by go_simp)
  have c4_0_3 : w4.cell? ⟨w.heap.size, 3, none⟩ = some (.int .i64 y) := (hc _ _ (by (try simp) <;> omega)).trans (by go_simp)
  have z4_0 : ∀ j, w4.frozen? ⟨w.heap.size, j, none⟩ = false := fun j => (hf _ _ (by (try simp) <;> omega)).trans (by go_simp)
  clear hc hf hb4
  go_wp2_with fail
  refine (HC2.out _ HB4.out).mono ?_
  rintro en w5 ⟨rfl, hb5⟩
  have HB5 : Kp (Below w.heap.size w w5) := ⟨Below.trans (by repeat (first | refine Below.alloc ?_ (by have := HB4.out.size; (try simp) <;> omega) _ | refine bDrewN ?_ _ | refine Below.drew ?_ | refine Below.setCell ?_ (by have := HB4.out.size; (try simp) <;> omega) _ | exact HB4.out)) (hb5.mono (by have := HB4.out.size; (try simp) <;> omega))⟩
  have hz5_0 : w.heap.size < w5.heap.size := by have := hb5.size; (try simp at this); omega
  obtain ⟨hc, hf⟩ := bcell hb5
  have c5_0_0 : w5.cell? ⟨w.heap.size, 0, none⟩ = some (.int .i64 R) := (hc _ _ (by (try simp) <;> omega)).trans (by go_simp)
  have c5_0_1 : w5.cell? ⟨w.heap.size, 1, none⟩ = some ((.slice g M c)) := (hc _ _ (by (try simp) <;> omega)).trans (by go_simp)
  have c5_0_2 : w5.cell? ⟨w.heap.size, 2, none⟩ = some (.int .i64 x) := (hc _ _ (by (try simp) <;> omega)).trans (by go_simp)
  have c5_0_3 : w5.cell? ⟨w.heap.size, 3, none⟩ = some (.int .i64 y) := (hc _ _ (by (try simp) <;> omega)).trans (by go_simp)
  have z5_0 : ∀ j, w5.frozen? ⟨w.heap.size, j, none⟩ = false := fun j => (hf _ _ (by (try simp) <;> omega)).trans (by go_simp)
  clear hc hf hb5
  go_wp2_with fail
  refine (HD1.out _ HB5.out).mono ?_
  rintro en w6 ⟨rfl, hb6⟩
  have HB6 : Kp (Below w.heap.size w w6) := ⟨Below.trans (by repeat (first | refine Below.alloc ?_ (by have := HB5.out.size; (try simp) <;> omega) _ | refine bDrewN ?_ _ | refine Below.drew ?_ | refine Below.setCell ?_ (by have := HB5.out.size; (try simp) <;> omega) _ | exact HB5.out)) (hb6.mono (by have := HB5.out.size; (try simp) <;> omega))⟩
  have hz6_0 : w.heap.size < w6.heap.size := by have := hb6.size; (try simp at this); omega
  obtain ⟨hc, hf⟩ := bcell hb6
  have c6_0_0 : w6.cell? ⟨w.heap.size, 0, none⟩ = some (.int .i64 R) := (hc _ _ (by (try simp) <;> omega)).trans (by go_simp)
  have c6_0_1 : w6.cell? ⟨w.heap.size, 1, none⟩ = some ((.slice g M c)) := (hc _ _ (by (try simp) <;> omega)).trans (by go_simp)
  have c6_0_2 : w6.cell? ⟨w.heap.size, 2, none⟩ = some (.int .i64 x) := (hc _ _ (by (try simp) <;> omega)).trans (by go_simp)
  have c6_0_3 : w6.cell? ⟨w.heap.size, 3, none⟩ = some (.int .i64 y) := (hc _ _ (by (try simp) <;> omega)).trans (by go_simp)
  have z6_0 : ∀ j, w6.frozen? ⟨w.heap.size, j, none⟩ = false := fun j => (hf _ _ (by (try simp) <;> omega)).trans (by go_simp)
  clear hc hf hb6
  go_wp2_with fail
  refine (HD2.out _ HB6.out).mono ?_
  rintro en w7 ⟨rfl, hb7⟩
  have HB7 : Kp (Below w.heap.size w w7) := ⟨Below.trans (by repeat (first | refine Below.alloc ?_ (by have := HB6.out.size; (try simp) <;> omega) _ | refine bDrewN ?_ _ | refine Below.drew ?_ | refine Below.setCell ?_ (by have := HB6.out.size; (try simp) <;> omega) _ | exact HB6.out)) (hb7.mono (by have := HB6.out.size; (try simp) <;> omega))⟩
  have hz7_0 : w.heap.size < w7.heap.size := by have := hb7.size; (try simp at this); omega
  obtain ⟨hc, hf⟩ := bcell hb7
  have c7_0_0 : w7.cell? ⟨w.heap.size, 0, none⟩ = some (.int .i64 R) := (hc _ _ (by (try simp) <;> omega)).trans (by go_simp)
  have c7_0_1 : w7.cell? ⟨w.heap.size, 1, none⟩ = some ((.slice g M c)) := (hc _ _ (by (try simp) <;> omega)).trans (by go_simp)
  have c7_0_2 : w7.cell? ⟨w.heap.size, 2, none⟩ = some (.int .i64 x) := (hc _ _ (by (try simp) <;> omega)).trans (by go_simp)
  have c7_0_3 : w7.cell? ⟨w.heap.size, 3, none⟩ = some (.int .i64 y) := (hc _ _ (by (try simp) <;> omega)).trans (by go_simp)
  have z7_0 : ∀ j, w7.frozen? ⟨w.heap.size, j, none⟩ = false := fun j => (hf _ _ (by (try simp) <;> omega)).trans (by go_simp)
  clear hc hf hb7
  have HALL : Kp (∀ w', Below w7.heap.size w7 w' → w'.cell? ⟨w.heap.size, 0, none⟩ = some (.int .i64 R) ∧ w'.cell? ⟨w.heap.size, 1, none⟩ = some (.slice g M c) ∧ w'.cell? ⟨w.heap.size, 2, none⟩ = some (.int .i64 x) ∧ w'.cell? ⟨w.heap.size, 3, none⟩ = some (.int .i64 y)) := ⟨fun w' h => ⟨(h.cell (p := ⟨w.heap.size, 0, none⟩) (World.block_lt_of_cell? _ _ c7_0_0)).trans c7_0_0, (h.cell (p := ⟨w.heap.size, 1, none⟩) (World.block_lt_of_cell? _ _ c7_0_1)).trans c7_0_1, (h.cell (p := ⟨w.heap.size, 2, none⟩) (World.block_lt_of_cell? _ _ c7_0_2)).trans c7_0_2, (h.cell (p := ⟨w.heap.size, 3, none⟩) (World.block_lt_of_cell? _ _ c7_0_3)).trans c7_0_3⟩⟩
  go_wp2_with fail
  refine wp_region_noPanic ?_
  refine region_nm ?_
  intro ops Qp hops hQp
  have HQP : Kp (∀ c a d v w, Qp (.panic c) (Act.put a d v) w → Qp (.panic c) a w) := ⟨by subst hQp; intro c a d v w h; exact h⟩
  have HFIN : Kp (∀ (w' : World), Below w7.heap.size w7 w' → Qp .normal { tmps := #[.agg #[.int .i64 R, .slice g M c, .int .i64 x, .int .i64 y], .slice gu nu cu, .int .i64 day, .int .i64 room, .pointer (some ⟨w.heap.size, 0, none⟩), undef, undef, undef, .bool true, .int .i64 S1, .int .i64 S2, .int .i64 S1, .int .i64 S2, .int .i64 C1, .int .i64 C2, .int .i64 C1, .int .i64 C2, .int .i64 D1, .int .i64 D2, .int .i64 D1, .int .i64 D2, .agg #[.int .i64 R, .slice g M c, .int .i64 x, .int .i64 y], .bool true, .bool false, .bool false, .slice gu nu cu, .int .i64 nu, .bool (decide ((60 : Int) < (nu : Int))), .bool (decide ((60 : Int) < (nu : Int))), undef, .tuple #[.int .i64 S1, .int .i64 S2], .agg #[.int .i64 R, .slice g M c, .int .i64 x, .int .i64 y], .slice gu nu cu, .int .i64 day, .tuple #[.int .i64 S1, .int .i64 S2], .int .i64 S1, .int .i64 S2, .tuple #[.int .i64 S1, .int .i64 S2], .agg #[.int .i64 R, .slice g M c, .int .i64 x, .int .i64 y], .slice gu nu cu, .int .i64 day, .tuple #[.int .i64 S1, .int .i64 S2], .int .i64 S1, .int .i64 S2, .tuple #[.int .i64 C1, .int .i64 C2], .agg #[.int .i64 R, .slice g M c, .int .i64 x, .int .i64 y], .slice gu nu cu, .tuple #[.int .i64 C1, .int .i64 C2], .int .i64 C1, .int .i64 C2, .tuple #[.int .i64 C1, .int .i64 C2], .agg #[.int .i64 R, .slice g M c, .int .i64 x, .int .i64 y], .slice gu nu cu, .tuple #[.int .i64 C1, .int .i64 C2], .int .i64 C1, .int .i64 C2, .tuple #[.int .i64 D1, .int .i64 D2], .agg #[.int .i64 R, .slice g M c, .int .i64 x, .int .i64 y], .slice gu nu cu, .int .i64 room, .tuple #[.int .i64 D1, .int .i64 D2], .int .i64 D1, .int .i64 D2, .tuple #[.int .i64 D1, .int .i64 D2], .agg #[.int .i64 R, .slice g M c, .int .i64 x, .int .i64 y], .slice gu nu cu, .int .i64 room, .tuple #[.int .i64 D1, .int .i64 D2], .int .i64 D1, .int .i64 D2, .agg #[.int .i64 R, .slice g M c, .int .i64 x, .int .i64 y], .bool V, .agg #[.int .i64 R, .slice g M c, .int .i64 x, .int .i64 y], .bool V, .bool true, .bool true, .int .i64 S1, .int .i64 S1, .bool true, .bool true, .bool true, .int .i64 S2, .int .i64 S2, .bool true, .bool true, .bool true, .int .i64 C1, .int .i64 C1, .bool true, .bool true, .bool true, .int .i64 C2, .int .i64 C2, .bool true, .bool true, .bool true, .int .i64 D1, .int .i64 D1, .bool true, .bool true, .bool true, .int .i64 D2, .int .i64 D2, .bool true, .bool true, .bool true, .bool true, .bool true], defers := [] } w') := by
    refine ⟨?_⟩
    intro w' hw 
    have HBW := Kp.mk (HB7.out.trans (hw.mono HB7.out.size))
    have HWB := Kp.mk hw
    clear HQP hops hw
    subst hQp
    refine NoPanic.normal ?_
    go_wp2
    go_ret
    exact ⟨rfl, HBW.out⟩
  have S0_1_2_3_4_5_6_7_8_9_10_11_12_13_14_15_16_17_18_19_20_21_22_23_24_25_26_27_28_29_30_31_32_33_34_35_36 : Kp (∀ (w' : World), Below w7.heap.size w7 w' → wpAnyH Try.prog .any ops Qp (fun w' => Below w7.heap.size w7 w') 2 #[true, true, true, true, true, true, true, true, true, true, true, true, true, true, true, true, true, true, true, true, true, true, true, true, true, true, true, true, true, true, true, true, true, true, true, true, true, false, false] { tmps := #[.agg #[.int .i64 R, .slice g M c, .int .i64 x, .int .i64 y], .slice gu nu cu, .int .i64 day, .int .i64 room, .pointer (some ⟨w.heap.size, 0, none⟩), undef, undef, undef, .bool false, .int .i64 S1, .int .i64 S2, .int .i64 S1, .int .i64 S2, .int .i64 C1, .int .i64 C2, .int .i64 C1, .int .i64 C2, .int .i64 D1, .int .i64 D2, .int .i64 D1, .int .i64 D2, .agg #[.int .i64 R, .slice g M c, .int .i64 x, .int .i64 y], .bool true, .bool false, .bool false, .slice gu nu cu, .int .i64 nu, .bool (decide ((60 : Int) < (nu : Int))), .bool (decide ((60 : Int) < (nu : Int))), undef, .tuple #[.int .i64 S1, .int .i64 S2], .agg #[.int .i64 R, .slice g M c, .int .i64 x, .int .i64 y], .slice gu nu cu, .int .i64 day, .tuple #[.int .i64 S1, .int .i64 S2], .int .i64 S1, .int .i64 S2, .tuple #[.int .i64 S1, .int .i64 S2], .agg #[.int .i64 R, .slice g M c, .int .i64 x, .int .i64 y], .slice gu nu cu, .int .i64 day, .tuple #[.int .i64 S1, .int .i64 S2], .int .i64 S1, .int .i64 S2, .tuple #[.int .i64 C1, .int .i64 C2], .agg #[.int .i64 R, .slice g M c, .int .i64 x, .int .i64 y], .slice gu nu cu, .tuple #[.int .i64 C1, .int .i64 C2], .int .i64 C1, .int .i64 C2, .tuple #[.int .i64 C1, .int .i64 C2], .agg #[.int .i64 R, .slice g M c, .int .i64 x, .int .i64 y], .slice gu nu cu, .tuple #[.int .i64 C1, .int .i64 C2], .int .i64 C1, .int .i64 C2, .tuple #[.int .i64 D1, .int .i64 D2], .agg #[.int .i64 R, .slice g M c, .int .i64 x, .int .i64 y], .slice gu nu cu, .int .i64 room, .tuple #[.int .i64 D1, .int .i64 D2], .int .i64 D1, .int .i64 D2, .tuple #[.int .i64 D1, .int .i64 D2], .agg #[.int .i64 R, .slice g M c, .int .i64 x, .int .i64 y], .slice gu nu cu, .int .i64 room, .tuple #[.int .i64 D1, .int .i64 D2], .int .i64 D1, .int .i64 D2, .agg #[.int .i64 R, .slice g M c, .int .i64 x, .int .i64 y], .bool V, .agg #[.int .i64 R, .slice g M c, .int .i64 x, .int .i64 y], .bool V, .bool true, .bool true, .int .i64 S1, .int .i64 S1, .bool true, .bool true, .bool true, .int .i64 S2, .int .i64 S2, .bool true, .bool true, .bool true, .int .i64 C1, .int .i64 C1, .bool true, .bool true, .bool true, .int .i64 C2, .int .i64 C2, .bool true, .bool true, .bool true, .int .i64 D1, .int .i64 D1, .bool true, .bool true, .bool true, .int .i64 D2, .int .i64 D2, .bool true, .bool true, .bool true, .bool true, undef], defers := [] } w') := by
    refine ⟨?_⟩
    intro w' hw
    refine wpAnyH_take (i := 37) (oi := { dst := some 107, op := Go.Op.pick (Go.Operand.tmp 105) (Go.Operand.tmp 106) (Go.Operand.const (Go.Value.bool false)), type := 4, pos := "law.go:34", after := #[{ on := 35, ground := Go.Ground.data }, { on := 36, ground := Go.Ground.data }], guard := none }) (v := .bool true) (by rw [hops]; kernel_rfl) (by rw [hops]; kernel_rfl) (by rw [hops]; kernel_rfl) (by rw [hops]; kernel_rfl) (fun c a w h => HQP.out c a _ _ w h) (Or.inl ⟨by rw [hops]; kernel_rfl, by intro w _; go_simp⟩) hw ?_
    simp only [Act.put, List.setIfInBounds_toArray, List.set_cons_zero, List.set_cons_succ]
    refine wpAnyH_take (i := 38) (oi := { dst := some 8, op := Go.Op.assign (Go.Operand.tmp 107), type := 4, pos := "law.go:34", after := #[{ on := 37, ground := Go.Ground.data }, { on := 36, ground := Go.Ground.chain }, { on := 0, ground := Go.Ground.phase }, { on := 1, ground := Go.Ground.phase }, { on := 2, ground := Go.Ground.phase }, { on := 3, ground := Go.Ground.phase }, { on := 4, ground := Go.Ground.phase }, { on := 5, ground := Go.Ground.phase }, { on := 6, ground := Go.Ground.phase }, { on := 7, ground := Go.Ground.phase }, { on := 8, ground := Go.Ground.phase }, { on := 9, ground := Go.Ground.phase }, { on := 10, ground := Go.Ground.phase }, { on := 11, ground := Go.Ground.phase }, { on := 12, ground := Go.Ground.phase }, { on := 13, ground := Go.Ground.phase }, { on := 14, ground := Go.Ground.phase }, { on := 15, ground := Go.Ground.phase }, { on := 16, ground := Go.Ground.phase }, { on := 17, ground := Go.Ground.phase }, { on := 18, ground := Go.Ground.phase }, { on := 19, ground := Go.Ground.phase }, { on := 20, ground := Go.Ground.phase }, { on := 21, ground := Go.Ground.phase }, { on := 22, ground := Go.Ground.phase }, { on := 23, ground := Go.Ground.phase }, { on := 24, ground := Go.Ground.phase }, { on := 25, ground := Go.Ground.phase }, { on := 26, ground := Go.Ground.phase }, { on := 27, ground := Go.Ground.phase }, { on := 28, ground := Go.Ground.phase }, { on := 29, ground := Go.Ground.phase }, { on := 30, ground := Go.Ground.phase }, { on := 31, ground := Go.Ground.phase }, { on := 32, ground := Go.Ground.phase }, { on := 33, ground := Go.Ground.phase }, { on := 34, ground := Go.Ground.phase }, { on := 35, ground := Go.Ground.phase }, { on := 36, ground := Go.Ground.phase }, { on := 37, ground := Go.Ground.phase }], guard := none }) (v := .bool true) (by rw [hops]; kernel_rfl) (by rw [hops]; kernel_rfl) (by rw [hops]; kernel_rfl) (by rw [hops]; kernel_rfl) (fun c a w h => HQP.out c a _ _ w h) (Or.inl ⟨by rw [hops]; kernel_rfl, by intro w _; go_simp⟩) hw ?_
    simp only [Act.put, List.setIfInBounds_toArray, List.set_cons_zero, List.set_cons_succ]
    refine wpAnyH_done (by rw [hops]; kernel_rfl) ?_ _
    exact HFIN.out w' hw 
  have S0_1_2_3 : Kp (∀ (w' : World), Below w7.heap.size w7 w' → wpAnyH Try.prog .any ops Qp (fun w' => Below w7.heap.size w7 w') 35 #[true, true, true, true, false, false, false, false, false, false, false, false, false, false, false, false, false, false, false, false, false, false, false, false, false, false, false, false, false, false, false, false, false, false, false, false, false, false, false] { tmps := #[.agg #[.int .i64 R, .slice g M c, .int .i64 x, .int .i64 y], .slice gu nu cu, .int .i64 day, .int .i64 room, .pointer (some ⟨w.heap.size, 0, none⟩), undef, undef, undef, .bool false, .int .i64 S1, .int .i64 S2, .int .i64 S1, .int .i64 S2, .int .i64 C1, .int .i64 C2, .int .i64 C1, .int .i64 C2, .int .i64 D1, .int .i64 D2, .int .i64 D1, .int .i64 D2, .agg #[.int .i64 R, .slice g M c, .int .i64 x, .int .i64 y], .bool true, .bool false, .bool false, .slice gu nu cu, .int .i64 nu, .bool (decide ((60 : Int) < (nu : Int))), .bool (decide ((60 : Int) < (nu : Int))), undef, .tuple #[.int .i64 S1, .int .i64 S2], .agg #[.int .i64 R, .slice g M c, .int .i64 x, .int .i64 y], .slice gu nu cu, .int .i64 day, .tuple #[.int .i64 S1, .int .i64 S2], .int .i64 S1, .int .i64 S2, .tuple #[.int .i64 S1, .int .i64 S2], .agg #[.int .i64 R, .slice g M c, .int .i64 x, .int .i64 y], .slice gu nu cu, .int .i64 day, .tuple #[.int .i64 S1, .int .i64 S2], .int .i64 S1, .int .i64 S2, .tuple #[.int .i64 C1, .int .i64 C2], .agg #[.int .i64 R, .slice g M c, .int .i64 x, .int .i64 y], .slice gu nu cu, .tuple #[.int .i64 C1, .int .i64 C2], .int .i64 C1, .int .i64 C2, .tuple #[.int .i64 C1, .int .i64 C2], .agg #[.int .i64 R, .slice g M c, .int .i64 x, .int .i64 y], .slice gu nu cu, .tuple #[.int .i64 C1, .int .i64 C2], .int .i64 C1, .int .i64 C2, .tuple #[.int .i64 D1, .int .i64 D2], .agg #[.int .i64 R, .slice g M c, .int .i64 x, .int .i64 y], .slice gu nu cu, .int .i64 room, .tuple #[.int .i64 D1, .int .i64 D2], .int .i64 D1, .int .i64 D2, .tuple #[.int .i64 D1, .int .i64 D2], .agg #[.int .i64 R, .slice g M c, .int .i64 x, .int .i64 y], .slice gu nu cu, .int .i64 room, .tuple #[.int .i64 D1, .int .i64 D2], .int .i64 D1, .int .i64 D2, .agg #[.int .i64 R, .slice g M c, .int .i64 x, .int .i64 y], .bool V, .agg #[.int .i64 R, .slice g M c, .int .i64 x, .int .i64 y], .bool V, undef, undef, undef, undef, undef, undef, undef, undef, undef, undef, undef, undef, undef, undef, undef, undef, undef, undef, undef, undef, undef, undef, undef, undef, undef, undef, undef, undef, undef, undef, undef, undef, undef, undef], defers := [] } w') := by
    refine ⟨?_⟩
    intro w' hw
    refine wpAnyH_take (i := 4) (oi := { dst := some 74, op := Go.Op.binOp Go.BinOp.eql 4 (Go.Operand.tmp 71) (Go.Operand.tmp 73) 4, type := 4, pos := "law.go:34", after := #[{ on := 1, ground := Go.Ground.data }, { on := 3, ground := Go.Ground.data }], guard := none }) (v := .bool true) (by rw [hops]; kernel_rfl) (by rw [hops]; kernel_rfl) (by rw [hops]; kernel_rfl) (by rw [hops]; kernel_rfl) (fun c a w h => HQP.out c a _ _ w h) (Or.inl ⟨by rw [hops]; kernel_rfl, by intro w _; go_simp⟩) hw ?_
    simp only [Act.put, List.setIfInBounds_toArray, List.set_cons_zero, List.set_cons_succ]
    refine wpAnyH_take (i := 5) (oi := { dst := some 75, op := Go.Op.move (Go.Operand.tmp 74), type := 4, pos := "law.go:34", after := #[{ on := 4, ground := Go.Ground.data }, { on := 3, ground := Go.Ground.chain }], guard := none }) (v := .bool true) (by rw [hops]; kernel_rfl) (by rw [hops]; kernel_rfl) (by rw [hops]; kernel_rfl) (by rw [hops]; kernel_rfl) (fun c a w h => HQP.out c a _ _ w h) (Or.inl ⟨by rw [hops]; kernel_rfl, by intro w _; go_simp⟩) hw ?_
    simp only [Act.put, List.setIfInBounds_toArray, List.set_cons_zero, List.set_cons_succ]
    refine wpAnyH_take (i := 6) (oi := { dst := some 76, op := Go.Op.move (Go.Operand.tmp 9), type := 3, pos := "law.go:34", after := #[{ on := 5, ground := Go.Ground.guard }], guard := some (5, true) }) (v := .int .i64 S1) (by rw [hops]; kernel_rfl) (by rw [hops]; kernel_rfl) (by rw [hops]; kernel_rfl) (by rw [hops]; kernel_rfl) (fun c a w h => HQP.out c a _ _ w h) (Or.inl ⟨by rw [hops]; kernel_rfl, by intro w _; go_simp⟩) hw ?_
    simp only [Act.put, List.setIfInBounds_toArray, List.set_cons_zero, List.set_cons_succ]
    refine wpAnyH_take (i := 7) (oi := { dst := some 77, op := Go.Op.move (Go.Operand.tmp 11), type := 3, pos := "law.go:34", after := #[{ on := 5, ground := Go.Ground.guard }], guard := some (5, true) }) (v := .int .i64 S1) (by rw [hops]; kernel_rfl) (by rw [hops]; kernel_rfl) (by rw [hops]; kernel_rfl) (by rw [hops]; kernel_rfl) (fun c a w h => HQP.out c a _ _ w h) (Or.inl ⟨by rw [hops]; kernel_rfl, by intro w _; go_simp⟩) hw ?_
    simp only [Act.put, List.setIfInBounds_toArray, List.set_cons_zero, List.set_cons_succ]
    refine wpAnyH_take (i := 8) (oi := { dst := some 78, op := Go.Op.binOp Go.BinOp.eql 3 (Go.Operand.tmp 76) (Go.Operand.tmp 77) 3, type := 4, pos := "law.go:34", after := #[{ on := 6, ground := Go.Ground.data }, { on := 7, ground := Go.Ground.data }, { on := 5, ground := Go.Ground.guard }], guard := some (5, true) }) (v := .bool true) (by rw [hops]; kernel_rfl) (by rw [hops]; kernel_rfl) (by rw [hops]; kernel_rfl) (by rw [hops]; kernel_rfl) (fun c a w h => HQP.out c a _ _ w h) (Or.inl ⟨by rw [hops]; kernel_rfl, by intro w _; go_simp⟩) hw ?_
    simp only [Act.put, List.setIfInBounds_toArray, List.set_cons_zero, List.set_cons_succ]
    refine wpAnyH_take (i := 9) (oi := { dst := some 79, op := Go.Op.pick (Go.Operand.tmp 75) (Go.Operand.tmp 78) (Go.Operand.const (Go.Value.bool false)), type := 4, pos := "law.go:34", after := #[{ on := 5, ground := Go.Ground.data }, { on := 8, ground := Go.Ground.data }], guard := none }) (v := .bool true) (by rw [hops]; kernel_rfl) (by rw [hops]; kernel_rfl) (by rw [hops]; kernel_rfl) (by rw [hops]; kernel_rfl) (fun c a w h => HQP.out c a _ _ w h) (Or.inl ⟨by rw [hops]; kernel_rfl, by intro w _; go_simp⟩) hw ?_
    simp only [Act.put, List.setIfInBounds_toArray, List.set_cons_zero, List.set_cons_succ]
    refine wpAnyH_take (i := 10) (oi := { dst := some 80, op := Go.Op.move (Go.Operand.tmp 79), type := 4, pos := "law.go:34", after := #[{ on := 9, ground := Go.Ground.data }, { on := 5, ground := Go.Ground.chain }], guard := none }) (v := .bool true) (by rw [hops]; kernel_rfl) (by rw [hops]; kernel_rfl) (by rw [hops]; kernel_rfl) (by rw [hops]; kernel_rfl) (fun c a w h => HQP.out c a _ _ w h) (Or.inl ⟨by rw [hops]; kernel_rfl, by intro w _; go_simp⟩) hw ?_
    simp only [Act.put, List.setIfInBounds_toArray, List.set_cons_zero, List.set_cons_succ]
    refine wpAnyH_take (i := 11) (oi := { dst := some 81, op := Go.Op.move (Go.Operand.tmp 10), type := 28, pos := "law.go:34", after := #[{ on := 10, ground := Go.Ground.guard }], guard := some (10, true) }) (v := .int .i64 S2) (by rw [hops]; kernel_rfl) (by rw [hops]; kernel_rfl) (by rw [hops]; kernel_rfl) (by rw [hops]; kernel_rfl) (fun c a w h => HQP.out c a _ _ w h) (Or.inl ⟨by rw [hops]; kernel_rfl, by intro w _; go_simp⟩) hw ?_
    simp only [Act.put, List.setIfInBounds_toArray, List.set_cons_zero, List.set_cons_succ]
    refine wpAnyH_take (i := 12) (oi := { dst := some 82, op := Go.Op.move (Go.Operand.tmp 12), type := 28, pos := "law.go:34", after := #[{ on := 10, ground := Go.Ground.guard }], guard := some (10, true) }) (v := .int .i64 S2) (by rw [hops]; kernel_rfl) (by rw [hops]; kernel_rfl) (by rw [hops]; kernel_rfl) (by rw [hops]; kernel_rfl) (fun c a w h => HQP.out c a _ _ w h) (Or.inl ⟨by rw [hops]; kernel_rfl, by intro w _; go_simp⟩) hw ?_
    simp only [Act.put, List.setIfInBounds_toArray, List.set_cons_zero, List.set_cons_succ]
    refine wpAnyH_take (i := 13) (oi := { dst := some 83, op := Go.Op.binOp Go.BinOp.eql 28 (Go.Operand.tmp 81) (Go.Operand.tmp 82) 28, type := 4, pos := "law.go:34", after := #[{ on := 11, ground := Go.Ground.data }, { on := 12, ground := Go.Ground.data }, { on := 10, ground := Go.Ground.guard }], guard := some (10, true) }) (v := .bool true) (by rw [hops]; kernel_rfl) (by rw [hops]; kernel_rfl) (by rw [hops]; kernel_rfl) (by rw [hops]; kernel_rfl) (fun c a w h => HQP.out c a _ _ w h) (Or.inl ⟨by rw [hops]; kernel_rfl, by intro w _; go_simp⟩) hw ?_
    simp only [Act.put, List.setIfInBounds_toArray, List.set_cons_zero, List.set_cons_succ]
    refine wpAnyH_take (i := 14) (oi := { dst := some 84, op := Go.Op.pick (Go.Operand.tmp 80) (Go.Operand.tmp 83) (Go.Operand.const (Go.Value.bool false)), type := 4, pos := "law.go:34", after := #[{ on := 10, ground := Go.Ground.data }, { on := 13, ground := Go.Ground.data }], guard := none }) (v := .bool true) (by rw [hops]; kernel_rfl) (by rw [hops]; kernel_rfl) (by rw [hops]; kernel_rfl) (by rw [hops]; kernel_rfl) (fun c a w h => HQP.out c a _ _ w h) (Or.inl ⟨by rw [hops]; kernel_rfl, by intro w _; go_simp⟩) hw ?_
    simp only [Act.put, List.setIfInBounds_toArray, List.set_cons_zero, List.set_cons_succ]
    refine wpAnyH_take (i := 15) (oi := { dst := some 85, op := Go.Op.move (Go.Operand.tmp 84), type := 4, pos := "law.go:34", after := #[{ on := 14, ground := Go.Ground.data }, { on := 10, ground := Go.Ground.chain }], guard := none }) (v := .bool true) (by rw [hops]; kernel_rfl) (by rw [hops]; kernel_rfl) (by rw [hops]; kernel_rfl) (by rw [hops]; kernel_rfl) (fun c a w h => HQP.out c a _ _ w h) (Or.inl ⟨by rw [hops]; kernel_rfl, by intro w _; go_simp⟩) hw ?_
    simp only [Act.put, List.setIfInBounds_toArray, List.set_cons_zero, List.set_cons_succ]
    refine wpAnyH_take (i := 16) (oi := { dst := some 86, op := Go.Op.move (Go.Operand.tmp 13), type := 3, pos := "law.go:34", after := #[{ on := 15, ground := Go.Ground.guard }], guard := some (15, true) }) (v := .int .i64 C1) (by rw [hops]; kernel_rfl) (by rw [hops]; kernel_rfl) (by rw [hops]; kernel_rfl) (by rw [hops]; kernel_rfl) (fun c a w h => HQP.out c a _ _ w h) (Or.inl ⟨by rw [hops]; kernel_rfl, by intro w _; go_simp⟩) hw ?_
    simp only [Act.put, List.setIfInBounds_toArray, List.set_cons_zero, List.set_cons_succ]
    refine wpAnyH_take (i := 17) (oi := { dst := some 87, op := Go.Op.move (Go.Operand.tmp 15), type := 3, pos := "law.go:34", after := #[{ on := 15, ground := Go.Ground.guard }], guard := some (15, true) }) (v := .int .i64 C1) (by rw [hops]; kernel_rfl) (by rw [hops]; kernel_rfl) (by rw [hops]; kernel_rfl) (by rw [hops]; kernel_rfl) (fun c a w h => HQP.out c a _ _ w h) (Or.inl ⟨by rw [hops]; kernel_rfl, by intro w _; go_simp⟩) hw ?_
    simp only [Act.put, List.setIfInBounds_toArray, List.set_cons_zero, List.set_cons_succ]
    refine wpAnyH_take (i := 18) (oi := { dst := some 88, op := Go.Op.binOp Go.BinOp.eql 3 (Go.Operand.tmp 86) (Go.Operand.tmp 87) 3, type := 4, pos := "law.go:34", after := #[{ on := 16, ground := Go.Ground.data }, { on := 17, ground := Go.Ground.data }, { on := 15, ground := Go.Ground.guard }], guard := some (15, true) }) (v := .bool true) (by rw [hops]; kernel_rfl) (by rw [hops]; kernel_rfl) (by rw [hops]; kernel_rfl) (by rw [hops]; kernel_rfl) (fun c a w h => HQP.out c a _ _ w h) (Or.inl ⟨by rw [hops]; kernel_rfl, by intro w _; go_simp⟩) hw ?_
    simp only [Act.put, List.setIfInBounds_toArray, List.set_cons_zero, List.set_cons_succ]
    refine wpAnyH_take (i := 19) (oi := { dst := some 89, op := Go.Op.pick (Go.Operand.tmp 85) (Go.Operand.tmp 88) (Go.Operand.const (Go.Value.bool false)), type := 4, pos := "law.go:34", after := #[{ on := 15, ground := Go.Ground.data }, { on := 18, ground := Go.Ground.data }], guard := none }) (v := .bool true) (by rw [hops]; kernel_rfl) (by rw [hops]; kernel_rfl) (by rw [hops]; kernel_rfl) (by rw [hops]; kernel_rfl) (fun c a w h => HQP.out c a _ _ w h) (Or.inl ⟨by rw [hops]; kernel_rfl, by intro w _; go_simp⟩) hw ?_
    simp only [Act.put, List.setIfInBounds_toArray, List.set_cons_zero, List.set_cons_succ]
    refine wpAnyH_take (i := 20) (oi := { dst := some 90, op := Go.Op.move (Go.Operand.tmp 89), type := 4, pos := "law.go:34", after := #[{ on := 19, ground := Go.Ground.data }, { on := 15, ground := Go.Ground.chain }], guard := none }) (v := .bool true) (by rw [hops]; kernel_rfl) (by rw [hops]; kernel_rfl) (by rw [hops]; kernel_rfl) (by rw [hops]; kernel_rfl) (fun c a w h => HQP.out c a _ _ w h) (Or.inl ⟨by rw [hops]; kernel_rfl, by intro w _; go_simp⟩) hw ?_
    simp only [Act.put, List.setIfInBounds_toArray, List.set_cons_zero, List.set_cons_succ]
    refine wpAnyH_take (i := 21) (oi := { dst := some 91, op := Go.Op.move (Go.Operand.tmp 14), type := 28, pos := "law.go:34", after := #[{ on := 20, ground := Go.Ground.guard }], guard := some (20, true) }) (v := .int .i64 C2) (by rw [hops]; kernel_rfl) (by rw [hops]; kernel_rfl) (by rw [hops]; kernel_rfl) (by rw [hops]; kernel_rfl) (fun c a w h => HQP.out c a _ _ w h) (Or.inl ⟨by rw [hops]; kernel_rfl, by intro w _; go_simp⟩) hw ?_
    simp only [Act.put, List.setIfInBounds_toArray, List.set_cons_zero, List.set_cons_succ]
    refine wpAnyH_take (i := 22) (oi := { dst := some 92, op := Go.Op.move (Go.Operand.tmp 16), type := 28, pos := "law.go:34", after := #[{ on := 20, ground := Go.Ground.guard }], guard := some (20, true) }) (v := .int .i64 C2) (by rw [hops]; kernel_rfl) (by rw [hops]; kernel_rfl) (by rw [hops]; kernel_rfl) (by rw [hops]; kernel_rfl) (fun c a w h => HQP.out c a _ _ w h) (Or.inl ⟨by rw [hops]; kernel_rfl, by intro w _; go_simp⟩) hw ?_
    simp only [Act.put, List.setIfInBounds_toArray, List.set_cons_zero, List.set_cons_succ]
    refine wpAnyH_take (i := 23) (oi := { dst := some 93, op := Go.Op.binOp Go.BinOp.eql 28 (Go.Operand.tmp 91) (Go.Operand.tmp 92) 28, type := 4, pos := "law.go:34", after := #[{ on := 21, ground := Go.Ground.data }, { on := 22, ground := Go.Ground.data }, { on := 20, ground := Go.Ground.guard }], guard := some (20, true) }) (v := .bool true) (by rw [hops]; kernel_rfl) (by rw [hops]; kernel_rfl) (by rw [hops]; kernel_rfl) (by rw [hops]; kernel_rfl) (fun c a w h => HQP.out c a _ _ w h) (Or.inl ⟨by rw [hops]; kernel_rfl, by intro w _; go_simp⟩) hw ?_
    simp only [Act.put, List.setIfInBounds_toArray, List.set_cons_zero, List.set_cons_succ]
    refine wpAnyH_take (i := 24) (oi := { dst := some 94, op := Go.Op.pick (Go.Operand.tmp 90) (Go.Operand.tmp 93) (Go.Operand.const (Go.Value.bool false)), type := 4, pos := "law.go:34", after := #[{ on := 20, ground := Go.Ground.data }, { on := 23, ground := Go.Ground.data }], guard := none }) (v := .bool true) (by rw [hops]; kernel_rfl) (by rw [hops]; kernel_rfl) (by rw [hops]; kernel_rfl) (by rw [hops]; kernel_rfl) (fun c a w h => HQP.out c a _ _ w h) (Or.inl ⟨by rw [hops]; kernel_rfl, by intro w _; go_simp⟩) hw ?_
    simp only [Act.put, List.setIfInBounds_toArray, List.set_cons_zero, List.set_cons_succ]
    refine wpAnyH_take (i := 25) (oi := { dst := some 95, op := Go.Op.move (Go.Operand.tmp 94), type := 4, pos := "law.go:34", after := #[{ on := 24, ground := Go.Ground.data }, { on := 20, ground := Go.Ground.chain }], guard := none }) (v := .bool true) (by rw [hops]; kernel_rfl) (by rw [hops]; kernel_rfl) (by rw [hops]; kernel_rfl) (by rw [hops]; kernel_rfl) (fun c a w h => HQP.out c a _ _ w h) (Or.inl ⟨by rw [hops]; kernel_rfl, by intro w _; go_simp⟩) hw ?_
    simp only [Act.put, List.setIfInBounds_toArray, List.set_cons_zero, List.set_cons_succ]
    refine wpAnyH_take (i := 26) (oi := { dst := some 96, op := Go.Op.move (Go.Operand.tmp 17), type := 3, pos := "law.go:34", after := #[{ on := 25, ground := Go.Ground.guard }], guard := some (25, true) }) (v := .int .i64 D1) (by rw [hops]; kernel_rfl) (by rw [hops]; kernel_rfl) (by rw [hops]; kernel_rfl) (by rw [hops]; kernel_rfl) (fun c a w h => HQP.out c a _ _ w h) (Or.inl ⟨by rw [hops]; kernel_rfl, by intro w _; go_simp⟩) hw ?_
    simp only [Act.put, List.setIfInBounds_toArray, List.set_cons_zero, List.set_cons_succ]
    refine wpAnyH_take (i := 27) (oi := { dst := some 97, op := Go.Op.move (Go.Operand.tmp 19), type := 3, pos := "law.go:34", after := #[{ on := 25, ground := Go.Ground.guard }], guard := some (25, true) }) (v := .int .i64 D1) (by rw [hops]; kernel_rfl) (by rw [hops]; kernel_rfl) (by rw [hops]; kernel_rfl) (by rw [hops]; kernel_rfl) (fun c a w h => HQP.out c a _ _ w h) (Or.inl ⟨by rw [hops]; kernel_rfl, by intro w _; go_simp⟩) hw ?_
    simp only [Act.put, List.setIfInBounds_toArray, List.set_cons_zero, List.set_cons_succ]
    refine wpAnyH_take (i := 28) (oi := { dst := some 98, op := Go.Op.binOp Go.BinOp.eql 3 (Go.Operand.tmp 96) (Go.Operand.tmp 97) 3, type := 4, pos := "law.go:34", after := #[{ on := 26, ground := Go.Ground.data }, { on := 27, ground := Go.Ground.data }, { on := 25, ground := Go.Ground.guard }], guard := some (25, true) }) (v := .bool true) (by rw [hops]; kernel_rfl) (by rw [hops]; kernel_rfl) (by rw [hops]; kernel_rfl) (by rw [hops]; kernel_rfl) (fun c a w h => HQP.out c a _ _ w h) (Or.inl ⟨by rw [hops]; kernel_rfl, by intro w _; go_simp⟩) hw ?_
    simp only [Act.put, List.setIfInBounds_toArray, List.set_cons_zero, List.set_cons_succ]
    refine wpAnyH_take (i := 29) (oi := { dst := some 99, op := Go.Op.pick (Go.Operand.tmp 95) (Go.Operand.tmp 98) (Go.Operand.const (Go.Value.bool false)), type := 4, pos := "law.go:34", after := #[{ on := 25, ground := Go.Ground.data }, { on := 28, ground := Go.Ground.data }], guard := none }) (v := .bool true) (by rw [hops]; kernel_rfl) (by rw [hops]; kernel_rfl) (by rw [hops]; kernel_rfl) (by rw [hops]; kernel_rfl) (fun c a w h => HQP.out c a _ _ w h) (Or.inl ⟨by rw [hops]; kernel_rfl, by intro w _; go_simp⟩) hw ?_
    simp only [Act.put, List.setIfInBounds_toArray, List.set_cons_zero, List.set_cons_succ]
    refine wpAnyH_take (i := 30) (oi := { dst := some 100, op := Go.Op.move (Go.Operand.tmp 99), type := 4, pos := "law.go:34", after := #[{ on := 29, ground := Go.Ground.data }, { on := 25, ground := Go.Ground.chain }], guard := none }) (v := .bool true) (by rw [hops]; kernel_rfl) (by rw [hops]; kernel_rfl) (by rw [hops]; kernel_rfl) (by rw [hops]; kernel_rfl) (fun c a w h => HQP.out c a _ _ w h) (Or.inl ⟨by rw [hops]; kernel_rfl, by intro w _; go_simp⟩) hw ?_
    simp only [Act.put, List.setIfInBounds_toArray, List.set_cons_zero, List.set_cons_succ]
    refine wpAnyH_take (i := 31) (oi := { dst := some 101, op := Go.Op.move (Go.Operand.tmp 18), type := 28, pos := "law.go:34", after := #[{ on := 30, ground := Go.Ground.guard }], guard := some (30, true) }) (v := .int .i64 D2) (by rw [hops]; kernel_rfl) (by rw [hops]; kernel_rfl) (by rw [hops]; kernel_rfl) (by rw [hops]; kernel_rfl) (fun c a w h => HQP.out c a _ _ w h) (Or.inl ⟨by rw [hops]; kernel_rfl, by intro w _; go_simp⟩) hw ?_
    simp only [Act.put, List.setIfInBounds_toArray, List.set_cons_zero, List.set_cons_succ]
    refine wpAnyH_take (i := 32) (oi := { dst := some 102, op := Go.Op.move (Go.Operand.tmp 20), type := 28, pos := "law.go:34", after := #[{ on := 30, ground := Go.Ground.guard }], guard := some (30, true) }) (v := .int .i64 D2) (by rw [hops]; kernel_rfl) (by rw [hops]; kernel_rfl) (by rw [hops]; kernel_rfl) (by rw [hops]; kernel_rfl) (fun c a w h => HQP.out c a _ _ w h) (Or.inl ⟨by rw [hops]; kernel_rfl, by intro w _; go_simp⟩) hw ?_
    simp only [Act.put, List.setIfInBounds_toArray, List.set_cons_zero, List.set_cons_succ]
    refine wpAnyH_take (i := 33) (oi := { dst := some 103, op := Go.Op.binOp Go.BinOp.eql 28 (Go.Operand.tmp 101) (Go.Operand.tmp 102) 28, type := 4, pos := "law.go:34", after := #[{ on := 31, ground := Go.Ground.data }, { on := 32, ground := Go.Ground.data }, { on := 30, ground := Go.Ground.guard }], guard := some (30, true) }) (v := .bool true) (by rw [hops]; kernel_rfl) (by rw [hops]; kernel_rfl) (by rw [hops]; kernel_rfl) (by rw [hops]; kernel_rfl) (fun c a w h => HQP.out c a _ _ w h) (Or.inl ⟨by rw [hops]; kernel_rfl, by intro w _; go_simp⟩) hw ?_
    simp only [Act.put, List.setIfInBounds_toArray, List.set_cons_zero, List.set_cons_succ]
    refine wpAnyH_take (i := 34) (oi := { dst := some 104, op := Go.Op.pick (Go.Operand.tmp 100) (Go.Operand.tmp 103) (Go.Operand.const (Go.Value.bool false)), type := 4, pos := "law.go:34", after := #[{ on := 30, ground := Go.Ground.data }, { on := 33, ground := Go.Ground.data }], guard := none }) (v := .bool true) (by rw [hops]; kernel_rfl) (by rw [hops]; kernel_rfl) (by rw [hops]; kernel_rfl) (by rw [hops]; kernel_rfl) (fun c a w h => HQP.out c a _ _ w h) (Or.inl ⟨by rw [hops]; kernel_rfl, by intro w _; go_simp⟩) hw ?_
    simp only [Act.put, List.setIfInBounds_toArray, List.set_cons_zero, List.set_cons_succ]
    refine wpAnyH_take (i := 35) (oi := { dst := some 105, op := Go.Op.move (Go.Operand.tmp 104), type := 4, pos := "law.go:34", after := #[{ on := 34, ground := Go.Ground.data }, { on := 30, ground := Go.Ground.chain }], guard := none }) (v := .bool true) (by rw [hops]; kernel_rfl) (by rw [hops]; kernel_rfl) (by rw [hops]; kernel_rfl) (by rw [hops]; kernel_rfl) (fun c a w h => HQP.out c a _ _ w h) (Or.inl ⟨by rw [hops]; kernel_rfl, by intro w _; go_simp⟩) hw ?_
    simp only [Act.put, List.setIfInBounds_toArray, List.set_cons_zero, List.set_cons_succ]
    refine wpAnyH_ready (rs := [36]) (by rw [hops]; kernel_rfl) (by simp) ?_
    refine AllReadyH.cons (o := { dst := some 106, op := Go.Op.call { callee := Go.Callee.value (Go.Operand.func 12), args := #[], argTypes := #[] }, type := 4, pos := "law.go:34", after := #[{ on := 35, ground := Go.Ground.chain }, { on := 35, ground := Go.Ground.guard }], guard := some (35, true) }) (by rw [hops]; kernel_rfl) (fun K hK => ?_) ?_
    · rw [if_pos (by rw [hops]; kernel_rfl)]
      go_simp
      refine (HAW.out _).mono ?_
      rintro en w5 ⟨rfl, hb5⟩
      exact hK.out _ _ (hw.trans (hb5.mono hw.size)) (fun hwn => S0_1_2_3_4_5_6_7_8_9_10_11_12_13_14_15_16_17_18_19_20_21_22_23_24_25_26_27_28_29_30_31_32_33_34_35_36.out w5 hwn )
    exact AllReadyH.nil
  have S0_1_2 : Kp (∀ (w' : World), Below w7.heap.size w7 w' → wpAnyH Try.prog .any ops Qp (fun w' => Below w7.heap.size w7 w') 36 #[true, true, true, false, false, false, false, false, false, false, false, false, false, false, false, false, false, false, false, false, false, false, false, false, false, false, false, false, false, false, false, false, false, false, false, false, false, false, false] { tmps := #[.agg #[.int .i64 R, .slice g M c, .int .i64 x, .int .i64 y], .slice gu nu cu, .int .i64 day, .int .i64 room, .pointer (some ⟨w.heap.size, 0, none⟩), undef, undef, undef, .bool false, .int .i64 S1, .int .i64 S2, .int .i64 S1, .int .i64 S2, .int .i64 C1, .int .i64 C2, .int .i64 C1, .int .i64 C2, .int .i64 D1, .int .i64 D2, .int .i64 D1, .int .i64 D2, .agg #[.int .i64 R, .slice g M c, .int .i64 x, .int .i64 y], .bool true, .bool false, .bool false, .slice gu nu cu, .int .i64 nu, .bool (decide ((60 : Int) < (nu : Int))), .bool (decide ((60 : Int) < (nu : Int))), undef, .tuple #[.int .i64 S1, .int .i64 S2], .agg #[.int .i64 R, .slice g M c, .int .i64 x, .int .i64 y], .slice gu nu cu, .int .i64 day, .tuple #[.int .i64 S1, .int .i64 S2], .int .i64 S1, .int .i64 S2, .tuple #[.int .i64 S1, .int .i64 S2], .agg #[.int .i64 R, .slice g M c, .int .i64 x, .int .i64 y], .slice gu nu cu, .int .i64 day, .tuple #[.int .i64 S1, .int .i64 S2], .int .i64 S1, .int .i64 S2, .tuple #[.int .i64 C1, .int .i64 C2], .agg #[.int .i64 R, .slice g M c, .int .i64 x, .int .i64 y], .slice gu nu cu, .tuple #[.int .i64 C1, .int .i64 C2], .int .i64 C1, .int .i64 C2, .tuple #[.int .i64 C1, .int .i64 C2], .agg #[.int .i64 R, .slice g M c, .int .i64 x, .int .i64 y], .slice gu nu cu, .tuple #[.int .i64 C1, .int .i64 C2], .int .i64 C1, .int .i64 C2, .tuple #[.int .i64 D1, .int .i64 D2], .agg #[.int .i64 R, .slice g M c, .int .i64 x, .int .i64 y], .slice gu nu cu, .int .i64 room, .tuple #[.int .i64 D1, .int .i64 D2], .int .i64 D1, .int .i64 D2, .tuple #[.int .i64 D1, .int .i64 D2], .agg #[.int .i64 R, .slice g M c, .int .i64 x, .int .i64 y], .slice gu nu cu, .int .i64 room, .tuple #[.int .i64 D1, .int .i64 D2], .int .i64 D1, .int .i64 D2, .agg #[.int .i64 R, .slice g M c, .int .i64 x, .int .i64 y], .bool V, .agg #[.int .i64 R, .slice g M c, .int .i64 x, .int .i64 y], undef, undef, undef, undef, undef, undef, undef, undef, undef, undef, undef, undef, undef, undef, undef, undef, undef, undef, undef, undef, undef, undef, undef, undef, undef, undef, undef, undef, undef, undef, undef, undef, undef, undef, undef], defers := [] } w') := by
    refine ⟨?_⟩
    intro w' hw
    refine wpAnyH_ready (rs := [3]) (by rw [hops]; kernel_rfl) (by simp) ?_
    refine AllReadyH.cons (o := { dst := some 73, op := Go.Op.call { callee := Go.Callee.value (Go.Operand.func 20), args := #[Go.Operand.tmp 72], argTypes := #[24] }, type := 4, pos := "law.go:34", after := #[{ on := 2, ground := Go.Ground.data }, { on := 1, ground := Go.Ground.chain }], guard := none }) (by rw [hops]; kernel_rfl) (fun K hK => ?_) ?_
    · rw [if_pos (by rw [hops]; kernel_rfl)]
      go_simp
      refine (HV2.out _ (HB7.out.trans (hw.mono HB7.out.size))).mono ?_
      rintro en w5 ⟨rfl, hb5⟩
      exact hK.out _ _ (hw.trans (hb5.mono hw.size)) (fun hwn => S0_1_2_3.out w5 hwn )
    exact AllReadyH.nil
  have S : Kp (∀ (w' : World), Below w7.heap.size w7 w' → wpAnyH Try.prog .any ops Qp (fun w' => Below w7.heap.size w7 w') 39 #[false, false, false, false, false, false, false, false, false, false, false, false, false, false, false, false, false, false, false, false, false, false, false, false, false, false, false, false, false, false, false, false, false, false, false, false, false, false, false] { tmps := #[.agg #[.int .i64 R, .slice g M c, .int .i64 x, .int .i64 y], .slice gu nu cu, .int .i64 day, .int .i64 room, .pointer (some ⟨w.heap.size, 0, none⟩), undef, undef, undef, .bool false, .int .i64 S1, .int .i64 S2, .int .i64 S1, .int .i64 S2, .int .i64 C1, .int .i64 C2, .int .i64 C1, .int .i64 C2, .int .i64 D1, .int .i64 D2, .int .i64 D1, .int .i64 D2, .agg #[.int .i64 R, .slice g M c, .int .i64 x, .int .i64 y], .bool true, .bool false, .bool false, .slice gu nu cu, .int .i64 nu, .bool (decide ((60 : Int) < (nu : Int))), .bool (decide ((60 : Int) < (nu : Int))), undef, .tuple #[.int .i64 S1, .int .i64 S2], .agg #[.int .i64 R, .slice g M c, .int .i64 x, .int .i64 y], .slice gu nu cu, .int .i64 day, .tuple #[.int .i64 S1, .int .i64 S2], .int .i64 S1, .int .i64 S2, .tuple #[.int .i64 S1, .int .i64 S2], .agg #[.int .i64 R, .slice g M c, .int .i64 x, .int .i64 y], .slice gu nu cu, .int .i64 day, .tuple #[.int .i64 S1, .int .i64 S2], .int .i64 S1, .int .i64 S2, .tuple #[.int .i64 C1, .int .i64 C2], .agg #[.int .i64 R, .slice g M c, .int .i64 x, .int .i64 y], .slice gu nu cu, .tuple #[.int .i64 C1, .int .i64 C2], .int .i64 C1, .int .i64 C2, .tuple #[.int .i64 C1, .int .i64 C2], .agg #[.int .i64 R, .slice g M c, .int .i64 x, .int .i64 y], .slice gu nu cu, .tuple #[.int .i64 C1, .int .i64 C2], .int .i64 C1, .int .i64 C2, .tuple #[.int .i64 D1, .int .i64 D2], .agg #[.int .i64 R, .slice g M c, .int .i64 x, .int .i64 y], .slice gu nu cu, .int .i64 room, .tuple #[.int .i64 D1, .int .i64 D2], .int .i64 D1, .int .i64 D2, .tuple #[.int .i64 D1, .int .i64 D2], .agg #[.int .i64 R, .slice g M c, .int .i64 x, .int .i64 y], .slice gu nu cu, .int .i64 room, .tuple #[.int .i64 D1, .int .i64 D2], .int .i64 D1, .int .i64 D2, undef, undef, undef, undef, undef, undef, undef, undef, undef, undef, undef, undef, undef, undef, undef, undef, undef, undef, undef, undef, undef, undef, undef, undef, undef, undef, undef, undef, undef, undef, undef, undef, undef, undef, undef, undef, undef, undef], defers := [] } w') := by
    refine ⟨?_⟩
    intro w' hw
    refine wpAnyH_take (i := 0) (oi := { dst := some 70, op := Go.Op.load 24 (Go.Operand.tmp 4), type := 24, pos := "law.go:34", after := #[], guard := none }) (v := .agg #[.int .i64 R, .slice g M c, .int .i64 x, .int .i64 y]) (by rw [hops]; kernel_rfl) (by rw [hops]; kernel_rfl) (by rw [hops]; kernel_rfl) (by rw [hops]; kernel_rfl) (fun c a w h => HQP.out c a _ _ w h) (Or.inl ⟨by rw [hops]; kernel_rfl, by intro w hwS; obtain ⟨q0, q1, q2, q3⟩ := HALL.out w hwS; go_simp⟩) hw ?_
    simp only [Act.put, List.setIfInBounds_toArray, List.set_cons_zero, List.set_cons_succ]
    refine wpAnyH_take (i := 2) (oi := { dst := some 72, op := Go.Op.load 24 (Go.Operand.tmp 4), type := 24, pos := "law.go:34", after := #[], guard := none }) (v := .agg #[.int .i64 R, .slice g M c, .int .i64 x, .int .i64 y]) (by rw [hops]; kernel_rfl) (by rw [hops]; kernel_rfl) (by rw [hops]; kernel_rfl) (by rw [hops]; kernel_rfl) (fun c a w h => HQP.out c a _ _ w h) (Or.inl ⟨by rw [hops]; kernel_rfl, by intro w hwS; obtain ⟨q0, q1, q2, q3⟩ := HALL.out w hwS; go_simp⟩) hw ?_
    simp only [Act.put, List.setIfInBounds_toArray, List.set_cons_zero, List.set_cons_succ]
    refine wpAnyH_ready (rs := [1]) (by rw [hops]; kernel_rfl) (by simp) ?_
    refine AllReadyH.cons (o := { dst := some 71, op := Go.Op.call { callee := Go.Callee.value (Go.Operand.func 19), args := #[Go.Operand.tmp 70], argTypes := #[24] }, type := 4, pos := "law.go:34", after := #[{ on := 0, ground := Go.Ground.data }], guard := none }) (by rw [hops]; kernel_rfl) (fun K hK => ?_) ?_
    · rw [if_pos (by rw [hops]; kernel_rfl)]
      go_simp
      refine (HV1.out _ (HB7.out.trans (hw.mono HB7.out.size))).mono ?_
      rintro en w5 ⟨rfl, hb5⟩
      exact hK.out _ _ (hw.trans (hb5.mono hw.size)) (fun hwn => S0_1_2.out w5 hwn )
    exact AllReadyH.nil
  have hsz : ops.size = 39 := by rw [hops]; rfl
  refine wp_region_held_drew (S := fun w' => Below w7.heap.size w7 w') (by kernel_rfl) (Below.drew (Below.refl _ _)) (fun hw0 => ?_)
  rw [hsz]
  exact S.out _ hw0
theorem numE_two (E T : Int) : ∃ a b, numE E T = .tuple #[.int .i64 a, .int .i64 b] := by
  unfold numE
  split <;> exact ⟨_, _, rfl⟩
theorem dayV_val (E : Int) (o : Option Nat) : ∃ a b, dayV E o = .tuple #[.int .i64 a, .int .i64 b] := by
  unfold dayV
  split
  · split <;> exact ⟨_, _, rfl⟩
  · exact ⟨_, _, rfl⟩
theorem law_days (R x y day room : Int) (v u : Value) (ds : List Dr) (sl : List Int) (w : World) (hv : DS w v ds) (hl : ds.length ≤ 9223372036854775807) (hu : IS w u sl) (hsl : sl.length ≤ 9223372036854775807) :
    Calls Try.prog 3 #[.agg #[.int .i64 R, v, .int .i64 x, .int .i64 y], u, .int .i64 day, .int .i64 room] w fun e w' => e = .returned (.bool true) ∧ Below w.heap.size w w' := by
  obtain ⟨g, c, rfl⟩ := hv.shape
  obtain ⟨gu, cu, rfl⟩ := hu.shape
  by_cases h : ds.length ≤ 50 ∧ sl.length ≤ 60
  · obtain ⟨h1, h2⟩ := h
    have hs2 : sl.length ≤ 9223372036854775806 := by omega
    obtain ⟨S1, S2, hS⟩ := numE_two (sprE R ds x y sl day) (sprT ds x sl day : Nat)
    obtain ⟨C1, C2, hC⟩ := numE_two (askE R ds x y sl) (comesT ds x sl : Nat)
    obtain ⟨D1, D2, hD⟩ := dayV_val (dayE R ds x y sl room) (dayO ds x sl room)
    exact days_in R x y day room g ds.length c gu sl.length cu w S1 S2 C1 C2 D1 D2 (valB R ds x y) h1 h2
      ⟨fun W hW => hS ▸ Spread_any R x y day _ _ ds sl W (hv.below hW) hl (hu.below hW) hsl⟩
      ⟨fun W hW => hS ▸ rSpread_any R x y day _ _ ds sl W (hv.below hW) hl (hu.below hW) hs2⟩
      ⟨fun W hW => hC ▸ Comes_any R x y _ _ ds sl W (hv.below hW) hl (hu.below hW) hsl⟩
      ⟨fun W hW => hC ▸ rComes_any R x y _ _ ds sl W (hv.below hW) hl (hu.below hW) hs2⟩
      ⟨fun W hW => hD ▸ Day_any R x y room _ _ ds sl W (hv.below hW) hl (hu.below hW) hsl⟩
      ⟨fun W hW => hD ▸ rDay_any R x y room _ _ ds sl W (hv.below hW) hl (hu.below hW) hs2⟩
      ⟨fun W hW => Valid_any R x y _ ds W (hv.below hW) hl⟩
      ⟨fun W hW => rValid_any R x y _ ds W (hv.below hW) hl⟩
  · exact days_out R x y day room g ds.length c gu sl.length cu w h
end Go.Proofs.Ythkamfjjfkpekaa.Pe
