/-
  WALKS (layer 8, pest): the law PestNever.
-/
import Derived.Test.YthkamfjjfkpekaaPeNeverP
import Derived.Test.YthkamfjjfkpekaaPeAwake
import Derived.Test.YthkamfjjfkpekaaPeOwnI
namespace Go.Proofs.Ythkamfjjfkpekaa.Pe
open Go Go.RowKit Go.Proofs Go.Sort

theorem OwnI.lt {W : World} {B0 : Nat} {v : Value} {l : List Int} (h : OwnI W B0 v l) (j : Nat) (e : v.ownBlock = some j) : B0 ≤ j ∧ j < W.heap.size := ⟨(h.block e).1, (h.block e).2.1⟩
theorem fit_any (R x y : Int) (g : Option Addr) (M c : Nat) (w : World) : Calls Try.prog 11 #[.agg #[.int .i64 R, .slice g M c, .int .i64 x, .int .i64 y]] w fun e w' => e = .returned (.bool (decide (M ≤ 50))) ∧ Below w.heap.size w w' := by
  by_cases h : M ≤ 50
  · have h1 : decide ((M : Int) ≤ 50) = true := decide_eq_true (by omega)
    have HD : Kp (decide (M ≤ 50) = true) := ⟨decide_eq_true h⟩
    clear h
    go_enter Try.func11, Try.ntmps11
    go_wp2
    go_ret
    exact ⟨by rw [HD.out]; rfl, by repeat (first | exact Below.refl _ _ | refine Below.alloc ?_ (by simp <;> omega) _ | refine bDrewN ?_ _ | refine Below.drew ?_)⟩
  · have h1 : decide ((M : Int) ≤ 50) = false := decide_eq_false (by omega)
    have HD : Kp (decide (M ≤ 50) = false) := ⟨decide_eq_false h⟩
    clear h
    go_enter Try.func11, Try.ntmps11
    go_wp2
    go_ret
    exact ⟨by rw [HD.out]; rfl, by repeat (first | exact Below.refl _ _ | refine Below.alloc ?_ (by simp <;> omega) _ | refine bDrewN ?_ _ | refine Below.drew ?_)⟩
set_option maxRecDepth 100000 in
set_option maxHeartbeats 2000000 in
theorem never_out (R x y day room door : Int) (g : Option Addr) (M c : Nat) (gu : Option Addr) (nu cu : Nat) (ds : List Dr) (sl : List Int) (w : World) (h : ¬ (M ≤ 50 ∧ nu ≤ 60 ∧ 0 ≤ day ∧ day < 100)) :
    Calls Try.prog 4 #[.agg #[.int .i64 R, .slice g M c, .int .i64 x, .int .i64 y], .slice gu nu cu, .int .i64 day, .int .i64 room, .int .i64 door] w fun e w' => e = .returned (.bool true) ∧ Below w.heap.size w w' := by
  have HAW := Kp.mk (fun W => awake_any W)
  have HFT := Kp.mk (fun W => fit_any R x y g M c W)
  by_cases h1 : M ≤ 50
  · have e1 : decide (M ≤ 50) = true := decide_eq_true h1
    rw [e1] at HFT
    by_cases h2 : nu ≤ 60
    · have e2 : ¬ (60 : Int) < (nu : Int) := by omega
      by_cases h3 : 0 ≤ day
      · have h4 : 100 ≤ day := by omega
        clear h e1 h1 h2
        go_enter Try.func4, Try.ntmps4
        go_wp2_with fail
        refine (HFT.out _).mono ?_
        rintro en w0 ⟨rfl, hb0⟩
        have HB0 : Kp (Below w.heap.size w w0) := ⟨Below.trans (by repeat (first | exact Below.refl _ _ | refine Below.alloc ?_ (by simp <;> omega) _ | refine bDrewN ?_ _ | refine Below.drew ?_)) (hb0.mono (by simp <;> omega))⟩
        clear hb0
        go_wp2_with fail
        refine (HAW.out _).mono ?_
        rintro en w9 ⟨rfl, hb9⟩
        have HB9 := Kp.mk (HB0.out.trans (hb9.mono HB0.out.size))
        clear hb9
        go_wp2
        go_ret
        exact ⟨rfl, HB9.out⟩
      · have h4 : day < 0 := by omega
        clear h e1 h1 h2 h3
        go_enter Try.func4, Try.ntmps4
        go_wp2_with fail
        refine (HFT.out _).mono ?_
        rintro en w0 ⟨rfl, hb0⟩
        have HB0 : Kp (Below w.heap.size w w0) := ⟨Below.trans (by repeat (first | exact Below.refl _ _ | refine Below.alloc ?_ (by simp <;> omega) _ | refine bDrewN ?_ _ | refine Below.drew ?_)) (hb0.mono (by simp <;> omega))⟩
        clear hb0
        go_wp2_with fail
        refine (HAW.out _).mono ?_
        rintro en w9 ⟨rfl, hb9⟩
        have HB9 := Kp.mk (HB0.out.trans (hb9.mono HB0.out.size))
        clear hb9
        go_wp2
        go_ret
        exact ⟨rfl, HB9.out⟩
    · have e2 : (60 : Int) < (nu : Int) := by omega
      clear h e1 h1 h2
      go_enter Try.func4, Try.ntmps4
      go_wp2_with fail
      refine (HFT.out _).mono ?_
      rintro en w0 ⟨rfl, hb0⟩
      have HB0 : Kp (Below w.heap.size w w0) := ⟨Below.trans (by repeat (first | exact Below.refl _ _ | refine Below.alloc ?_ (by simp <;> omega) _ | refine bDrewN ?_ _ | refine Below.drew ?_)) (hb0.mono (by simp <;> omega))⟩
      clear hb0
      go_wp2_with fail
      refine (HAW.out _).mono ?_
      rintro en w9 ⟨rfl, hb9⟩
      have HB9 := Kp.mk (HB0.out.trans (hb9.mono HB0.out.size))
      clear hb9
      go_wp2
      go_ret
      exact ⟨rfl, HB9.out⟩
  · have e1 : decide (M ≤ 50) = false := decide_eq_false h1
    rw [e1] at HFT
    clear h e1 h1
    go_enter Try.func4, Try.ntmps4
    go_wp2_with fail
    refine (HFT.out _).mono ?_
    rintro en w0 ⟨rfl, hb0⟩
    have HB0 : Kp (Below w.heap.size w w0) := ⟨Below.trans (by repeat (first | exact Below.refl _ _ | refine Below.alloc ?_ (by simp <;> omega) _ | refine bDrewN ?_ _ | refine Below.drew ?_)) (hb0.mono (by simp <;> omega))⟩
    clear hb0
    go_wp2_with fail
    refine (HAW.out _).mono ?_
    rintro en w9 ⟨rfl, hb9⟩
    have HB9 := Kp.mk (HB0.out.trans (hb9.mono HB0.out.size))
    clear hb9
    go_wp2
    go_ret
    exact ⟨rfl, HB9.out⟩
set_option maxRecDepth 100000 in
set_option maxHeartbeats 2000000 in
theorem never_err (R x y day room door : Int) (g : Option Addr) (M c : Nat) (gu : Option Addr) (nu cu : Nat) (ds : List Dr) (sl : List Int) (w : World) (E : Int) (hE : E ≠ 0) (h1 : M ≤ 50) (h2 : nu ≤ 60) (h3 : 0 ≤ day) (h4 : day < 100)
    (HS1 : Kp (∀ W, Below w.heap.size w W → Calls Try.prog 13 #[.agg #[.int .i64 R, .slice g M c, .int .i64 x, .int .i64 y], .slice gu nu cu, .int .i64 day] W fun e w' => e = .returned (.tuple #[.int .i64 0, .int .i64 E]) ∧ Below W.heap.size W w'))
    (HS2 : Kp (∀ W, Below w.heap.size w W → Calls Try.prog 13 #[.agg #[.int .i64 R, .slice g M c, .int .i64 x, .int .i64 y], .slice gu nu cu, .int .i64 (day + 1)] W fun e w' => e = .returned (.tuple #[.int .i64 0, .int .i64 E]) ∧ Below W.heap.size W w')) :
    Calls Try.prog 4 #[.agg #[.int .i64 R, .slice g M c, .int .i64 x, .int .i64 y], .slice gu nu cu, .int .i64 day, .int .i64 room, .int .i64 door] w fun e w' => e = .returned (.bool true) ∧ Below w.heap.size w w' := by
  have HAW := Kp.mk (fun W => awake_any W)
  have HFT := Kp.mk (fun W => fit_any R x y g M c W)
  rw [decide_eq_true h1] at HFT
  have e2 : ¬ (60 : Int) < (nu : Int) := by omega
  have h5 : ¬ day < 0 := by omega
  have h6 : ¬ 100 ≤ day := by omega
  go_enter Try.func4, Try.ntmps4
  go_wp2_with fail
  refine (HFT.out _).mono ?_
  rintro en w1 ⟨rfl, hb1⟩
  have HB1 : Kp (Below w.heap.size w w1) := ⟨Below.trans (by repeat (first | refine Below.alloc ?_ (by (try simp) <;> omega) _ | refine bDrewN ?_ _ | refine Below.drew ?_ | refine Below.setCell ?_ (by (try simp) <;> omega) _ | exact Below.refl _ _)) (hb1.mono (by (try simp) <;> omega))⟩
  have hz1_0 : w.heap.size < w1.heap.size := by have := hb1.size; (try simp at this); omega
  obtain ⟨hc, hf⟩ := bcell hb1
  have c1_0_0 : w1.cell? ⟨w.heap.size, 0, none⟩ = some (.int .i64 R) := (hc _ _ (by (try simp) <;> omega)).trans (by go_simp)
  have c1_0_1 : w1.cell? ⟨w.heap.size, 1, none⟩ = some ((.slice g M c)) := (hc _ _ (by (try simp) <;> omega)).trans (by go_simp)
  have c1_0_2 : w1.cell? ⟨w.heap.size, 2, none⟩ = some (.int .i64 x) := (hc _ _ (by (try simp) <;> omega)).trans (by go_simp)
  have c1_0_3 : w1.cell? ⟨w.heap.size, 3, none⟩ = some (.int .i64 y) := (hc _ _ (by (try simp) <;> omega)).trans (by go_simp)
  have z1_0 : ∀ j, w1.frozen? ⟨w.heap.size, j, none⟩ = false := fun j => (hf _ _ (by (try simp) <;> omega)).trans (by go_simp)
  clear hc hf hb1
  go_wp2_with fail
  refine (HS1.out _ HB1.out).mono ?_
  rintro en w2 ⟨rfl, hb2⟩
  have HB2 : Kp (Below w.heap.size w w2) := ⟨Below.trans (by repeat (first | refine Below.alloc ?_ (by have := HB1.out.size; (try simp) <;> omega) _ | refine bDrewN ?_ _ | refine Below.drew ?_ | refine Below.setCell ?_ (by have := HB1.out.size; (try simp) <;> omega) _ | exact HB1.out)) (hb2.mono (by have := HB1.out.size; (try simp) <;> omega))⟩
  have hz2_0 : w.heap.size < w2.heap.size := by have := hb2.size; (try simp at this); omega
  obtain ⟨hc, hf⟩ := bcell hb2
  have c2_0_0 : w2.cell? ⟨w.heap.size, 0, none⟩ = some (.int .i64 R) := (hc _ _ (by (try simp) <;> omega)).trans (by go_simp)
  have c2_0_1 : w2.cell? ⟨w.heap.size, 1, none⟩ = some ((.slice g M c)) := (hc _ _ (by (try simp) <;> omega)).trans (by go_simp)
  have c2_0_2 : w2.cell? ⟨w.heap.size, 2, none⟩ = some (.int .i64 x) := (hc _ _ (by (try simp) <;> omega)).trans (by go_simp)
  have c2_0_3 : w2.cell? ⟨w.heap.size, 3, none⟩ = some (.int .i64 y) := (hc _ _ (by (try simp) <;> omega)).trans (by go_simp)
  have z2_0 : ∀ j, w2.frozen? ⟨w.heap.size, j, none⟩ = false := fun j => (hf _ _ (by (try simp) <;> omega)).trans (by go_simp)
  clear hc hf hb2 c1_0_0 c1_0_1 c1_0_2 c1_0_3 z1_0
  go_wp2_with fail
  refine (HS2.out _ HB2.out).mono ?_
  rintro en w3 ⟨rfl, hb3⟩
  have HB3 : Kp (Below w.heap.size w w3) := ⟨Below.trans (by repeat (first | refine Below.alloc ?_ (by have := HB2.out.size; (try simp) <;> omega) _ | refine bDrewN ?_ _ | refine Below.drew ?_ | refine Below.setCell ?_ (by have := HB2.out.size; (try simp) <;> omega) _ | exact HB2.out)) (hb3.mono (by have := HB2.out.size; (try simp) <;> omega))⟩
  have hz3_0 : w.heap.size < w3.heap.size := by have := hb3.size; (try simp at this); omega
  obtain ⟨hc, hf⟩ := bcell hb3
  have c3_0_0 : w3.cell? ⟨w.heap.size, 0, none⟩ = some (.int .i64 R) := (hc _ _ (by (try simp) <;> omega)).trans (by go_simp)
  have c3_0_1 : w3.cell? ⟨w.heap.size, 1, none⟩ = some ((.slice g M c)) := (hc _ _ (by (try simp) <;> omega)).trans (by go_simp)
  have c3_0_2 : w3.cell? ⟨w.heap.size, 2, none⟩ = some (.int .i64 x) := (hc _ _ (by (try simp) <;> omega)).trans (by go_simp)
  have c3_0_3 : w3.cell? ⟨w.heap.size, 3, none⟩ = some (.int .i64 y) := (hc _ _ (by (try simp) <;> omega)).trans (by go_simp)
  have z3_0 : ∀ j, w3.frozen? ⟨w.heap.size, j, none⟩ = false := fun j => (hf _ _ (by (try simp) <;> omega)).trans (by go_simp)
  clear hc hf hb3 c2_0_0 c2_0_1 c2_0_2 c2_0_3 z2_0
  have i1 : (E == (0 : Int)) = false := by simp [hE]
  have i2 : (E != (0 : Int)) = true := by simp [hE]
  clear hE
  go_wp2_with fail
  refine (HAW.out _).mono ?_
  rintro en w9 ⟨rfl, hb9⟩
  have HB9 := Kp.mk (HB3.out.trans (hb9.mono HB3.out.size))
  clear hb9
  go_wp2
  go_ret
  exact ⟨rfl, HB9.out⟩
attribute [-go_sem] Builtin.append_
theorem contains_snoc (l : List Int) (z k : Int) : (l ++ [z]).contains k = (l.contains k || (z == k)) := by
  rw [Bool.eq_iff_iff]
  simp only [List.contains_iff_mem, List.mem_append, List.mem_singleton, Bool.or_eq_true, beq_iff_eq]
  exact ⟨fun h => h.imp id Eq.symm, fun h => h.imp id Eq.symm⟩
set_option maxRecDepth 100000 in
set_option maxHeartbeats 8000000 in
theorem never_bad (R x y day room door : Int) (g : Option Addr) (M c : Nat) (gu : Option Addr) (nu cu : Nat) (ds : List Dr) (sl : List Int) (w : World) 
    (hM : ds.length = M) (hnu : sl.length = nu) (hu : IS w (.slice gu nu cu) sl) (h1 : M ≤ 50) (h2 : nu ≤ 60) (h3 : 0 ≤ day) (h4 : day < 100) (A B C D : Nat)
    (HS1 : Kp (∀ W, Below w.heap.size w W → Calls Try.prog 13 #[.agg #[.int .i64 R, .slice g M c, .int .i64 x, .int .i64 y], .slice gu nu cu, .int .i64 day] W fun e w' => e = .returned (.tuple #[.int .i64 (A : Nat), .int .i64 0]) ∧ Below W.heap.size W w'))
    (HS2 : Kp (∀ W, Below w.heap.size w W → Calls Try.prog 13 #[.agg #[.int .i64 R, .slice g M c, .int .i64 x, .int .i64 y], .slice gu nu cu, .int .i64 (day + 1)] W fun e w' => e = .returned (.tuple #[.int .i64 (B : Nat), .int .i64 0]) ∧ Below W.heap.size W w'))
    (HCM : Kp (∀ W, Below w.heap.size w W → Calls Try.prog 15 #[.agg #[.int .i64 R, .slice g M c, .int .i64 x, .int .i64 y], .slice gu nu cu] W fun e w' => e = .returned (.tuple #[.int .i64 (C : Nat), .int .i64 0]) ∧ Below W.heap.size W w'))
    (HS3 : Kp (∀ W, Below w.heap.size w W → Calls Try.prog 13 #[.agg #[.int .i64 R, .slice g M c, .int .i64 x, .int .i64 y], .slice gu nu cu, .int .i64 R] W fun e w' => e = .returned (.tuple #[.int .i64 (C : Nat), .int .i64 0]) ∧ Below W.heap.size W w'))
    (HC2 : Kp (∀ W u, Below w.heap.size w W → IS W u (moreF sl door M) → Calls Try.prog 15 #[.agg #[.int .i64 R, .slice g M c, .int .i64 x, .int .i64 y], u] W fun e w' => e = .returned (.tuple #[.int .i64 (D : Nat), .int .i64 0]) ∧ Below W.heap.size W w'))
    (HAB : Kp (bits .andNot .i64 (A : Int) (B : Int) = 0)) (HDC : Kp (bits .andNot .i64 (D : Int) (C : Int) = 0))
    (HDA : Kp (∀ W, Below w.heap.size w W → Calls Try.prog 17 #[.agg #[.int .i64 R, .slice g M c, .int .i64 x, .int .i64 y], .slice gu nu cu, .int .i64 room] W fun e w' => e = .returned (.tuple #[.int .i64 0, .int .i64 5]) ∧ Below W.heap.size W w')) :
    Calls Try.prog 4 #[.agg #[.int .i64 R, .slice g M c, .int .i64 x, .int .i64 y], .slice gu nu cu, .int .i64 day, .int .i64 room, .int .i64 door] w fun e w' => e = .returned (.bool true) ∧ Below w.heap.size w w' := by
  have HAW := Kp.mk (fun W => awake_any W)
  have HFT := Kp.mk (fun W => fit_any R x y g M c W)
  rw [decide_eq_true h1] at HFT
  have e2 : ¬ (60 : Int) < (nu : Int) := by omega
  have h5 : ¬ day < 0 := by omega
  have h6 : ¬ 100 ≤ day := by omega
  have HIS := Kp.mk hu
  have HNU := Kp.mk hnu
  clear hu hnu hM
  go_enter Try.func4, Try.ntmps4
  go_wp2_with fail
  refine (HFT.out _).mono ?_
  rintro en w1 ⟨rfl, hb1⟩
  have HB1 : Kp (Below w.heap.size w w1) := ⟨Below.trans (by repeat (first | refine Below.alloc ?_ (by (try simp) <;> omega) _ | refine bDrewN ?_ _ | refine Below.drew ?_ | refine Below.setCell ?_ (by (try simp) <;> omega) _ | exact Below.refl _ _)) (hb1.mono (by (try simp) <;> omega))⟩
  have hz1_0 : w.heap.size < w1.heap.size := by have := hb1.size; (try simp at this); omega
  obtain ⟨hc, hf⟩ := bcell hb1
  have c1_0_0 : w1.cell? ⟨w.heap.size, 0, none⟩ = some (.int .i64 R) := (hc _ _ (by (try simp) <;> omega)).trans (by go_simp)
  have c1_0_1 : w1.cell? ⟨w.heap.size, 1, none⟩ = some ((.slice g M c)) := (hc _ _ (by (try simp) <;> omega)).trans (by go_simp)
  have c1_0_2 : w1.cell? ⟨w.heap.size, 2, none⟩ = some (.int .i64 x) := (hc _ _ (by (try simp) <;> omega)).trans (by go_simp)
  have c1_0_3 : w1.cell? ⟨w.heap.size, 3, none⟩ = some (.int .i64 y) := (hc _ _ (by (try simp) <;> omega)).trans (by go_simp)
  have z1_0 : ∀ j, w1.frozen? ⟨w.heap.size, j, none⟩ = false := fun j => (hf _ _ (by (try simp) <;> omega)).trans (by go_simp)
  clear hc hf hb1
  go_wp2_with fail
  refine (HS1.out _ HB1.out).mono ?_
  rintro en w2 ⟨rfl, hb2⟩
  have HB2 : Kp (Below w.heap.size w w2) := ⟨Below.trans (by repeat (first | refine Below.alloc ?_ (by have := HB1.out.size; (try simp) <;> omega) _ | refine bDrewN ?_ _ | refine Below.drew ?_ | refine Below.setCell ?_ (by have := HB1.out.size; (try simp) <;> omega) _ | exact HB1.out)) (hb2.mono (by have := HB1.out.size; (try simp) <;> omega))⟩
  have hz2_0 : w.heap.size < w2.heap.size := by have := hb2.size; (try simp at this); omega
  obtain ⟨hc, hf⟩ := bcell hb2
  have c2_0_0 : w2.cell? ⟨w.heap.size, 0, none⟩ = some (.int .i64 R) := (hc _ _ (by (try simp) <;> omega)).trans (by go_simp)
  have c2_0_1 : w2.cell? ⟨w.heap.size, 1, none⟩ = some ((.slice g M c)) := (hc _ _ (by (try simp) <;> omega)).trans (by go_simp)
  have c2_0_2 : w2.cell? ⟨w.heap.size, 2, none⟩ = some (.int .i64 x) := (hc _ _ (by (try simp) <;> omega)).trans (by go_simp)
  have c2_0_3 : w2.cell? ⟨w.heap.size, 3, none⟩ = some (.int .i64 y) := (hc _ _ (by (try simp) <;> omega)).trans (by go_simp)
  have z2_0 : ∀ j, w2.frozen? ⟨w.heap.size, j, none⟩ = false := fun j => (hf _ _ (by (try simp) <;> omega)).trans (by go_simp)
  clear hc hf hb2 c1_0_0 c1_0_1 c1_0_2 c1_0_3 z1_0
  go_wp2_with fail
  refine (HS2.out _ HB2.out).mono ?_
  rintro en w3 ⟨rfl, hb3⟩
  have HB3 : Kp (Below w.heap.size w w3) := ⟨Below.trans (by repeat (first | refine Below.alloc ?_ (by have := HB2.out.size; (try simp) <;> omega) _ | refine bDrewN ?_ _ | refine Below.drew ?_ | refine Below.setCell ?_ (by have := HB2.out.size; (try simp) <;> omega) _ | exact HB2.out)) (hb3.mono (by have := HB2.out.size; (try simp) <;> omega))⟩
  have hz3_0 : w.heap.size < w3.heap.size := by have := hb3.size; (try simp at this); omega
  obtain ⟨hc, hf⟩ := bcell hb3
  have c3_0_0 : w3.cell? ⟨w.heap.size, 0, none⟩ = some (.int .i64 R) := (hc _ _ (by (try simp) <;> omega)).trans (by go_simp)
  have c3_0_1 : w3.cell? ⟨w.heap.size, 1, none⟩ = some ((.slice g M c)) := (hc _ _ (by (try simp) <;> omega)).trans (by go_simp)
  have c3_0_2 : w3.cell? ⟨w.heap.size, 2, none⟩ = some (.int .i64 x) := (hc _ _ (by (try simp) <;> omega)).trans (by go_simp)
  have c3_0_3 : w3.cell? ⟨w.heap.size, 3, none⟩ = some (.int .i64 y) := (hc _ _ (by (try simp) <;> omega)).trans (by go_simp)
  have z3_0 : ∀ j, w3.frozen? ⟨w.heap.size, j, none⟩ = false := fun j => (hf _ _ (by (try simp) <;> omega)).trans (by go_simp)
  clear hc hf hb3 c2_0_0 c2_0_1 c2_0_2 c2_0_3 z2_0
  go_wp2_with fail
  refine (HCM.out _ HB3.out).mono ?_
  rintro en w4 ⟨rfl, hb4⟩
  have HB4 : Kp (Below w.heap.size w w4) := ⟨Below.trans (by repeat (first | refine Below.alloc ?_ (by have := HB3.out.size; (try simp) <;> omega) _ | refine bDrewN ?_ _ | refine Below.drew ?_ | refine Below.setCell ?_ (by have := HB3.out.size; (try simp) <;> omega) _ | exact HB3.out)) (hb4.mono (by have := HB3.out.size; (try simp) <;> omega))⟩
  have hz4_0 : w.heap.size < w4.heap.size := by have := hb4.size; (try simp at this); omega
  obtain ⟨hc, hf⟩ := bcell hb4
  have c4_0_0 : w4.cell? ⟨w.heap.size, 0, none⟩ = some (.int .i64 R) := (hc _ _ (by (try simp) <;> omega)).trans (by go_simp)
  have c4_0_1 : w4.cell? ⟨w.heap.size, 1, none⟩ = some ((.slice g M c)) := (hc _ _ (by (try simp) <;> omega)).trans (by go_simp)
  have c4_0_2 : w4.cell? ⟨w.heap.size, 2, none⟩ = some (.int .i64 x) := (hc _ _ (by (try simp) <;> omega)).trans (by go_simp)
  have c4_0_3 : w4.cell? ⟨w.heap.size, 3, none⟩ = some (.int .i64 y) := (hc _ _ (by (try simp) <;> omega)).trans (by go_simp)
  have z4_0 : ∀ j, w4.frozen? ⟨w.heap.size, j, none⟩ = false := fun j => (hf _ _ (by (try simp) <;> omega)).trans (by go_simp)
  clear hc hf hb4 c3_0_0 c3_0_1 c3_0_2 c3_0_3 z3_0
  go_wp2_with fail
  refine (HS3.out _ HB4.out).mono ?_
  rintro en w5 ⟨rfl, hb5⟩
  have HB5 : Kp (Below w.heap.size w w5) := ⟨Below.trans (by repeat (first | refine Below.alloc ?_ (by have := HB4.out.size; (try simp) <;> omega) _ | refine bDrewN ?_ _ | refine Below.drew ?_ | refine Below.setCell ?_ (by have := HB4.out.size; (try simp) <;> omega) _ | exact HB4.out)) (hb5.mono (by have := HB4.out.size; (try simp) <;> omega))⟩
  have hz5_0 : w.heap.size < w5.heap.size := by have := hb5.size; (try simp at this); omega
  obtain ⟨hc, hf⟩ := bcell hb5
  have c5_0_0 : w5.cell? ⟨w.heap.size, 0, none⟩ = some (.int .i64 R) := (hc _ _ (by (try simp) <;> omega)).trans (by go_simp)
  have c5_0_1 : w5.cell? ⟨w.heap.size, 1, none⟩ = some ((.slice g M c)) := (hc _ _ (by (try simp) <;> omega)).trans (by go_simp)
  have c5_0_2 : w5.cell? ⟨w.heap.size, 2, none⟩ = some (.int .i64 x) := (hc _ _ (by (try simp) <;> omega)).trans (by go_simp)
  have c5_0_3 : w5.cell? ⟨w.heap.size, 3, none⟩ = some (.int .i64 y) := (hc _ _ (by (try simp) <;> omega)).trans (by go_simp)
  have z5_0 : ∀ j, w5.frozen? ⟨w.heap.size, j, none⟩ = false := fun j => (hf _ _ (by (try simp) <;> omega)).trans (by go_simp)
  clear hc hf hb5 c4_0_0 c4_0_1 c4_0_2 c4_0_3 z4_0
  have hab := HAB.out
  go_wp2_with fail
  refine (HDA.out _ HB5.out).mono ?_
  rintro en w6 ⟨rfl, hb6⟩
  have HB6 : Kp (Below w.heap.size w w6) := ⟨Below.trans (by repeat (first | refine Below.alloc ?_ (by have := HB5.out.size; (try simp) <;> omega) _ | refine bDrewN ?_ _ | refine Below.drew ?_ | refine Below.setCell ?_ (by have := HB5.out.size; (try simp) <;> omega) _ | exact HB5.out)) (hb6.mono (by have := HB5.out.size; (try simp) <;> omega))⟩
  have hz6_0 : w.heap.size < w6.heap.size := by have := hb6.size; (try simp at this); omega
  obtain ⟨hc, hf⟩ := bcell hb6
  have c6_0_0 : w6.cell? ⟨w.heap.size, 0, none⟩ = some (.int .i64 R) := (hc _ _ (by (try simp) <;> omega)).trans (by go_simp)
  have c6_0_1 : w6.cell? ⟨w.heap.size, 1, none⟩ = some ((.slice g M c)) := (hc _ _ (by (try simp) <;> omega)).trans (by go_simp)
  have c6_0_2 : w6.cell? ⟨w.heap.size, 2, none⟩ = some (.int .i64 x) := (hc _ _ (by (try simp) <;> omega)).trans (by go_simp)
  have c6_0_3 : w6.cell? ⟨w.heap.size, 3, none⟩ = some (.int .i64 y) := (hc _ _ (by (try simp) <;> omega)).trans (by go_simp)
  have z6_0 : ∀ j, w6.frozen? ⟨w.heap.size, j, none⟩ = false := fun j => (hf _ _ (by (try simp) <;> omega)).trans (by go_simp)
  clear hc hf hb6 c5_0_0 c5_0_1 c5_0_2 c5_0_3 z5_0
  clear hab
  have d0 := c6_0_0
  have d1 := c6_0_1
  have d2 := c6_0_2
  have d3 := c6_0_3
  have HBZ := HB6
  clear c6_0_0 c6_0_1 c6_0_2 c6_0_3 z6_0 hz6_0
  have HZ0 := Kp.mk (fun w' (h : Below w6.heap.size w6 w') => (⟨(h.cell (p := ⟨w.heap.size, 0, none⟩) (World.block_lt_of_cell? _ _ d0)).trans d0, (h.cell (p := ⟨w.heap.size, 1, none⟩) (World.block_lt_of_cell? _ _ d1)).trans d1, (h.cell (p := ⟨w.heap.size, 2, none⟩) (World.block_lt_of_cell? _ _ d2)).trans d2, (h.cell (p := ⟨w.heap.size, 3, none⟩) (World.block_lt_of_cell? _ _ d3)).trans d3⟩ : w'.cell? ⟨w.heap.size, 0, none⟩ = some (.int .i64 R) ∧ w'.cell? ⟨w.heap.size, 1, none⟩ = some (.slice g M c) ∧ w'.cell? ⟨w.heap.size, 2, none⟩ = some (.int .i64 x) ∧ w'.cell? ⟨w.heap.size, 3, none⟩ = some (.int .i64 y)))
  have HO0 : Kp (OwnI w6 w6.heap.size (.slice none 0 0) (moreF sl door 0)) := ⟨OwnI.nil _ _⟩
  go_wp2_with fail
  clear d0 d1 d2 d3
  go_loopw [25, 157] (fun v i wr => ∃ k : Nat, k ≤ M ∧ i = .int .i64 k ∧ Kp (OwnI wr w6.heap.size v (moreF sl door k)) ∧ Kp (Below w6.heap.size w6 wr)) (fun _ i _ => M - (intOf i).toNat)
  case atStart => exact ⟨0, Nat.zero_le _, rfl, HO0, ⟨Below.refl _ _⟩⟩
  case round =>
    clear HO0
    obtain ⟨k, hk, rfl, HO, HB⟩ := hrel
    by_cases hlt : k < M
    · have o1 : (k : Int) < (M : Int) := by omega
      have o4 : k ≤ 50 := by omega
      have HOS : Kp (moreF sl door (k + 1) = moreF sl door k ++ if decide ((k : Int) = door) || sl.contains (k : Int) then [(k : Int)] else []) := ⟨rfl⟩
      obtain ⟨Q0, hQ0⟩ : ∃ Q, decide ((k : Int) = door) = Q := ⟨_, rfl⟩
      have i0 : ((k : Int) == door) = Q0 := by rw [← hQ0]; by_cases hq : (k : Int) = door <;> simp [hq]
      rw [hQ0] at HOS
      clear hQ0
      cases Q0 with
      | false =>
        go_wp2
        go_loop [27, 165] (fun a j => ∃ q : Nat, q ≤ nu ∧ j = .int .i64 q ∧ a = .bool (false || (sl.take q).contains (k : Int))) (fun _ j => nu - (intOf j).toNat)
        case atStart => exact ⟨0, Nat.zero_le _, rfl, by simp⟩
        case round =>
          obtain ⟨q, hq, rfl, rfl⟩ := hrel
          by_cases hlq : q < nu
          · obtain ⟨z, hz⟩ : ∃ z, sl[q]? = some z := ⟨_, List.getElem?_eq_getElem (by rw [HNU.out]; exact hlq)⟩
            obtain ⟨ga, ca, e', -, hic⟩ := HIS.out.below (HBZ.out.trans (HB.out.mono HBZ.out.size))
            obtain ⟨b, o, hg, hcell⟩ := hic q _ hz
            simp only [Value.slice.injEq] at e'
            obtain ⟨rfl, -, -⟩ := e'
            subst hg
            have o5 : (q : Int) < (nu : Int) := by omega
            have o6 : q ≤ 60 := by omega
            have HTK : Kp ((sl.take (q + 1)).contains (k : Int) = ((sl.take q).contains (k : Int) || (z == (k : Int)))) := ⟨by
              rw [List.take_add_one, hz, Option.toList_some, contains_snoc]⟩
            obtain ⟨Q1, hQ1⟩ : ∃ Q, (false || (sl.take q).contains (k : Int)) = Q := ⟨_, rfl⟩
            have HQ1 := Kp.mk hQ1
            rw [hQ1]
            clear hz hic hQ1
            cases Q1 with
            | true =>
              have HN : Kp ((false || (sl.take (q + 1)).contains (k : Int)) = true) := ⟨by rw [HTK.out, ← Bool.or_assoc, HQ1.out]; rfl⟩
              go_wp2
              go_round
              case rel => exact ⟨q + 1, by omega, by go_num, by rw [HN.out]⟩
              case measure => simp [intOf]; omega
            | false =>
              obtain ⟨Q2, hQ2⟩ : ∃ Q, (z == (k : Int)) = Q := ⟨_, rfl⟩
              have HN : Kp ((false || (sl.take (q + 1)).contains (k : Int)) = Q2) := ⟨by rw [HTK.out, ← Bool.or_assoc, HQ1.out, hQ2]; rfl⟩
              cases Q2
              all_goals
                go_wp2
                go_round
                case rel => exact ⟨q + 1, by omega, by go_num, by rw [HN.out]⟩
                case measure => simp [intOf]; omega
          · have hqn : q = nu := by omega
            have HTF : Kp (sl.take q = sl) := ⟨by rw [hqn, ← HNU.out]; exact List.take_length⟩
            have o5 : ¬ (q : Int) < (nu : Int) := by omega
            obtain ⟨Q1, hQ1⟩ : ∃ Q, (false || (sl.take q).contains (k : Int)) = Q := ⟨_, rfl⟩
            have HQ1 : Kp ((false || sl.contains (k : Int)) = Q1) := ⟨by rw [← hQ1, HTF.out]⟩
            rw [hQ1]
            rw [HQ1.out] at HOS
            clear hQ1 HQ1 HTF hqn
            cases Q1 with
            | false =>
              have HO2 : Kp (OwnI wr w6.heap.size u25 (moreF sl door (k + 1))) := ⟨by rw [HOS.out, if_neg (by decide), List.append_nil]; exact HO.out⟩
              go_wp2
              go_roundw
              case rel => exact ⟨k + 1, by omega, by go_num, HO2, HB⟩
              case measure => simp [intOf]; omega
            | true =>
              have HX2 : Kp (moreF sl door (k + 1) = moreF sl door k ++ [(k : Int)]) := ⟨by rw [HOS.out, if_pos rfl]⟩
              have hbz := (Below.refl wr.heap.size wr).alloc (Nat.le_refl _) (.cells #[.int .i64 (k : Int)] 3)
              have hx3 : (wr.alloc (.cells #[.int .i64 (k : Int)] 3)).cell? ⟨wr.heap.size, 0, none⟩ = some (.int .i64 (k : Int)) := by go_simp
              obtain ⟨g5, c5, w5, hrun, hown, hgrow, hat⟩ := (HO.out.on hbz).next hx3 (by have := moreF_len sl door k; omega) (by have := HB.out.size; rw [World.size_alloc]; omega)
              have hbw : Below w6.heap.size w6 (wr.alloc (.cells #[.int .i64 (k : Int)] 3)) := HB.out.trans (hbz.mono HB.out.size)
              have HB5 : Kp (Below w6.heap.size w6 w5) := ⟨hbw.grown hgrow hbw.size (fun j hj => ((HO.out.on hbz).lt j hj).1)⟩
              have HO5 : Kp (OwnI w5 w6.heap.size (.slice g5 ((moreF sl door k).length + 1) c5) (moreF sl door (k + 1))) := ⟨by rw [HX2.out]; exact hown⟩
              clear hown hgrow hat hbz hx3 hbw
              go_wp2
              go_roundw
              case rel => exact ⟨k + 1, by omega, by go_num, HO5, HB5⟩
              case measure => simp [intOf]; omega
      | true =>
        go_wp2
        go_loop [27, 165] (fun a j => ∃ q : Nat, q ≤ nu ∧ j = .int .i64 q ∧ a = .bool (true || (sl.take q).contains (k : Int))) (fun _ j => nu - (intOf j).toNat)
        case atStart => exact ⟨0, Nat.zero_le _, rfl, by simp⟩
        case round =>
          obtain ⟨q, hq, rfl, rfl⟩ := hrel
          by_cases hlq : q < nu
          · obtain ⟨z, hz⟩ : ∃ z, sl[q]? = some z := ⟨_, List.getElem?_eq_getElem (by rw [HNU.out]; exact hlq)⟩
            obtain ⟨ga, ca, e', -, hic⟩ := HIS.out.below (HBZ.out.trans (HB.out.mono HBZ.out.size))
            obtain ⟨b, o, hg, hcell⟩ := hic q _ hz
            simp only [Value.slice.injEq] at e'
            obtain ⟨rfl, -, -⟩ := e'
            subst hg
            have o5 : (q : Int) < (nu : Int) := by omega
            have o6 : q ≤ 60 := by omega
            have HTK : Kp ((sl.take (q + 1)).contains (k : Int) = ((sl.take q).contains (k : Int) || (z == (k : Int)))) := ⟨by
              rw [List.take_add_one, hz, Option.toList_some, contains_snoc]⟩
            obtain ⟨Q1, hQ1⟩ : ∃ Q, (true || (sl.take q).contains (k : Int)) = Q := ⟨_, rfl⟩
            have HQ1 := Kp.mk hQ1
            rw [hQ1]
            clear hz hic hQ1
            cases Q1 with
            | true =>
              have HN : Kp ((true || (sl.take (q + 1)).contains (k : Int)) = true) := ⟨by rw [HTK.out, ← Bool.or_assoc, HQ1.out]; rfl⟩
              go_wp2
              go_round
              case rel => exact ⟨q + 1, by omega, by go_num, by rw [HN.out]⟩
              case measure => simp [intOf]; omega
            | false =>
              obtain ⟨Q2, hQ2⟩ : ∃ Q, (z == (k : Int)) = Q := ⟨_, rfl⟩
              have HN : Kp ((true || (sl.take (q + 1)).contains (k : Int)) = Q2) := ⟨by rw [HTK.out, ← Bool.or_assoc, HQ1.out, hQ2]; rfl⟩
              cases Q2
              all_goals
                go_wp2
                go_round
                case rel => exact ⟨q + 1, by omega, by go_num, by rw [HN.out]⟩
                case measure => simp [intOf]; omega
          · have hqn : q = nu := by omega
            have HTF : Kp (sl.take q = sl) := ⟨by rw [hqn, ← HNU.out]; exact List.take_length⟩
            have o5 : ¬ (q : Int) < (nu : Int) := by omega
            obtain ⟨Q1, hQ1⟩ : ∃ Q, (true || (sl.take q).contains (k : Int)) = Q := ⟨_, rfl⟩
            have HQ1 : Kp ((true || sl.contains (k : Int)) = Q1) := ⟨by rw [← hQ1, HTF.out]⟩
            rw [hQ1]
            rw [HQ1.out] at HOS
            clear hQ1 HQ1 HTF hqn
            cases Q1 with
            | false =>
              have HO2 : Kp (OwnI wr w6.heap.size u25 (moreF sl door (k + 1))) := ⟨by rw [HOS.out, if_neg (by decide), List.append_nil]; exact HO.out⟩
              go_wp2
              go_roundw
              case rel => exact ⟨k + 1, by omega, by go_num, HO2, HB⟩
              case measure => simp [intOf]; omega
            | true =>
              have HX2 : Kp (moreF sl door (k + 1) = moreF sl door k ++ [(k : Int)]) := ⟨by rw [HOS.out, if_pos rfl]⟩
              have hbz := (Below.refl wr.heap.size wr).alloc (Nat.le_refl _) (.cells #[.int .i64 (k : Int)] 3)
              have hx3 : (wr.alloc (.cells #[.int .i64 (k : Int)] 3)).cell? ⟨wr.heap.size, 0, none⟩ = some (.int .i64 (k : Int)) := by go_simp
              obtain ⟨g5, c5, w5, hrun, hown, hgrow, hat⟩ := (HO.out.on hbz).next hx3 (by have := moreF_len sl door k; omega) (by have := HB.out.size; rw [World.size_alloc]; omega)
              have hbw : Below w6.heap.size w6 (wr.alloc (.cells #[.int .i64 (k : Int)] 3)) := HB.out.trans (hbz.mono HB.out.size)
              have HB5 : Kp (Below w6.heap.size w6 w5) := ⟨hbw.grown hgrow hbw.size (fun j hj => ((HO.out.on hbz).lt j hj).1)⟩
              have HO5 : Kp (OwnI w5 w6.heap.size (.slice g5 ((moreF sl door k).length + 1) c5) (moreF sl door (k + 1))) := ⟨by rw [HX2.out]; exact hown⟩
              clear hown hgrow hat hbz hx3 hbw
              go_wp2
              go_roundw
              case rel => exact ⟨k + 1, by omega, by go_num, HO5, HB5⟩
              case measure => simp [intOf]; omega
    · have hkn : k = M := by omega
      have HOF : Kp (IS wr u25 (moreF sl door M)) := ⟨by rw [← hkn]; exact HO.out.is⟩
      have HBR := Kp.mk (HBZ.out.trans (HB.out.mono HBZ.out.size))
      obtain ⟨d0, d1, d2, d3⟩ := HZ0.out wr HB.out
      have o1 : ¬ (k : Int) < (M : Int) := by omega
      clear hkn
      go_wp2_with fail
      refine (HC2.out _ _ HBR.out HOF.out).mono ?_
      rintro en w7 ⟨rfl, hb7⟩
      have HB7 := Kp.mk (HBR.out.trans (hb7.mono HBR.out.size))
      have hdc := HDC.out
      clear hb7 d0 d1 d2 d3
      go_wp2_with fail
      refine (HAW.out _).mono ?_
      rintro en w9 ⟨rfl, hb9⟩
      have HB9 := Kp.mk (HB7.out.trans (hb9.mono HB7.out.size))
      clear hb9
      go_wp2
      go_ret
      exact ⟨rfl, HB9.out⟩
set_option maxRecDepth 100000 in
set_option maxHeartbeats 8000000 in
theorem never_none (R x y day door : Int) (g : Option Addr) (M c : Nat) (gu : Option Addr) (nu cu : Nat) (ds : List Dr) (sl : List Int) (w : World) (RN : Nat) (hRN : RN ≤ 11) 
    (hM : ds.length = M) (hnu : sl.length = nu) (hu : IS w (.slice gu nu cu) sl) (h1 : M ≤ 50) (h2 : nu ≤ 60) (h3 : 0 ≤ day) (h4 : day < 100) (A B C D : Nat)
    (HS1 : Kp (∀ W, Below w.heap.size w W → Calls Try.prog 13 #[.agg #[.int .i64 R, .slice g M c, .int .i64 x, .int .i64 y], .slice gu nu cu, .int .i64 day] W fun e w' => e = .returned (.tuple #[.int .i64 (A : Nat), .int .i64 0]) ∧ Below W.heap.size W w'))
    (HS2 : Kp (∀ W, Below w.heap.size w W → Calls Try.prog 13 #[.agg #[.int .i64 R, .slice g M c, .int .i64 x, .int .i64 y], .slice gu nu cu, .int .i64 (day + 1)] W fun e w' => e = .returned (.tuple #[.int .i64 (B : Nat), .int .i64 0]) ∧ Below W.heap.size W w'))
    (HCM : Kp (∀ W, Below w.heap.size w W → Calls Try.prog 15 #[.agg #[.int .i64 R, .slice g M c, .int .i64 x, .int .i64 y], .slice gu nu cu] W fun e w' => e = .returned (.tuple #[.int .i64 (C : Nat), .int .i64 0]) ∧ Below W.heap.size W w'))
    (HS3 : Kp (∀ W, Below w.heap.size w W → Calls Try.prog 13 #[.agg #[.int .i64 R, .slice g M c, .int .i64 x, .int .i64 y], .slice gu nu cu, .int .i64 R] W fun e w' => e = .returned (.tuple #[.int .i64 (C : Nat), .int .i64 0]) ∧ Below W.heap.size W w'))
    (HC2 : Kp (∀ W u, Below w.heap.size w W → IS W u (moreF sl door M) → Calls Try.prog 15 #[.agg #[.int .i64 R, .slice g M c, .int .i64 x, .int .i64 y], u] W fun e w' => e = .returned (.tuple #[.int .i64 (D : Nat), .int .i64 0]) ∧ Below W.heap.size W w'))
    (HAB : Kp (bits .andNot .i64 (A : Int) (B : Int) = 0)) (HDC : Kp (bits .andNot .i64 (D : Int) (C : Int) = 0))
    (HDA : Kp (∀ W, Below w.heap.size w W → Calls Try.prog 17 #[.agg #[.int .i64 R, .slice g M c, .int .i64 x, .int .i64 y], .slice gu nu cu, .int .i64 (RN : Nat)] W fun e w' => e = .returned (.tuple #[.int .i64 0, .int .i64 8]) ∧ Below W.heap.size W w'))
    (HQ1 : Kp (bits .and .i64 ((C : Int) / 2 ^ RN) 1 = 0)) :
    Calls Try.prog 4 #[.agg #[.int .i64 R, .slice g M c, .int .i64 x, .int .i64 y], .slice gu nu cu, .int .i64 day, .int .i64 (RN : Nat), .int .i64 door] w fun e w' => e = .returned (.bool true) ∧ Below w.heap.size w w' := by
  have HAW := Kp.mk (fun W => awake_any W)
  have HFT := Kp.mk (fun W => fit_any R x y g M c W)
  rw [decide_eq_true h1] at HFT
  have e2 : ¬ (60 : Int) < (nu : Int) := by omega
  have h5 : ¬ day < 0 := by omega
  have h6 : ¬ 100 ≤ day := by omega
  have HIS := Kp.mk hu
  have HNU := Kp.mk hnu
  clear hu hnu hM
  go_enter Try.func4, Try.ntmps4
  go_wp2_with fail
  refine (HFT.out _).mono ?_
  rintro en w1 ⟨rfl, hb1⟩
  have HB1 : Kp (Below w.heap.size w w1) := ⟨Below.trans (by repeat (first | refine Below.alloc ?_ (by (try simp) <;> omega) _ | refine bDrewN ?_ _ | refine Below.drew ?_ | refine Below.setCell ?_ (by (try simp) <;> omega) _ | exact Below.refl _ _)) (hb1.mono (by (try simp) <;> omega))⟩
  have hz1_0 : w.heap.size < w1.heap.size := by have := hb1.size; (try simp at this); omega
  obtain ⟨hc, hf⟩ := bcell hb1
  have c1_0_0 : w1.cell? ⟨w.heap.size, 0, none⟩ = some (.int .i64 R) := (hc _ _ (by (try simp) <;> omega)).trans (by go_simp)
  have c1_0_1 : w1.cell? ⟨w.heap.size, 1, none⟩ = some ((.slice g M c)) := (hc _ _ (by (try simp) <;> omega)).trans (by go_simp)
  have c1_0_2 : w1.cell? ⟨w.heap.size, 2, none⟩ = some (.int .i64 x) := (hc _ _ (by (try simp) <;> omega)).trans (by go_simp)
  have c1_0_3 : w1.cell? ⟨w.heap.size, 3, none⟩ = some (.int .i64 y) := (hc _ _ (by (try simp) <;> omega)).trans (by go_simp)
  have z1_0 : ∀ j, w1.frozen? ⟨w.heap.size, j, none⟩ = false := fun j => (hf _ _ (by (try simp) <;> omega)).trans (by go_simp)
  clear hc hf hb1
  go_wp2_with fail
  refine (HS1.out _ HB1.out).mono ?_
  rintro en w2 ⟨rfl, hb2⟩
  have HB2 : Kp (Below w.heap.size w w2) := ⟨Below.trans (by repeat (first | refine Below.alloc ?_ (by have := HB1.out.size; (try simp) <;> omega) _ | refine bDrewN ?_ _ | refine Below.drew ?_ | refine Below.setCell ?_ (by have := HB1.out.size; (try simp) <;> omega) _ | exact HB1.out)) (hb2.mono (by have := HB1.out.size; (try simp) <;> omega))⟩
  have hz2_0 : w.heap.size < w2.heap.size := by have := hb2.size; (try simp at this); omega
  obtain ⟨hc, hf⟩ := bcell hb2
  have c2_0_0 : w2.cell? ⟨w.heap.size, 0, none⟩ = some (.int .i64 R) := (hc _ _ (by (try simp) <;> omega)).trans (by go_simp)
  have c2_0_1 : w2.cell? ⟨w.heap.size, 1, none⟩ = some ((.slice g M c)) := (hc _ _ (by (try simp) <;> omega)).trans (by go_simp)
  have c2_0_2 : w2.cell? ⟨w.heap.size, 2, none⟩ = some (.int .i64 x) := (hc _ _ (by (try simp) <;> omega)).trans (by go_simp)
  have c2_0_3 : w2.cell? ⟨w.heap.size, 3, none⟩ = some (.int .i64 y) := (hc _ _ (by (try simp) <;> omega)).trans (by go_simp)
  have z2_0 : ∀ j, w2.frozen? ⟨w.heap.size, j, none⟩ = false := fun j => (hf _ _ (by (try simp) <;> omega)).trans (by go_simp)
  clear hc hf hb2 c1_0_0 c1_0_1 c1_0_2 c1_0_3 z1_0
  go_wp2_with fail
  refine (HS2.out _ HB2.out).mono ?_
  rintro en w3 ⟨rfl, hb3⟩
  have HB3 : Kp (Below w.heap.size w w3) := ⟨Below.trans (by repeat (first | refine Below.alloc ?_ (by have := HB2.out.size; (try simp) <;> omega) _ | refine bDrewN ?_ _ | refine Below.drew ?_ | refine Below.setCell ?_ (by have := HB2.out.size; (try simp) <;> omega) _ | exact HB2.out)) (hb3.mono (by have := HB2.out.size; (try simp) <;> omega))⟩
  have hz3_0 : w.heap.size < w3.heap.size := by have := hb3.size; (try simp at this); omega
  obtain ⟨hc, hf⟩ := bcell hb3
  have c3_0_0 : w3.cell? ⟨w.heap.size, 0, none⟩ = some (.int .i64 R) := (hc _ _ (by (try simp) <;> omega)).trans (by go_simp)
  have c3_0_1 : w3.cell? ⟨w.heap.size, 1, none⟩ = some ((.slice g M c)) := (hc _ _ (by (try simp) <;> omega)).trans (by go_simp)
  have c3_0_2 : w3.cell? ⟨w.heap.size, 2, none⟩ = some (.int .i64 x) := (hc _ _ (by (try simp) <;> omega)).trans (by go_simp)
  have c3_0_3 : w3.cell? ⟨w.heap.size, 3, none⟩ = some (.int .i64 y) := (hc _ _ (by (try simp) <;> omega)).trans (by go_simp)
  have z3_0 : ∀ j, w3.frozen? ⟨w.heap.size, j, none⟩ = false := fun j => (hf _ _ (by (try simp) <;> omega)).trans (by go_simp)
  clear hc hf hb3 c2_0_0 c2_0_1 c2_0_2 c2_0_3 z2_0
  go_wp2_with fail
  refine (HCM.out _ HB3.out).mono ?_
  rintro en w4 ⟨rfl, hb4⟩
  have HB4 : Kp (Below w.heap.size w w4) := ⟨Below.trans (by repeat (first | refine Below.alloc ?_ (by have := HB3.out.size; (try simp) <;> omega) _ | refine bDrewN ?_ _ | refine Below.drew ?_ | refine Below.setCell ?_ (by have := HB3.out.size; (try simp) <;> omega) _ | exact HB3.out)) (hb4.mono (by have := HB3.out.size; (try simp) <;> omega))⟩
  have hz4_0 : w.heap.size < w4.heap.size := by have := hb4.size; (try simp at this); omega
  obtain ⟨hc, hf⟩ := bcell hb4
  have c4_0_0 : w4.cell? ⟨w.heap.size, 0, none⟩ = some (.int .i64 R) := (hc _ _ (by (try simp) <;> omega)).trans (by go_simp)
  have c4_0_1 : w4.cell? ⟨w.heap.size, 1, none⟩ = some ((.slice g M c)) := (hc _ _ (by (try simp) <;> omega)).trans (by go_simp)
  have c4_0_2 : w4.cell? ⟨w.heap.size, 2, none⟩ = some (.int .i64 x) := (hc _ _ (by (try simp) <;> omega)).trans (by go_simp)
  have c4_0_3 : w4.cell? ⟨w.heap.size, 3, none⟩ = some (.int .i64 y) := (hc _ _ (by (try simp) <;> omega)).trans (by go_simp)
  have z4_0 : ∀ j, w4.frozen? ⟨w.heap.size, j, none⟩ = false := fun j => (hf _ _ (by (try simp) <;> omega)).trans (by go_simp)
  clear hc hf hb4 c3_0_0 c3_0_1 c3_0_2 c3_0_3 z3_0
  go_wp2_with fail
  refine (HS3.out _ HB4.out).mono ?_
  rintro en w5 ⟨rfl, hb5⟩
  have HB5 : Kp (Below w.heap.size w w5) := ⟨Below.trans (by repeat (first | refine Below.alloc ?_ (by have := HB4.out.size; (try simp) <;> omega) _ | refine bDrewN ?_ _ | refine Below.drew ?_ | refine Below.setCell ?_ (by have := HB4.out.size; (try simp) <;> omega) _ | exact HB4.out)) (hb5.mono (by have := HB4.out.size; (try simp) <;> omega))⟩
  have hz5_0 : w.heap.size < w5.heap.size := by have := hb5.size; (try simp at this); omega
  obtain ⟨hc, hf⟩ := bcell hb5
  have c5_0_0 : w5.cell? ⟨w.heap.size, 0, none⟩ = some (.int .i64 R) := (hc _ _ (by (try simp) <;> omega)).trans (by go_simp)
  have c5_0_1 : w5.cell? ⟨w.heap.size, 1, none⟩ = some ((.slice g M c)) := (hc _ _ (by (try simp) <;> omega)).trans (by go_simp)
  have c5_0_2 : w5.cell? ⟨w.heap.size, 2, none⟩ = some (.int .i64 x) := (hc _ _ (by (try simp) <;> omega)).trans (by go_simp)
  have c5_0_3 : w5.cell? ⟨w.heap.size, 3, none⟩ = some (.int .i64 y) := (hc _ _ (by (try simp) <;> omega)).trans (by go_simp)
  have z5_0 : ∀ j, w5.frozen? ⟨w.heap.size, j, none⟩ = false := fun j => (hf _ _ (by (try simp) <;> omega)).trans (by go_simp)
  clear hc hf hb5 c4_0_0 c4_0_1 c4_0_2 c4_0_3 z4_0
  have hab := HAB.out
  go_wp2_with fail
  refine (HDA.out _ HB5.out).mono ?_
  rintro en w6 ⟨rfl, hb6⟩
  have HB6 : Kp (Below w.heap.size w w6) := ⟨Below.trans (by repeat (first | refine Below.alloc ?_ (by have := HB5.out.size; (try simp) <;> omega) _ | refine bDrewN ?_ _ | refine Below.drew ?_ | refine Below.setCell ?_ (by have := HB5.out.size; (try simp) <;> omega) _ | exact HB5.out)) (hb6.mono (by have := HB5.out.size; (try simp) <;> omega))⟩
  have hz6_0 : w.heap.size < w6.heap.size := by have := hb6.size; (try simp at this); omega
  obtain ⟨hc, hf⟩ := bcell hb6
  have c6_0_0 : w6.cell? ⟨w.heap.size, 0, none⟩ = some (.int .i64 R) := (hc _ _ (by (try simp) <;> omega)).trans (by go_simp)
  have c6_0_1 : w6.cell? ⟨w.heap.size, 1, none⟩ = some ((.slice g M c)) := (hc _ _ (by (try simp) <;> omega)).trans (by go_simp)
  have c6_0_2 : w6.cell? ⟨w.heap.size, 2, none⟩ = some (.int .i64 x) := (hc _ _ (by (try simp) <;> omega)).trans (by go_simp)
  have c6_0_3 : w6.cell? ⟨w.heap.size, 3, none⟩ = some (.int .i64 y) := (hc _ _ (by (try simp) <;> omega)).trans (by go_simp)
  have z6_0 : ∀ j, w6.frozen? ⟨w.heap.size, j, none⟩ = false := fun j => (hf _ _ (by (try simp) <;> omega)).trans (by go_simp)
  clear hc hf hb6 c5_0_0 c5_0_1 c5_0_2 c5_0_3 z5_0
  clear hab
  have hs1 := HQ1.out
  have d0 := c6_0_0
  have d1 := c6_0_1
  have d2 := c6_0_2
  have d3 := c6_0_3
  have HBZ := HB6
  clear c6_0_0 c6_0_1 c6_0_2 c6_0_3 z6_0 hz6_0
  have HZ0 := Kp.mk (fun w' (h : Below w6.heap.size w6 w') => (⟨(h.cell (p := ⟨w.heap.size, 0, none⟩) (World.block_lt_of_cell? _ _ d0)).trans d0, (h.cell (p := ⟨w.heap.size, 1, none⟩) (World.block_lt_of_cell? _ _ d1)).trans d1, (h.cell (p := ⟨w.heap.size, 2, none⟩) (World.block_lt_of_cell? _ _ d2)).trans d2, (h.cell (p := ⟨w.heap.size, 3, none⟩) (World.block_lt_of_cell? _ _ d3)).trans d3⟩ : w'.cell? ⟨w.heap.size, 0, none⟩ = some (.int .i64 R) ∧ w'.cell? ⟨w.heap.size, 1, none⟩ = some (.slice g M c) ∧ w'.cell? ⟨w.heap.size, 2, none⟩ = some (.int .i64 x) ∧ w'.cell? ⟨w.heap.size, 3, none⟩ = some (.int .i64 y)))
  have HO0 : Kp (OwnI w6 w6.heap.size (.slice none 0 0) (moreF sl door 0)) := ⟨OwnI.nil _ _⟩
  go_wp2_with fail
  clear d0 d1 d2 d3
  go_loopw [25, 157] (fun v i wr => ∃ k : Nat, k ≤ M ∧ i = .int .i64 k ∧ Kp (OwnI wr w6.heap.size v (moreF sl door k)) ∧ Kp (Below w6.heap.size w6 wr)) (fun _ i _ => M - (intOf i).toNat)
  case atStart => exact ⟨0, Nat.zero_le _, rfl, HO0, ⟨Below.refl _ _⟩⟩
  case round =>
    clear HO0
    obtain ⟨k, hk, rfl, HO, HB⟩ := hrel
    by_cases hlt : k < M
    · have o1 : (k : Int) < (M : Int) := by omega
      have o4 : k ≤ 50 := by omega
      have HOS : Kp (moreF sl door (k + 1) = moreF sl door k ++ if decide ((k : Int) = door) || sl.contains (k : Int) then [(k : Int)] else []) := ⟨rfl⟩
      obtain ⟨Q0, hQ0⟩ : ∃ Q, decide ((k : Int) = door) = Q := ⟨_, rfl⟩
      have i0 : ((k : Int) == door) = Q0 := by rw [← hQ0]; by_cases hq : (k : Int) = door <;> simp [hq]
      rw [hQ0] at HOS
      clear hQ0
      cases Q0 with
      | false =>
        go_wp2
        go_loop [27, 165] (fun a j => ∃ q : Nat, q ≤ nu ∧ j = .int .i64 q ∧ a = .bool (false || (sl.take q).contains (k : Int))) (fun _ j => nu - (intOf j).toNat)
        case atStart => exact ⟨0, Nat.zero_le _, rfl, by simp⟩
        case round =>
          obtain ⟨q, hq, rfl, rfl⟩ := hrel
          by_cases hlq : q < nu
          · obtain ⟨z, hz⟩ : ∃ z, sl[q]? = some z := ⟨_, List.getElem?_eq_getElem (by rw [HNU.out]; exact hlq)⟩
            obtain ⟨ga, ca, e', -, hic⟩ := HIS.out.below (HBZ.out.trans (HB.out.mono HBZ.out.size))
            obtain ⟨b, o, hg, hcell⟩ := hic q _ hz
            simp only [Value.slice.injEq] at e'
            obtain ⟨rfl, -, -⟩ := e'
            subst hg
            have o5 : (q : Int) < (nu : Int) := by omega
            have o6 : q ≤ 60 := by omega
            have HTK : Kp ((sl.take (q + 1)).contains (k : Int) = ((sl.take q).contains (k : Int) || (z == (k : Int)))) := ⟨by
              rw [List.take_add_one, hz, Option.toList_some, contains_snoc]⟩
            obtain ⟨Q1, hQ1⟩ : ∃ Q, (false || (sl.take q).contains (k : Int)) = Q := ⟨_, rfl⟩
            have HQ1 := Kp.mk hQ1
            rw [hQ1]
            clear hz hic hQ1
            cases Q1 with
            | true =>
              have HN : Kp ((false || (sl.take (q + 1)).contains (k : Int)) = true) := ⟨by rw [HTK.out, ← Bool.or_assoc, HQ1.out]; rfl⟩
              go_wp2
              go_round
              case rel => exact ⟨q + 1, by omega, by go_num, by rw [HN.out]⟩
              case measure => simp [intOf]; omega
            | false =>
              obtain ⟨Q2, hQ2⟩ : ∃ Q, (z == (k : Int)) = Q := ⟨_, rfl⟩
              have HN : Kp ((false || (sl.take (q + 1)).contains (k : Int)) = Q2) := ⟨by rw [HTK.out, ← Bool.or_assoc, HQ1.out, hQ2]; rfl⟩
              cases Q2
              all_goals
                go_wp2
                go_round
                case rel => exact ⟨q + 1, by omega, by go_num, by rw [HN.out]⟩
                case measure => simp [intOf]; omega
          · have hqn : q = nu := by omega
            have HTF : Kp (sl.take q = sl) := ⟨by rw [hqn, ← HNU.out]; exact List.take_length⟩
            have o5 : ¬ (q : Int) < (nu : Int) := by omega
            obtain ⟨Q1, hQ1⟩ : ∃ Q, (false || (sl.take q).contains (k : Int)) = Q := ⟨_, rfl⟩
            have HQ1 : Kp ((false || sl.contains (k : Int)) = Q1) := ⟨by rw [← hQ1, HTF.out]⟩
            rw [hQ1]
            rw [HQ1.out] at HOS
            clear hQ1 HQ1 HTF hqn
            cases Q1 with
            | false =>
              have HO2 : Kp (OwnI wr w6.heap.size u25 (moreF sl door (k + 1))) := ⟨by rw [HOS.out, if_neg (by decide), List.append_nil]; exact HO.out⟩
              go_wp2
              go_roundw
              case rel => exact ⟨k + 1, by omega, by go_num, HO2, HB⟩
              case measure => simp [intOf]; omega
            | true =>
              have HX2 : Kp (moreF sl door (k + 1) = moreF sl door k ++ [(k : Int)]) := ⟨by rw [HOS.out, if_pos rfl]⟩
              have hbz := (Below.refl wr.heap.size wr).alloc (Nat.le_refl _) (.cells #[.int .i64 (k : Int)] 3)
              have hx3 : (wr.alloc (.cells #[.int .i64 (k : Int)] 3)).cell? ⟨wr.heap.size, 0, none⟩ = some (.int .i64 (k : Int)) := by go_simp
              obtain ⟨g5, c5, w5, hrun, hown, hgrow, hat⟩ := (HO.out.on hbz).next hx3 (by have := moreF_len sl door k; omega) (by have := HB.out.size; rw [World.size_alloc]; omega)
              have hbw : Below w6.heap.size w6 (wr.alloc (.cells #[.int .i64 (k : Int)] 3)) := HB.out.trans (hbz.mono HB.out.size)
              have HB5 : Kp (Below w6.heap.size w6 w5) := ⟨hbw.grown hgrow hbw.size (fun j hj => ((HO.out.on hbz).lt j hj).1)⟩
              have HO5 : Kp (OwnI w5 w6.heap.size (.slice g5 ((moreF sl door k).length + 1) c5) (moreF sl door (k + 1))) := ⟨by rw [HX2.out]; exact hown⟩
              clear hown hgrow hat hbz hx3 hbw
              go_wp2
              go_roundw
              case rel => exact ⟨k + 1, by omega, by go_num, HO5, HB5⟩
              case measure => simp [intOf]; omega
      | true =>
        go_wp2
        go_loop [27, 165] (fun a j => ∃ q : Nat, q ≤ nu ∧ j = .int .i64 q ∧ a = .bool (true || (sl.take q).contains (k : Int))) (fun _ j => nu - (intOf j).toNat)
        case atStart => exact ⟨0, Nat.zero_le _, rfl, by simp⟩
        case round =>
          obtain ⟨q, hq, rfl, rfl⟩ := hrel
          by_cases hlq : q < nu
          · obtain ⟨z, hz⟩ : ∃ z, sl[q]? = some z := ⟨_, List.getElem?_eq_getElem (by rw [HNU.out]; exact hlq)⟩
            obtain ⟨ga, ca, e', -, hic⟩ := HIS.out.below (HBZ.out.trans (HB.out.mono HBZ.out.size))
            obtain ⟨b, o, hg, hcell⟩ := hic q _ hz
            simp only [Value.slice.injEq] at e'
            obtain ⟨rfl, -, -⟩ := e'
            subst hg
            have o5 : (q : Int) < (nu : Int) := by omega
            have o6 : q ≤ 60 := by omega
            have HTK : Kp ((sl.take (q + 1)).contains (k : Int) = ((sl.take q).contains (k : Int) || (z == (k : Int)))) := ⟨by
              rw [List.take_add_one, hz, Option.toList_some, contains_snoc]⟩
            obtain ⟨Q1, hQ1⟩ : ∃ Q, (true || (sl.take q).contains (k : Int)) = Q := ⟨_, rfl⟩
            have HQ1 := Kp.mk hQ1
            rw [hQ1]
            clear hz hic hQ1
            cases Q1 with
            | true =>
              have HN : Kp ((true || (sl.take (q + 1)).contains (k : Int)) = true) := ⟨by rw [HTK.out, ← Bool.or_assoc, HQ1.out]; rfl⟩
              go_wp2
              go_round
              case rel => exact ⟨q + 1, by omega, by go_num, by rw [HN.out]⟩
              case measure => simp [intOf]; omega
            | false =>
              obtain ⟨Q2, hQ2⟩ : ∃ Q, (z == (k : Int)) = Q := ⟨_, rfl⟩
              have HN : Kp ((true || (sl.take (q + 1)).contains (k : Int)) = Q2) := ⟨by rw [HTK.out, ← Bool.or_assoc, HQ1.out, hQ2]; rfl⟩
              cases Q2
              all_goals
                go_wp2
                go_round
                case rel => exact ⟨q + 1, by omega, by go_num, by rw [HN.out]⟩
                case measure => simp [intOf]; omega
          · have hqn : q = nu := by omega
            have HTF : Kp (sl.take q = sl) := ⟨by rw [hqn, ← HNU.out]; exact List.take_length⟩
            have o5 : ¬ (q : Int) < (nu : Int) := by omega
            obtain ⟨Q1, hQ1⟩ : ∃ Q, (true || (sl.take q).contains (k : Int)) = Q := ⟨_, rfl⟩
            have HQ1 : Kp ((true || sl.contains (k : Int)) = Q1) := ⟨by rw [← hQ1, HTF.out]⟩
            rw [hQ1]
            rw [HQ1.out] at HOS
            clear hQ1 HQ1 HTF hqn
            cases Q1 with
            | false =>
              have HO2 : Kp (OwnI wr w6.heap.size u25 (moreF sl door (k + 1))) := ⟨by rw [HOS.out, if_neg (by decide), List.append_nil]; exact HO.out⟩
              go_wp2
              go_roundw
              case rel => exact ⟨k + 1, by omega, by go_num, HO2, HB⟩
              case measure => simp [intOf]; omega
            | true =>
              have HX2 : Kp (moreF sl door (k + 1) = moreF sl door k ++ [(k : Int)]) := ⟨by rw [HOS.out, if_pos rfl]⟩
              have hbz := (Below.refl wr.heap.size wr).alloc (Nat.le_refl _) (.cells #[.int .i64 (k : Int)] 3)
              have hx3 : (wr.alloc (.cells #[.int .i64 (k : Int)] 3)).cell? ⟨wr.heap.size, 0, none⟩ = some (.int .i64 (k : Int)) := by go_simp
              obtain ⟨g5, c5, w5, hrun, hown, hgrow, hat⟩ := (HO.out.on hbz).next hx3 (by have := moreF_len sl door k; omega) (by have := HB.out.size; rw [World.size_alloc]; omega)
              have hbw : Below w6.heap.size w6 (wr.alloc (.cells #[.int .i64 (k : Int)] 3)) := HB.out.trans (hbz.mono HB.out.size)
              have HB5 : Kp (Below w6.heap.size w6 w5) := ⟨hbw.grown hgrow hbw.size (fun j hj => ((HO.out.on hbz).lt j hj).1)⟩
              have HO5 : Kp (OwnI w5 w6.heap.size (.slice g5 ((moreF sl door k).length + 1) c5) (moreF sl door (k + 1))) := ⟨by rw [HX2.out]; exact hown⟩
              clear hown hgrow hat hbz hx3 hbw
              go_wp2
              go_roundw
              case rel => exact ⟨k + 1, by omega, by go_num, HO5, HB5⟩
              case measure => simp [intOf]; omega
    · have hkn : k = M := by omega
      have HOF : Kp (IS wr u25 (moreF sl door M)) := ⟨by rw [← hkn]; exact HO.out.is⟩
      have HBR := Kp.mk (HBZ.out.trans (HB.out.mono HBZ.out.size))
      obtain ⟨d0, d1, d2, d3⟩ := HZ0.out wr HB.out
      have o1 : ¬ (k : Int) < (M : Int) := by omega
      clear hkn
      go_wp2_with fail
      refine (HC2.out _ _ HBR.out HOF.out).mono ?_
      rintro en w7 ⟨rfl, hb7⟩
      have HB7 := Kp.mk (HBR.out.trans (hb7.mono HBR.out.size))
      have hdc := HDC.out
      clear hb7 d0 d1 d2 d3
      go_wp2_with fail
      refine (HAW.out _).mono ?_
      rintro en w9 ⟨rfl, hb9⟩
      have HB9 := Kp.mk (HB7.out.trans (hb9.mono HB7.out.size))
      clear hb9
      go_wp2
      go_ret
      exact ⟨rfl, HB9.out⟩
set_option maxRecDepth 100000 in
set_option maxHeartbeats 8000000 in
theorem never_first (R x y day door : Int) (g : Option Addr) (M c : Nat) (gu : Option Addr) (nu cu : Nat) (ds : List Dr) (sl : List Int) (w : World) (RN : Nat) (hRN : RN ≤ 11) (S1 : Nat) 
    (hM : ds.length = M) (hnu : sl.length = nu) (hu : IS w (.slice gu nu cu) sl) (h1 : M ≤ 50) (h2 : nu ≤ 60) (h3 : 0 ≤ day) (h4 : day < 100) (A B C D : Nat)
    (HS1 : Kp (∀ W, Below w.heap.size w W → Calls Try.prog 13 #[.agg #[.int .i64 R, .slice g M c, .int .i64 x, .int .i64 y], .slice gu nu cu, .int .i64 day] W fun e w' => e = .returned (.tuple #[.int .i64 (A : Nat), .int .i64 0]) ∧ Below W.heap.size W w'))
    (HS2 : Kp (∀ W, Below w.heap.size w W → Calls Try.prog 13 #[.agg #[.int .i64 R, .slice g M c, .int .i64 x, .int .i64 y], .slice gu nu cu, .int .i64 (day + 1)] W fun e w' => e = .returned (.tuple #[.int .i64 (B : Nat), .int .i64 0]) ∧ Below W.heap.size W w'))
    (HCM : Kp (∀ W, Below w.heap.size w W → Calls Try.prog 15 #[.agg #[.int .i64 R, .slice g M c, .int .i64 x, .int .i64 y], .slice gu nu cu] W fun e w' => e = .returned (.tuple #[.int .i64 (C : Nat), .int .i64 0]) ∧ Below W.heap.size W w'))
    (HS3 : Kp (∀ W, Below w.heap.size w W → Calls Try.prog 13 #[.agg #[.int .i64 R, .slice g M c, .int .i64 x, .int .i64 y], .slice gu nu cu, .int .i64 R] W fun e w' => e = .returned (.tuple #[.int .i64 (C : Nat), .int .i64 0]) ∧ Below W.heap.size W w'))
    (HC2 : Kp (∀ W u, Below w.heap.size w W → IS W u (moreF sl door M) → Calls Try.prog 15 #[.agg #[.int .i64 R, .slice g M c, .int .i64 x, .int .i64 y], u] W fun e w' => e = .returned (.tuple #[.int .i64 (D : Nat), .int .i64 0]) ∧ Below W.heap.size W w'))
    (HAB : Kp (bits .andNot .i64 (A : Int) (B : Int) = 0)) (HDC : Kp (bits .andNot .i64 (D : Int) (C : Int) = 0))
    (HDA : Kp (∀ W, Below w.heap.size w W → Calls Try.prog 17 #[.agg #[.int .i64 R, .slice g M c, .int .i64 x, .int .i64 y], .slice gu nu cu, .int .i64 (RN : Nat)] W fun e w' => e = .returned (.tuple #[.int .i64 0, .int .i64 0]) ∧ Below W.heap.size W w'))
    (HSK : Kp (∀ W, Below w.heap.size w W → Calls Try.prog 13 #[.agg #[.int .i64 R, .slice g M c, .int .i64 x, .int .i64 y], .slice gu nu cu, .int .i64 0] W fun e w' => e = .returned (.tuple #[.int .i64 (S1 : Nat), .int .i64 0]) ∧ Below W.heap.size W w'))
    (HQ1 : Kp (bits .and .i64 ((S1 : Int) / 2 ^ RN) 1 = 1)) :
    Calls Try.prog 4 #[.agg #[.int .i64 R, .slice g M c, .int .i64 x, .int .i64 y], .slice gu nu cu, .int .i64 day, .int .i64 (RN : Nat), .int .i64 door] w fun e w' => e = .returned (.bool true) ∧ Below w.heap.size w w' := by
  have HAW := Kp.mk (fun W => awake_any W)
  have HFT := Kp.mk (fun W => fit_any R x y g M c W)
  rw [decide_eq_true h1] at HFT
  have e2 : ¬ (60 : Int) < (nu : Int) := by omega
  have h5 : ¬ day < 0 := by omega
  have h6 : ¬ 100 ≤ day := by omega
  have HIS := Kp.mk hu
  have HNU := Kp.mk hnu
  clear hu hnu hM
  go_enter Try.func4, Try.ntmps4
  go_wp2_with fail
  refine (HFT.out _).mono ?_
  rintro en w1 ⟨rfl, hb1⟩
  have HB1 : Kp (Below w.heap.size w w1) := ⟨Below.trans (by repeat (first | refine Below.alloc ?_ (by (try simp) <;> omega) _ | refine bDrewN ?_ _ | refine Below.drew ?_ | refine Below.setCell ?_ (by (try simp) <;> omega) _ | exact Below.refl _ _)) (hb1.mono (by (try simp) <;> omega))⟩
  have hz1_0 : w.heap.size < w1.heap.size := by have := hb1.size; (try simp at this); omega
  obtain ⟨hc, hf⟩ := bcell hb1
  have c1_0_0 : w1.cell? ⟨w.heap.size, 0, none⟩ = some (.int .i64 R) := (hc _ _ (by (try simp) <;> omega)).trans (by go_simp)
  have c1_0_1 : w1.cell? ⟨w.heap.size, 1, none⟩ = some ((.slice g M c)) := (hc _ _ (by (try simp) <;> omega)).trans (by go_simp)
  have c1_0_2 : w1.cell? ⟨w.heap.size, 2, none⟩ = some (.int .i64 x) := (hc _ _ (by (try simp) <;> omega)).trans (by go_simp)
  have c1_0_3 : w1.cell? ⟨w.heap.size, 3, none⟩ = some (.int .i64 y) := (hc _ _ (by (try simp) <;> omega)).trans (by go_simp)
  have z1_0 : ∀ j, w1.frozen? ⟨w.heap.size, j, none⟩ = false := fun j => (hf _ _ (by (try simp) <;> omega)).trans (by go_simp)
  clear hc hf hb1
  go_wp2_with fail
  refine (HS1.out _ HB1.out).mono ?_
  rintro en w2 ⟨rfl, hb2⟩
  have HB2 : Kp (Below w.heap.size w w2) := ⟨Below.trans (by repeat (first | refine Below.alloc ?_ (by have := HB1.out.size; (try simp) <;> omega) _ | refine bDrewN ?_ _ | refine Below.drew ?_ | refine Below.setCell ?_ (by have := HB1.out.size; (try simp) <;> omega) _ | exact HB1.out)) (hb2.mono (by have := HB1.out.size; (try simp) <;> omega))⟩
  have hz2_0 : w.heap.size < w2.heap.size := by have := hb2.size; (try simp at this); omega
  obtain ⟨hc, hf⟩ := bcell hb2
  have c2_0_0 : w2.cell? ⟨w.heap.size, 0, none⟩ = some (.int .i64 R) := (hc _ _ (by (try simp) <;> omega)).trans (by go_simp)
  have c2_0_1 : w2.cell? ⟨w.heap.size, 1, none⟩ = some ((.slice g M c)) := (hc _ _ (by (try simp) <;> omega)).trans (by go_simp)
  have c2_0_2 : w2.cell? ⟨w.heap.size, 2, none⟩ = some (.int .i64 x) := (hc _ _ (by (try simp) <;> omega)).trans (by go_simp)
  have c2_0_3 : w2.cell? ⟨w.heap.size, 3, none⟩ = some (.int .i64 y) := (hc _ _ (by (try simp) <;> omega)).trans (by go_simp)
  have z2_0 : ∀ j, w2.frozen? ⟨w.heap.size, j, none⟩ = false := fun j => (hf _ _ (by (try simp) <;> omega)).trans (by go_simp)
  clear hc hf hb2 c1_0_0 c1_0_1 c1_0_2 c1_0_3 z1_0
  go_wp2_with fail
  refine (HS2.out _ HB2.out).mono ?_
  rintro en w3 ⟨rfl, hb3⟩
  have HB3 : Kp (Below w.heap.size w w3) := ⟨Below.trans (by repeat (first | refine Below.alloc ?_ (by have := HB2.out.size; (try simp) <;> omega) _ | refine bDrewN ?_ _ | refine Below.drew ?_ | refine Below.setCell ?_ (by have := HB2.out.size; (try simp) <;> omega) _ | exact HB2.out)) (hb3.mono (by have := HB2.out.size; (try simp) <;> omega))⟩
  have hz3_0 : w.heap.size < w3.heap.size := by have := hb3.size; (try simp at this); omega
  obtain ⟨hc, hf⟩ := bcell hb3
  have c3_0_0 : w3.cell? ⟨w.heap.size, 0, none⟩ = some (.int .i64 R) := (hc _ _ (by (try simp) <;> omega)).trans (by go_simp)
  have c3_0_1 : w3.cell? ⟨w.heap.size, 1, none⟩ = some ((.slice g M c)) := (hc _ _ (by (try simp) <;> omega)).trans (by go_simp)
  have c3_0_2 : w3.cell? ⟨w.heap.size, 2, none⟩ = some (.int .i64 x) := (hc _ _ (by (try simp) <;> omega)).trans (by go_simp)
  have c3_0_3 : w3.cell? ⟨w.heap.size, 3, none⟩ = some (.int .i64 y) := (hc _ _ (by (try simp) <;> omega)).trans (by go_simp)
  have z3_0 : ∀ j, w3.frozen? ⟨w.heap.size, j, none⟩ = false := fun j => (hf _ _ (by (try simp) <;> omega)).trans (by go_simp)
  clear hc hf hb3 c2_0_0 c2_0_1 c2_0_2 c2_0_3 z2_0
  go_wp2_with fail
  refine (HCM.out _ HB3.out).mono ?_
  rintro en w4 ⟨rfl, hb4⟩
  have HB4 : Kp (Below w.heap.size w w4) := ⟨Below.trans (by repeat (first | refine Below.alloc ?_ (by have := HB3.out.size; (try simp) <;> omega) _ | refine bDrewN ?_ _ | refine Below.drew ?_ | refine Below.setCell ?_ (by have := HB3.out.size; (try simp) <;> omega) _ | exact HB3.out)) (hb4.mono (by have := HB3.out.size; (try simp) <;> omega))⟩
  have hz4_0 : w.heap.size < w4.heap.size := by have := hb4.size; (try simp at this); omega
  obtain ⟨hc, hf⟩ := bcell hb4
  have c4_0_0 : w4.cell? ⟨w.heap.size, 0, none⟩ = some (.int .i64 R) := (hc _ _ (by (try simp) <;> omega)).trans (by go_simp)
  have c4_0_1 : w4.cell? ⟨w.heap.size, 1, none⟩ = some ((.slice g M c)) := (hc _ _ (by (try simp) <;> omega)).trans (by go_simp)
  have c4_0_2 : w4.cell? ⟨w.heap.size, 2, none⟩ = some (.int .i64 x) := (hc _ _ (by (try simp) <;> omega)).trans (by go_simp)
  have c4_0_3 : w4.cell? ⟨w.heap.size, 3, none⟩ = some (.int .i64 y) := (hc _ _ (by (try simp) <;> omega)).trans (by go_simp)
  have z4_0 : ∀ j, w4.frozen? ⟨w.heap.size, j, none⟩ = false := fun j => (hf _ _ (by (try simp) <;> omega)).trans (by go_simp)
  clear hc hf hb4 c3_0_0 c3_0_1 c3_0_2 c3_0_3 z3_0
  go_wp2_with fail
  refine (HS3.out _ HB4.out).mono ?_
  rintro en w5 ⟨rfl, hb5⟩
  have HB5 : Kp (Below w.heap.size w w5) := ⟨Below.trans (by repeat (first | refine Below.alloc ?_ (by have := HB4.out.size; (try simp) <;> omega) _ | refine bDrewN ?_ _ | refine Below.drew ?_ | refine Below.setCell ?_ (by have := HB4.out.size; (try simp) <;> omega) _ | exact HB4.out)) (hb5.mono (by have := HB4.out.size; (try simp) <;> omega))⟩
  have hz5_0 : w.heap.size < w5.heap.size := by have := hb5.size; (try simp at this); omega
  obtain ⟨hc, hf⟩ := bcell hb5
  have c5_0_0 : w5.cell? ⟨w.heap.size, 0, none⟩ = some (.int .i64 R) := (hc _ _ (by (try simp) <;> omega)).trans (by go_simp)
  have c5_0_1 : w5.cell? ⟨w.heap.size, 1, none⟩ = some ((.slice g M c)) := (hc _ _ (by (try simp) <;> omega)).trans (by go_simp)
  have c5_0_2 : w5.cell? ⟨w.heap.size, 2, none⟩ = some (.int .i64 x) := (hc _ _ (by (try simp) <;> omega)).trans (by go_simp)
  have c5_0_3 : w5.cell? ⟨w.heap.size, 3, none⟩ = some (.int .i64 y) := (hc _ _ (by (try simp) <;> omega)).trans (by go_simp)
  have z5_0 : ∀ j, w5.frozen? ⟨w.heap.size, j, none⟩ = false := fun j => (hf _ _ (by (try simp) <;> omega)).trans (by go_simp)
  clear hc hf hb5 c4_0_0 c4_0_1 c4_0_2 c4_0_3 z4_0
  have hab := HAB.out
  go_wp2_with fail
  refine (HDA.out _ HB5.out).mono ?_
  rintro en w6 ⟨rfl, hb6⟩
  have HB6 : Kp (Below w.heap.size w w6) := ⟨Below.trans (by repeat (first | refine Below.alloc ?_ (by have := HB5.out.size; (try simp) <;> omega) _ | refine bDrewN ?_ _ | refine Below.drew ?_ | refine Below.setCell ?_ (by have := HB5.out.size; (try simp) <;> omega) _ | exact HB5.out)) (hb6.mono (by have := HB5.out.size; (try simp) <;> omega))⟩
  have hz6_0 : w.heap.size < w6.heap.size := by have := hb6.size; (try simp at this); omega
  obtain ⟨hc, hf⟩ := bcell hb6
  have c6_0_0 : w6.cell? ⟨w.heap.size, 0, none⟩ = some (.int .i64 R) := (hc _ _ (by (try simp) <;> omega)).trans (by go_simp)
  have c6_0_1 : w6.cell? ⟨w.heap.size, 1, none⟩ = some ((.slice g M c)) := (hc _ _ (by (try simp) <;> omega)).trans (by go_simp)
  have c6_0_2 : w6.cell? ⟨w.heap.size, 2, none⟩ = some (.int .i64 x) := (hc _ _ (by (try simp) <;> omega)).trans (by go_simp)
  have c6_0_3 : w6.cell? ⟨w.heap.size, 3, none⟩ = some (.int .i64 y) := (hc _ _ (by (try simp) <;> omega)).trans (by go_simp)
  have z6_0 : ∀ j, w6.frozen? ⟨w.heap.size, j, none⟩ = false := fun j => (hf _ _ (by (try simp) <;> omega)).trans (by go_simp)
  clear hc hf hb6 c5_0_0 c5_0_1 c5_0_2 c5_0_3 z5_0
  clear hab
  have hs1 := HQ1.out
  go_wp2_with fail
  refine (HSK.out _ HB6.out).mono ?_
  rintro en w7 ⟨rfl, hb7⟩
  have HB7 : Kp (Below w.heap.size w w7) := ⟨Below.trans (by repeat (first | refine Below.alloc ?_ (by have := HB6.out.size; (try simp) <;> omega) _ | refine bDrewN ?_ _ | refine Below.drew ?_ | refine Below.setCell ?_ (by have := HB6.out.size; (try simp) <;> omega) _ | exact HB6.out)) (hb7.mono (by have := HB6.out.size; (try simp) <;> omega))⟩
  have hz7_0 : w.heap.size < w7.heap.size := by have := hb7.size; (try simp at this); omega
  obtain ⟨hc, hf⟩ := bcell hb7
  have c7_0_0 : w7.cell? ⟨w.heap.size, 0, none⟩ = some (.int .i64 R) := (hc _ _ (by (try simp) <;> omega)).trans (by go_simp)
  have c7_0_1 : w7.cell? ⟨w.heap.size, 1, none⟩ = some ((.slice g M c)) := (hc _ _ (by (try simp) <;> omega)).trans (by go_simp)
  have c7_0_2 : w7.cell? ⟨w.heap.size, 2, none⟩ = some (.int .i64 x) := (hc _ _ (by (try simp) <;> omega)).trans (by go_simp)
  have c7_0_3 : w7.cell? ⟨w.heap.size, 3, none⟩ = some (.int .i64 y) := (hc _ _ (by (try simp) <;> omega)).trans (by go_simp)
  have z7_0 : ∀ j, w7.frozen? ⟨w.heap.size, j, none⟩ = false := fun j => (hf _ _ (by (try simp) <;> omega)).trans (by go_simp)
  clear hc hf hb7 c6_0_0 c6_0_1 c6_0_2 c6_0_3 z6_0
  have d0 := c7_0_0
  have d1 := c7_0_1
  have d2 := c7_0_2
  have d3 := c7_0_3
  have HBZ := HB7
  clear c7_0_0 c7_0_1 c7_0_2 c7_0_3 z7_0 hz7_0
  have HZ0 := Kp.mk (fun w' (h : Below w7.heap.size w7 w') => (⟨(h.cell (p := ⟨w.heap.size, 0, none⟩) (World.block_lt_of_cell? _ _ d0)).trans d0, (h.cell (p := ⟨w.heap.size, 1, none⟩) (World.block_lt_of_cell? _ _ d1)).trans d1, (h.cell (p := ⟨w.heap.size, 2, none⟩) (World.block_lt_of_cell? _ _ d2)).trans d2, (h.cell (p := ⟨w.heap.size, 3, none⟩) (World.block_lt_of_cell? _ _ d3)).trans d3⟩ : w'.cell? ⟨w.heap.size, 0, none⟩ = some (.int .i64 R) ∧ w'.cell? ⟨w.heap.size, 1, none⟩ = some (.slice g M c) ∧ w'.cell? ⟨w.heap.size, 2, none⟩ = some (.int .i64 x) ∧ w'.cell? ⟨w.heap.size, 3, none⟩ = some (.int .i64 y)))
  have HO0 : Kp (OwnI w7 w7.heap.size (.slice none 0 0) (moreF sl door 0)) := ⟨OwnI.nil _ _⟩
  go_wp2_with fail
  clear d0 d1 d2 d3
  go_loopw [25, 157] (fun v i wr => ∃ k : Nat, k ≤ M ∧ i = .int .i64 k ∧ Kp (OwnI wr w7.heap.size v (moreF sl door k)) ∧ Kp (Below w7.heap.size w7 wr)) (fun _ i _ => M - (intOf i).toNat)
  case atStart => exact ⟨0, Nat.zero_le _, rfl, HO0, ⟨Below.refl _ _⟩⟩
  case round =>
    clear HO0
    obtain ⟨k, hk, rfl, HO, HB⟩ := hrel
    by_cases hlt : k < M
    · have o1 : (k : Int) < (M : Int) := by omega
      have o4 : k ≤ 50 := by omega
      have HOS : Kp (moreF sl door (k + 1) = moreF sl door k ++ if decide ((k : Int) = door) || sl.contains (k : Int) then [(k : Int)] else []) := ⟨rfl⟩
      obtain ⟨Q0, hQ0⟩ : ∃ Q, decide ((k : Int) = door) = Q := ⟨_, rfl⟩
      have i0 : ((k : Int) == door) = Q0 := by rw [← hQ0]; by_cases hq : (k : Int) = door <;> simp [hq]
      rw [hQ0] at HOS
      clear hQ0
      cases Q0 with
      | false =>
        go_wp2
        go_loop [27, 165] (fun a j => ∃ q : Nat, q ≤ nu ∧ j = .int .i64 q ∧ a = .bool (false || (sl.take q).contains (k : Int))) (fun _ j => nu - (intOf j).toNat)
        case atStart => exact ⟨0, Nat.zero_le _, rfl, by simp⟩
        case round =>
          obtain ⟨q, hq, rfl, rfl⟩ := hrel
          by_cases hlq : q < nu
          · obtain ⟨z, hz⟩ : ∃ z, sl[q]? = some z := ⟨_, List.getElem?_eq_getElem (by rw [HNU.out]; exact hlq)⟩
            obtain ⟨ga, ca, e', -, hic⟩ := HIS.out.below (HBZ.out.trans (HB.out.mono HBZ.out.size))
            obtain ⟨b, o, hg, hcell⟩ := hic q _ hz
            simp only [Value.slice.injEq] at e'
            obtain ⟨rfl, -, -⟩ := e'
            subst hg
            have o5 : (q : Int) < (nu : Int) := by omega
            have o6 : q ≤ 60 := by omega
            have HTK : Kp ((sl.take (q + 1)).contains (k : Int) = ((sl.take q).contains (k : Int) || (z == (k : Int)))) := ⟨by
              rw [List.take_add_one, hz, Option.toList_some, contains_snoc]⟩
            obtain ⟨Q1, hQ1⟩ : ∃ Q, (false || (sl.take q).contains (k : Int)) = Q := ⟨_, rfl⟩
            have HQ1 := Kp.mk hQ1
            rw [hQ1]
            clear hz hic hQ1
            cases Q1 with
            | true =>
              have HN : Kp ((false || (sl.take (q + 1)).contains (k : Int)) = true) := ⟨by rw [HTK.out, ← Bool.or_assoc, HQ1.out]; rfl⟩
              go_wp2
              go_round
              case rel => exact ⟨q + 1, by omega, by go_num, by rw [HN.out]⟩
              case measure => simp [intOf]; omega
            | false =>
              obtain ⟨Q2, hQ2⟩ : ∃ Q, (z == (k : Int)) = Q := ⟨_, rfl⟩
              have HN : Kp ((false || (sl.take (q + 1)).contains (k : Int)) = Q2) := ⟨by rw [HTK.out, ← Bool.or_assoc, HQ1.out, hQ2]; rfl⟩
              cases Q2
              all_goals
                go_wp2
                go_round
                case rel => exact ⟨q + 1, by omega, by go_num, by rw [HN.out]⟩
                case measure => simp [intOf]; omega
          · have hqn : q = nu := by omega
            have HTF : Kp (sl.take q = sl) := ⟨by rw [hqn, ← HNU.out]; exact List.take_length⟩
            have o5 : ¬ (q : Int) < (nu : Int) := by omega
            obtain ⟨Q1, hQ1⟩ : ∃ Q, (false || (sl.take q).contains (k : Int)) = Q := ⟨_, rfl⟩
            have HQ1 : Kp ((false || sl.contains (k : Int)) = Q1) := ⟨by rw [← hQ1, HTF.out]⟩
            rw [hQ1]
            rw [HQ1.out] at HOS
            clear hQ1 HQ1 HTF hqn
            cases Q1 with
            | false =>
              have HO2 : Kp (OwnI wr w7.heap.size u25 (moreF sl door (k + 1))) := ⟨by rw [HOS.out, if_neg (by decide), List.append_nil]; exact HO.out⟩
              go_wp2
              go_roundw
              case rel => exact ⟨k + 1, by omega, by go_num, HO2, HB⟩
              case measure => simp [intOf]; omega
            | true =>
              have HX2 : Kp (moreF sl door (k + 1) = moreF sl door k ++ [(k : Int)]) := ⟨by rw [HOS.out, if_pos rfl]⟩
              have hbz := (Below.refl wr.heap.size wr).alloc (Nat.le_refl _) (.cells #[.int .i64 (k : Int)] 3)
              have hx3 : (wr.alloc (.cells #[.int .i64 (k : Int)] 3)).cell? ⟨wr.heap.size, 0, none⟩ = some (.int .i64 (k : Int)) := by go_simp
              obtain ⟨g5, c5, w5, hrun, hown, hgrow, hat⟩ := (HO.out.on hbz).next hx3 (by have := moreF_len sl door k; omega) (by have := HB.out.size; rw [World.size_alloc]; omega)
              have hbw : Below w7.heap.size w7 (wr.alloc (.cells #[.int .i64 (k : Int)] 3)) := HB.out.trans (hbz.mono HB.out.size)
              have HB5 : Kp (Below w7.heap.size w7 w5) := ⟨hbw.grown hgrow hbw.size (fun j hj => ((HO.out.on hbz).lt j hj).1)⟩
              have HO5 : Kp (OwnI w5 w7.heap.size (.slice g5 ((moreF sl door k).length + 1) c5) (moreF sl door (k + 1))) := ⟨by rw [HX2.out]; exact hown⟩
              clear hown hgrow hat hbz hx3 hbw
              go_wp2
              go_roundw
              case rel => exact ⟨k + 1, by omega, by go_num, HO5, HB5⟩
              case measure => simp [intOf]; omega
      | true =>
        go_wp2
        go_loop [27, 165] (fun a j => ∃ q : Nat, q ≤ nu ∧ j = .int .i64 q ∧ a = .bool (true || (sl.take q).contains (k : Int))) (fun _ j => nu - (intOf j).toNat)
        case atStart => exact ⟨0, Nat.zero_le _, rfl, by simp⟩
        case round =>
          obtain ⟨q, hq, rfl, rfl⟩ := hrel
          by_cases hlq : q < nu
          · obtain ⟨z, hz⟩ : ∃ z, sl[q]? = some z := ⟨_, List.getElem?_eq_getElem (by rw [HNU.out]; exact hlq)⟩
            obtain ⟨ga, ca, e', -, hic⟩ := HIS.out.below (HBZ.out.trans (HB.out.mono HBZ.out.size))
            obtain ⟨b, o, hg, hcell⟩ := hic q _ hz
            simp only [Value.slice.injEq] at e'
            obtain ⟨rfl, -, -⟩ := e'
            subst hg
            have o5 : (q : Int) < (nu : Int) := by omega
            have o6 : q ≤ 60 := by omega
            have HTK : Kp ((sl.take (q + 1)).contains (k : Int) = ((sl.take q).contains (k : Int) || (z == (k : Int)))) := ⟨by
              rw [List.take_add_one, hz, Option.toList_some, contains_snoc]⟩
            obtain ⟨Q1, hQ1⟩ : ∃ Q, (true || (sl.take q).contains (k : Int)) = Q := ⟨_, rfl⟩
            have HQ1 := Kp.mk hQ1
            rw [hQ1]
            clear hz hic hQ1
            cases Q1 with
            | true =>
              have HN : Kp ((true || (sl.take (q + 1)).contains (k : Int)) = true) := ⟨by rw [HTK.out, ← Bool.or_assoc, HQ1.out]; rfl⟩
              go_wp2
              go_round
              case rel => exact ⟨q + 1, by omega, by go_num, by rw [HN.out]⟩
              case measure => simp [intOf]; omega
            | false =>
              obtain ⟨Q2, hQ2⟩ : ∃ Q, (z == (k : Int)) = Q := ⟨_, rfl⟩
              have HN : Kp ((true || (sl.take (q + 1)).contains (k : Int)) = Q2) := ⟨by rw [HTK.out, ← Bool.or_assoc, HQ1.out, hQ2]; rfl⟩
              cases Q2
              all_goals
                go_wp2
                go_round
                case rel => exact ⟨q + 1, by omega, by go_num, by rw [HN.out]⟩
                case measure => simp [intOf]; omega
          · have hqn : q = nu := by omega
            have HTF : Kp (sl.take q = sl) := ⟨by rw [hqn, ← HNU.out]; exact List.take_length⟩
            have o5 : ¬ (q : Int) < (nu : Int) := by omega
            obtain ⟨Q1, hQ1⟩ : ∃ Q, (true || (sl.take q).contains (k : Int)) = Q := ⟨_, rfl⟩
            have HQ1 : Kp ((true || sl.contains (k : Int)) = Q1) := ⟨by rw [← hQ1, HTF.out]⟩
            rw [hQ1]
            rw [HQ1.out] at HOS
            clear hQ1 HQ1 HTF hqn
            cases Q1 with
            | false =>
              have HO2 : Kp (OwnI wr w7.heap.size u25 (moreF sl door (k + 1))) := ⟨by rw [HOS.out, if_neg (by decide), List.append_nil]; exact HO.out⟩
              go_wp2
              go_roundw
              case rel => exact ⟨k + 1, by omega, by go_num, HO2, HB⟩
              case measure => simp [intOf]; omega
            | true =>
              have HX2 : Kp (moreF sl door (k + 1) = moreF sl door k ++ [(k : Int)]) := ⟨by rw [HOS.out, if_pos rfl]⟩
              have hbz := (Below.refl wr.heap.size wr).alloc (Nat.le_refl _) (.cells #[.int .i64 (k : Int)] 3)
              have hx3 : (wr.alloc (.cells #[.int .i64 (k : Int)] 3)).cell? ⟨wr.heap.size, 0, none⟩ = some (.int .i64 (k : Int)) := by go_simp
              obtain ⟨g5, c5, w5, hrun, hown, hgrow, hat⟩ := (HO.out.on hbz).next hx3 (by have := moreF_len sl door k; omega) (by have := HB.out.size; rw [World.size_alloc]; omega)
              have hbw : Below w7.heap.size w7 (wr.alloc (.cells #[.int .i64 (k : Int)] 3)) := HB.out.trans (hbz.mono HB.out.size)
              have HB5 : Kp (Below w7.heap.size w7 w5) := ⟨hbw.grown hgrow hbw.size (fun j hj => ((HO.out.on hbz).lt j hj).1)⟩
              have HO5 : Kp (OwnI w5 w7.heap.size (.slice g5 ((moreF sl door k).length + 1) c5) (moreF sl door (k + 1))) := ⟨by rw [HX2.out]; exact hown⟩
              clear hown hgrow hat hbz hx3 hbw
              go_wp2
              go_roundw
              case rel => exact ⟨k + 1, by omega, by go_num, HO5, HB5⟩
              case measure => simp [intOf]; omega
    · have hkn : k = M := by omega
      have HOF : Kp (IS wr u25 (moreF sl door M)) := ⟨by rw [← hkn]; exact HO.out.is⟩
      have HBR := Kp.mk (HBZ.out.trans (HB.out.mono HBZ.out.size))
      obtain ⟨d0, d1, d2, d3⟩ := HZ0.out wr HB.out
      have o1 : ¬ (k : Int) < (M : Int) := by omega
      clear hkn
      go_wp2_with fail
      refine (HC2.out _ _ HBR.out HOF.out).mono ?_
      rintro en w7 ⟨rfl, hb7⟩
      have HB7 := Kp.mk (HBR.out.trans (hb7.mono HBR.out.size))
      have hdc := HDC.out
      clear hb7 d0 d1 d2 d3
      go_wp2_with fail
      refine (HAW.out _).mono ?_
      rintro en w9 ⟨rfl, hb9⟩
      have HB9 := Kp.mk (HB7.out.trans (hb9.mono HB7.out.size))
      clear hb9
      go_wp2
      go_ret
      exact ⟨rfl, HB9.out⟩
set_option maxRecDepth 100000 in
set_option maxHeartbeats 8000000 in
theorem never_later (R x y day door : Int) (g : Option Addr) (M c : Nat) (gu : Option Addr) (nu cu : Nat) (ds : List Dr) (sl : List Int) (w : World) (RN : Nat) (hRN : RN ≤ 11) (S1 S0 n : Nat) (hn : n ≤ 12) 
    (hM : ds.length = M) (hnu : sl.length = nu) (hu : IS w (.slice gu nu cu) sl) (h1 : M ≤ 50) (h2 : nu ≤ 60) (h3 : 0 ≤ day) (h4 : day < 100) (A B C D : Nat)
    (HS1 : Kp (∀ W, Below w.heap.size w W → Calls Try.prog 13 #[.agg #[.int .i64 R, .slice g M c, .int .i64 x, .int .i64 y], .slice gu nu cu, .int .i64 day] W fun e w' => e = .returned (.tuple #[.int .i64 (A : Nat), .int .i64 0]) ∧ Below W.heap.size W w'))
    (HS2 : Kp (∀ W, Below w.heap.size w W → Calls Try.prog 13 #[.agg #[.int .i64 R, .slice g M c, .int .i64 x, .int .i64 y], .slice gu nu cu, .int .i64 (day + 1)] W fun e w' => e = .returned (.tuple #[.int .i64 (B : Nat), .int .i64 0]) ∧ Below W.heap.size W w'))
    (HCM : Kp (∀ W, Below w.heap.size w W → Calls Try.prog 15 #[.agg #[.int .i64 R, .slice g M c, .int .i64 x, .int .i64 y], .slice gu nu cu] W fun e w' => e = .returned (.tuple #[.int .i64 (C : Nat), .int .i64 0]) ∧ Below W.heap.size W w'))
    (HS3 : Kp (∀ W, Below w.heap.size w W → Calls Try.prog 13 #[.agg #[.int .i64 R, .slice g M c, .int .i64 x, .int .i64 y], .slice gu nu cu, .int .i64 R] W fun e w' => e = .returned (.tuple #[.int .i64 (C : Nat), .int .i64 0]) ∧ Below W.heap.size W w'))
    (HC2 : Kp (∀ W u, Below w.heap.size w W → IS W u (moreF sl door M) → Calls Try.prog 15 #[.agg #[.int .i64 R, .slice g M c, .int .i64 x, .int .i64 y], u] W fun e w' => e = .returned (.tuple #[.int .i64 (D : Nat), .int .i64 0]) ∧ Below W.heap.size W w'))
    (HAB : Kp (bits .andNot .i64 (A : Int) (B : Int) = 0)) (HDC : Kp (bits .andNot .i64 (D : Int) (C : Int) = 0))
    (HDA : Kp (∀ W, Below w.heap.size w W → Calls Try.prog 17 #[.agg #[.int .i64 R, .slice g M c, .int .i64 x, .int .i64 y], .slice gu nu cu, .int .i64 (RN : Nat)] W fun e w' => e = .returned (.tuple #[.int .i64 ((n : Int) + 1), .int .i64 0]) ∧ Below W.heap.size W w'))
    (HSK : Kp (∀ W, Below w.heap.size w W → Calls Try.prog 13 #[.agg #[.int .i64 R, .slice g M c, .int .i64 x, .int .i64 y], .slice gu nu cu, .int .i64 ((n : Int) + 1)] W fun e w' => e = .returned (.tuple #[.int .i64 (S1 : Nat), .int .i64 0]) ∧ Below W.heap.size W w'))
    (HQ1 : Kp (bits .and .i64 ((S1 : Int) / 2 ^ RN) 1 = 1))
    (HSL : Kp (∀ W, Below w.heap.size w W → Calls Try.prog 13 #[.agg #[.int .i64 R, .slice g M c, .int .i64 x, .int .i64 y], .slice gu nu cu, .int .i64 (n : Nat)] W fun e w' => e = .returned (.tuple #[.int .i64 (S0 : Nat), .int .i64 0]) ∧ Below W.heap.size W w'))
    (HQ0 : Kp (bits .and .i64 ((S0 : Int) / 2 ^ RN) 1 = 0)) :
    Calls Try.prog 4 #[.agg #[.int .i64 R, .slice g M c, .int .i64 x, .int .i64 y], .slice gu nu cu, .int .i64 day, .int .i64 (RN : Nat), .int .i64 door] w fun e w' => e = .returned (.bool true) ∧ Below w.heap.size w w' := by
  have HAW := Kp.mk (fun W => awake_any W)
  have HFT := Kp.mk (fun W => fit_any R x y g M c W)
  rw [decide_eq_true h1] at HFT
  have e2 : ¬ (60 : Int) < (nu : Int) := by omega
  have h5 : ¬ day < 0 := by omega
  have h6 : ¬ 100 ≤ day := by omega
  have HIS := Kp.mk hu
  have HNU := Kp.mk hnu
  clear hu hnu hM
  go_enter Try.func4, Try.ntmps4
  go_wp2_with fail
  refine (HFT.out _).mono ?_
  rintro en w1 ⟨rfl, hb1⟩
  have HB1 : Kp (Below w.heap.size w w1) := ⟨Below.trans (by repeat (first | refine Below.alloc ?_ (by (try simp) <;> omega) _ | refine bDrewN ?_ _ | refine Below.drew ?_ | refine Below.setCell ?_ (by (try simp) <;> omega) _ | exact Below.refl _ _)) (hb1.mono (by (try simp) <;> omega))⟩
  have hz1_0 : w.heap.size < w1.heap.size := by have := hb1.size; (try simp at this); omega
  obtain ⟨hc, hf⟩ := bcell hb1
  have c1_0_0 : w1.cell? ⟨w.heap.size, 0, none⟩ = some (.int .i64 R) := (hc _ _ (by (try simp) <;> omega)).trans (by go_simp)
  have c1_0_1 : w1.cell? ⟨w.heap.size, 1, none⟩ = some ((.slice g M c)) := (hc _ _ (by (try simp) <;> omega)).trans (by go_simp)
  have c1_0_2 : w1.cell? ⟨w.heap.size, 2, none⟩ = some (.int .i64 x) := (hc _ _ (by (try simp) <;> omega)).trans (by go_simp)
  have c1_0_3 : w1.cell? ⟨w.heap.size, 3, none⟩ = some (.int .i64 y) := (hc _ _ (by (try simp) <;> omega)).trans (by go_simp)
  have z1_0 : ∀ j, w1.frozen? ⟨w.heap.size, j, none⟩ = false := fun j => (hf _ _ (by (try simp) <;> omega)).trans (by go_simp)
  clear hc hf hb1
  go_wp2_with fail
  refine (HS1.out _ HB1.out).mono ?_
  rintro en w2 ⟨rfl, hb2⟩
  have HB2 : Kp (Below w.heap.size w w2) := ⟨Below.trans (by repeat (first | refine Below.alloc ?_ (by have := HB1.out.size; (try simp) <;> omega) _ | refine bDrewN ?_ _ | refine Below.drew ?_ | refine Below.setCell ?_ (by have := HB1.out.size; (try simp) <;> omega) _ | exact HB1.out)) (hb2.mono (by have := HB1.out.size; (try simp) <;> omega))⟩
  have hz2_0 : w.heap.size < w2.heap.size := by have := hb2.size; (try simp at this); omega
  obtain ⟨hc, hf⟩ := bcell hb2
  have c2_0_0 : w2.cell? ⟨w.heap.size, 0, none⟩ = some (.int .i64 R) := (hc _ _ (by (try simp) <;> omega)).trans (by go_simp)
  have c2_0_1 : w2.cell? ⟨w.heap.size, 1, none⟩ = some ((.slice g M c)) := (hc _ _ (by (try simp) <;> omega)).trans (by go_simp)
  have c2_0_2 : w2.cell? ⟨w.heap.size, 2, none⟩ = some (.int .i64 x) := (hc _ _ (by (try simp) <;> omega)).trans (by go_simp)
  have c2_0_3 : w2.cell? ⟨w.heap.size, 3, none⟩ = some (.int .i64 y) := (hc _ _ (by (try simp) <;> omega)).trans (by go_simp)
  have z2_0 : ∀ j, w2.frozen? ⟨w.heap.size, j, none⟩ = false := fun j => (hf _ _ (by (try simp) <;> omega)).trans (by go_simp)
  clear hc hf hb2
  go_wp2_with fail
  refine (HS2.out _ HB2.out).mono ?_
  rintro en w3 ⟨rfl, hb3⟩
  have HB3 : Kp (Below w.heap.size w w3) := ⟨Below.trans (by repeat (first | refine Below.alloc ?_ (by have := HB2.out.size; (try simp) <;> omega) _ | refine bDrewN ?_ _ | refine Below.drew ?_ | refine Below.setCell ?_ (by have := HB2.out.size; (try simp) <;> omega) _ | exact HB2.out)) (hb3.mono (by have := HB2.out.size; (try simp) <;> omega))⟩
  have hz3_0 : w.heap.size < w3.heap.size := by have := hb3.size; (try simp at this); omega
  obtain ⟨hc, hf⟩ := bcell hb3
  have c3_0_0 : w3.cell? ⟨w.heap.size, 0, none⟩ = some (.int .i64 R) := (hc _ _ (by (try simp) <;> omega)).trans (by go_simp)
  have c3_0_1 : w3.cell? ⟨w.heap.size, 1, none⟩ = some ((.slice g M c)) := (hc _ _ (by (try simp) <;> omega)).trans (by go_simp)
  have c3_0_2 : w3.cell? ⟨w.heap.size, 2, none⟩ = some (.int .i64 x) := (hc _ _ (by (try simp) <;> omega)).trans (by go_simp)
  have c3_0_3 : w3.cell? ⟨w.heap.size, 3, none⟩ = some (.int .i64 y) := (hc _ _ (by (try simp) <;> omega)).trans (by go_simp)
  have z3_0 : ∀ j, w3.frozen? ⟨w.heap.size, j, none⟩ = false := fun j => (hf _ _ (by (try simp) <;> omega)).trans (by go_simp)
  clear hc hf hb3
  go_wp2_with fail
  refine (HCM.out _ HB3.out).mono ?_
  rintro en w4 ⟨rfl, hb4⟩
  have HB4 : Kp (Below w.heap.size w w4) := ⟨Below.trans (by repeat (first | refine Below.alloc ?_ (by have := HB3.out.size; (try simp) <;> omega) _ | refine bDrewN ?_ _ | refine Below.drew ?_ | refine Below.setCell ?_ (by have := HB3.out.size; (try simp) <;> omega) _ | exact HB3.out)) (hb4.mono (by have := HB3.out.size; (try simp) <;> omega))⟩
  have hz4_0 : w.heap.size < w4.heap.size := by have := hb4.size; (try simp at this); omega
  obtain ⟨hc, hf⟩ := bcell hb4
  have c4_0_0 : w4.cell? ⟨w.heap.size, 0, none⟩ = some (.int .i64 R) := (hc _ _ (by (try simp) <;> omega)).trans (by go_simp)
  have c4_0_1 : w4.cell? ⟨w.heap.size, 1, none⟩ = some ((.slice g M c)) := (hc _ _ (by (try simp) <;> omega)).trans (by go_simp)
  have c4_0_2 : w4.cell? ⟨w.heap.size, 2, none⟩ = some (.int .i64 x) := (hc _ _ (by (try simp) <;> omega)).trans (by go_simp)
  have c4_0_3 : w4.cell? ⟨w.heap.size, 3, none⟩ = some (.int .i64 y) := (hc _ _ (by (try simp) <;> omega)).trans (by go_simp)
  have z4_0 : ∀ j, w4.frozen? ⟨w.heap.size, j, none⟩ = false := fun j => (hf _ _ (by (try simp) <;> omega)).trans (by go_simp)
  clear hc hf hb4
  go_wp2_with fail
  refine (HS3.out _ HB4.out).mono ?_
  rintro en w5 ⟨rfl, hb5⟩
  have HB5 : Kp (Below w.heap.size w w5) := ⟨Below.trans (by repeat (first | refine Below.alloc ?_ (by have := HB4.out.size; (try simp) <;> omega) _ | refine bDrewN ?_ _ | refine Below.drew ?_ | refine Below.setCell ?_ (by have := HB4.out.size; (try simp) <;> omega) _ | exact HB4.out)) (hb5.mono (by have := HB4.out.size; (try simp) <;> omega))⟩
  have hz5_0 : w.heap.size < w5.heap.size := by have := hb5.size; (try simp at this); omega
  obtain ⟨hc, hf⟩ := bcell hb5
  have c5_0_0 : w5.cell? ⟨w.heap.size, 0, none⟩ = some (.int .i64 R) := (hc _ _ (by (try simp) <;> omega)).trans (by go_simp)
  have c5_0_1 : w5.cell? ⟨w.heap.size, 1, none⟩ = some ((.slice g M c)) := (hc _ _ (by (try simp) <;> omega)).trans (by go_simp)
  have c5_0_2 : w5.cell? ⟨w.heap.size, 2, none⟩ = some (.int .i64 x) := (hc _ _ (by (try simp) <;> omega)).trans (by go_simp)
  have c5_0_3 : w5.cell? ⟨w.heap.size, 3, none⟩ = some (.int .i64 y) := (hc _ _ (by (try simp) <;> omega)).trans (by go_simp)
  have z5_0 : ∀ j, w5.frozen? ⟨w.heap.size, j, none⟩ = false := fun j => (hf _ _ (by (try simp) <;> omega)).trans (by go_simp)
  clear hc hf hb5
  have hab := HAB.out
  go_wp2_with fail
  refine (HDA.out _ HB5.out).mono ?_
  rintro en w6 ⟨rfl, hb6⟩
  have HB6 : Kp (Below w.heap.size w w6) := ⟨Below.trans (by repeat (first | refine Below.alloc ?_ (by have := HB5.out.size; (try simp) <;> omega) _ | refine bDrewN ?_ _ | refine Below.drew ?_ | refine Below.setCell ?_ (by have := HB5.out.size; (try simp) <;> omega) _ | exact HB5.out)) (hb6.mono (by have := HB5.out.size; (try simp) <;> omega))⟩
  have hz6_0 : w.heap.size < w6.heap.size := by have := hb6.size; (try simp at this); omega
  obtain ⟨hc, hf⟩ := bcell hb6
  have c6_0_0 : w6.cell? ⟨w.heap.size, 0, none⟩ = some (.int .i64 R) := (hc _ _ (by (try simp) <;> omega)).trans (by go_simp)
  have c6_0_1 : w6.cell? ⟨w.heap.size, 1, none⟩ = some ((.slice g M c)) := (hc _ _ (by (try simp) <;> omega)).trans (by go_simp)
  have c6_0_2 : w6.cell? ⟨w.heap.size, 2, none⟩ = some (.int .i64 x) := (hc _ _ (by (try simp) <;> omega)).trans (by go_simp)
  have c6_0_3 : w6.cell? ⟨w.heap.size, 3, none⟩ = some (.int .i64 y) := (hc _ _ (by (try simp) <;> omega)).trans (by go_simp)
  have z6_0 : ∀ j, w6.frozen? ⟨w.heap.size, j, none⟩ = false := fun j => (hf _ _ (by (try simp) <;> omega)).trans (by go_simp)
  clear hc hf hb6
  clear hab
  have hs1 := HQ1.out
  go_wp2_with fail
  refine (HSK.out _ HB6.out).mono ?_
  rintro en w7 ⟨rfl, hb7⟩
  have HB7 : Kp (Below w.heap.size w w7) := ⟨Below.trans (by repeat (first | refine Below.alloc ?_ (by have := HB6.out.size; (try simp) <;> omega) _ | refine bDrewN ?_ _ | refine Below.drew ?_ | refine Below.setCell ?_ (by have := HB6.out.size; (try simp) <;> omega) _ | exact HB6.out)) (hb7.mono (by have := HB6.out.size; (try simp) <;> omega))⟩
  have hz7_0 : w.heap.size < w7.heap.size := by have := hb7.size; (try simp at this); omega
  obtain ⟨hc, hf⟩ := bcell hb7
  have c7_0_0 : w7.cell? ⟨w.heap.size, 0, none⟩ = some (.int .i64 R) := (hc _ _ (by (try simp) <;> omega)).trans (by go_simp)
  have c7_0_1 : w7.cell? ⟨w.heap.size, 1, none⟩ = some ((.slice g M c)) := (hc _ _ (by (try simp) <;> omega)).trans (by go_simp)
  have c7_0_2 : w7.cell? ⟨w.heap.size, 2, none⟩ = some (.int .i64 x) := (hc _ _ (by (try simp) <;> omega)).trans (by go_simp)
  have c7_0_3 : w7.cell? ⟨w.heap.size, 3, none⟩ = some (.int .i64 y) := (hc _ _ (by (try simp) <;> omega)).trans (by go_simp)
  have z7_0 : ∀ j, w7.frozen? ⟨w.heap.size, j, none⟩ = false := fun j => (hf _ _ (by (try simp) <;> omega)).trans (by go_simp)
  clear hc hf hb7
  have hs0 := HQ0.out
  go_wp2_with fail
  refine (HSL.out _ HB7.out).mono ?_
  rintro en w8 ⟨rfl, hb8⟩
  have HB8 : Kp (Below w.heap.size w w8) := ⟨Below.trans (by repeat (first | refine Below.alloc ?_ (by have := HB7.out.size; (try simp) <;> omega) _ | refine bDrewN ?_ _ | refine Below.drew ?_ | refine Below.setCell ?_ (by have := HB7.out.size; (try simp) <;> omega) _ | exact HB7.out)) (hb8.mono (by have := HB7.out.size; (try simp) <;> omega))⟩
  have hz8_0 : w.heap.size < w8.heap.size := by have := hb8.size; (try simp at this); omega
  obtain ⟨hc, hf⟩ := bcell hb8
  have c8_0_0 : w8.cell? ⟨w.heap.size, 0, none⟩ = some (.int .i64 R) := (hc _ _ (by (try simp) <;> omega)).trans (by go_simp)
  have c8_0_1 : w8.cell? ⟨w.heap.size, 1, none⟩ = some ((.slice g M c)) := (hc _ _ (by (try simp) <;> omega)).trans (by go_simp)
  have c8_0_2 : w8.cell? ⟨w.heap.size, 2, none⟩ = some (.int .i64 x) := (hc _ _ (by (try simp) <;> omega)).trans (by go_simp)
  have c8_0_3 : w8.cell? ⟨w.heap.size, 3, none⟩ = some (.int .i64 y) := (hc _ _ (by (try simp) <;> omega)).trans (by go_simp)
  have z8_0 : ∀ j, w8.frozen? ⟨w.heap.size, j, none⟩ = false := fun j => (hf _ _ (by (try simp) <;> omega)).trans (by go_simp)
  clear hc hf hb8
  have d0 := c8_0_0
  have d1 := c8_0_1
  have d2 := c8_0_2
  have d3 := c8_0_3
  have HBZ := HB8
  clear c8_0_0 c8_0_1 c8_0_2 c8_0_3 z8_0 hz8_0
  have HZ0 := Kp.mk (fun w' (h : Below w8.heap.size w8 w') => (⟨(h.cell (p := ⟨w.heap.size, 0, none⟩) (World.block_lt_of_cell? _ _ d0)).trans d0, (h.cell (p := ⟨w.heap.size, 1, none⟩) (World.block_lt_of_cell? _ _ d1)).trans d1, (h.cell (p := ⟨w.heap.size, 2, none⟩) (World.block_lt_of_cell? _ _ d2)).trans d2, (h.cell (p := ⟨w.heap.size, 3, none⟩) (World.block_lt_of_cell? _ _ d3)).trans d3⟩ : w'.cell? ⟨w.heap.size, 0, none⟩ = some (.int .i64 R) ∧ w'.cell? ⟨w.heap.size, 1, none⟩ = some (.slice g M c) ∧ w'.cell? ⟨w.heap.size, 2, none⟩ = some (.int .i64 x) ∧ w'.cell? ⟨w.heap.size, 3, none⟩ = some (.int .i64 y)))
  have HO0 : Kp (OwnI w8 w8.heap.size (.slice none 0 0) (moreF sl door 0)) := ⟨OwnI.nil _ _⟩
  go_wp2_with fail
  clear d0 d1 d2 d3
  go_loopw [25, 157] (fun v i wr => ∃ k : Nat, k ≤ M ∧ i = .int .i64 k ∧ Kp (OwnI wr w8.heap.size v (moreF sl door k)) ∧ Kp (Below w8.heap.size w8 wr)) (fun _ i _ => M - (intOf i).toNat)
  case atStart => exact ⟨0, Nat.zero_le _, rfl, HO0, ⟨Below.refl _ _⟩⟩
  case round =>
    clear HO0
    obtain ⟨k, hk, rfl, HO, HB⟩ := hrel
    by_cases hlt : k < M
    · have o1 : (k : Int) < (M : Int) := by omega
      have o4 : k ≤ 50 := by omega
      have HOS : Kp (moreF sl door (k + 1) = moreF sl door k ++ if decide ((k : Int) = door) || sl.contains (k : Int) then [(k : Int)] else []) := ⟨rfl⟩
      obtain ⟨Q0, hQ0⟩ : ∃ Q, decide ((k : Int) = door) = Q := ⟨_, rfl⟩
      have i0 : ((k : Int) == door) = Q0 := by rw [← hQ0]; by_cases hq : (k : Int) = door <;> simp [hq]
      rw [hQ0] at HOS
      clear hQ0
      cases Q0 with
      | false =>
        go_wp2
        go_loop [27, 165] (fun a j => ∃ q : Nat, q ≤ nu ∧ j = .int .i64 q ∧ a = .bool (false || (sl.take q).contains (k : Int))) (fun _ j => nu - (intOf j).toNat)
        case atStart => exact ⟨0, Nat.zero_le _, rfl, by simp⟩
        case round =>
          obtain ⟨q, hq, rfl, rfl⟩ := hrel
          by_cases hlq : q < nu
          · obtain ⟨z, hz⟩ : ∃ z, sl[q]? = some z := ⟨_, List.getElem?_eq_getElem (by rw [HNU.out]; exact hlq)⟩
            obtain ⟨ga, ca, e', -, hic⟩ := HIS.out.below (HBZ.out.trans (HB.out.mono HBZ.out.size))
            obtain ⟨b, o, hg, hcell⟩ := hic q _ hz
            simp only [Value.slice.injEq] at e'
            obtain ⟨rfl, -, -⟩ := e'
            subst hg
            have o5 : (q : Int) < (nu : Int) := by omega
            have o6 : q ≤ 60 := by omega
            have HTK : Kp ((sl.take (q + 1)).contains (k : Int) = ((sl.take q).contains (k : Int) || (z == (k : Int)))) := ⟨by
              rw [List.take_add_one, hz, Option.toList_some, contains_snoc]⟩
            obtain ⟨Q1, hQ1⟩ : ∃ Q, (false || (sl.take q).contains (k : Int)) = Q := ⟨_, rfl⟩
            have HQ1 := Kp.mk hQ1
            rw [hQ1]
            clear hz hic hQ1
            cases Q1 with
            | true =>
              have HN : Kp ((false || (sl.take (q + 1)).contains (k : Int)) = true) := ⟨by rw [HTK.out, ← Bool.or_assoc, HQ1.out]; rfl⟩
              go_wp2
              go_round
              case rel => exact ⟨q + 1, by omega, by go_num, by rw [HN.out]⟩
              case measure => simp [intOf]; omega
            | false =>
              obtain ⟨Q2, hQ2⟩ : ∃ Q, (z == (k : Int)) = Q := ⟨_, rfl⟩
              have HN : Kp ((false || (sl.take (q + 1)).contains (k : Int)) = Q2) := ⟨by rw [HTK.out, ← Bool.or_assoc, HQ1.out, hQ2]; rfl⟩
              cases Q2
              all_goals
                go_wp2
                go_round
                case rel => exact ⟨q + 1, by omega, by go_num, by rw [HN.out]⟩
                case measure => simp [intOf]; omega
          · have hqn : q = nu := by omega
            have HTF : Kp (sl.take q = sl) := ⟨by rw [hqn, ← HNU.out]; exact List.take_length⟩
            have o5 : ¬ (q : Int) < (nu : Int) := by omega
            obtain ⟨Q1, hQ1⟩ : ∃ Q, (false || (sl.take q).contains (k : Int)) = Q := ⟨_, rfl⟩
            have HQ1 : Kp ((false || sl.contains (k : Int)) = Q1) := ⟨by rw [← hQ1, HTF.out]⟩
            rw [hQ1]
            rw [HQ1.out] at HOS
            clear hQ1 HQ1 HTF hqn
            cases Q1 with
            | false =>
              have HO2 : Kp (OwnI wr w8.heap.size u25 (moreF sl door (k + 1))) := ⟨by rw [HOS.out, if_neg (by decide), List.append_nil]; exact HO.out⟩
              go_wp2
              go_roundw
              case rel => exact ⟨k + 1, by omega, by go_num, HO2, HB⟩
              case measure => simp [intOf]; omega
            | true =>
              have HX2 : Kp (moreF sl door (k + 1) = moreF sl door k ++ [(k : Int)]) := ⟨by rw [HOS.out, if_pos rfl]⟩
              have hbz := (Below.refl wr.heap.size wr).alloc (Nat.le_refl _) (.cells #[.int .i64 (k : Int)] 3)
              have hx3 : (wr.alloc (.cells #[.int .i64 (k : Int)] 3)).cell? ⟨wr.heap.size, 0, none⟩ = some (.int .i64 (k : Int)) := by go_simp
              obtain ⟨g5, c5, w5, hrun, hown, hgrow, hat⟩ := (HO.out.on hbz).next hx3 (by have := moreF_len sl door k; omega) (by have := HB.out.size; rw [World.size_alloc]; omega)
              have hbw : Below w8.heap.size w8 (wr.alloc (.cells #[.int .i64 (k : Int)] 3)) := HB.out.trans (hbz.mono HB.out.size)
              have HB5 : Kp (Below w8.heap.size w8 w5) := ⟨hbw.grown hgrow hbw.size (fun j hj => ((HO.out.on hbz).lt j hj).1)⟩
              have HO5 : Kp (OwnI w5 w8.heap.size (.slice g5 ((moreF sl door k).length + 1) c5) (moreF sl door (k + 1))) := ⟨by rw [HX2.out]; exact hown⟩
              clear hown hgrow hat hbz hx3 hbw
              go_wp2
              go_roundw
              case rel => exact ⟨k + 1, by omega, by go_num, HO5, HB5⟩
              case measure => simp [intOf]; omega
      | true =>
        go_wp2
        go_loop [27, 165] (fun a j => ∃ q : Nat, q ≤ nu ∧ j = .int .i64 q ∧ a = .bool (true || (sl.take q).contains (k : Int))) (fun _ j => nu - (intOf j).toNat)
        case atStart => exact ⟨0, Nat.zero_le _, rfl, by simp⟩
        case round =>
          obtain ⟨q, hq, rfl, rfl⟩ := hrel
          by_cases hlq : q < nu
          · obtain ⟨z, hz⟩ : ∃ z, sl[q]? = some z := ⟨_, List.getElem?_eq_getElem (by rw [HNU.out]; exact hlq)⟩
            obtain ⟨ga, ca, e', -, hic⟩ := HIS.out.below (HBZ.out.trans (HB.out.mono HBZ.out.size))
            obtain ⟨b, o, hg, hcell⟩ := hic q _ hz
            simp only [Value.slice.injEq] at e'
            obtain ⟨rfl, -, -⟩ := e'
            subst hg
            have o5 : (q : Int) < (nu : Int) := by omega
            have o6 : q ≤ 60 := by omega
            have HTK : Kp ((sl.take (q + 1)).contains (k : Int) = ((sl.take q).contains (k : Int) || (z == (k : Int)))) := ⟨by
              rw [List.take_add_one, hz, Option.toList_some, contains_snoc]⟩
            obtain ⟨Q1, hQ1⟩ : ∃ Q, (true || (sl.take q).contains (k : Int)) = Q := ⟨_, rfl⟩
            have HQ1 := Kp.mk hQ1
            rw [hQ1]
            clear hz hic hQ1
            cases Q1 with
            | true =>
              have HN : Kp ((true || (sl.take (q + 1)).contains (k : Int)) = true) := ⟨by rw [HTK.out, ← Bool.or_assoc, HQ1.out]; rfl⟩
              go_wp2
              go_round
              case rel => exact ⟨q + 1, by omega, by go_num, by rw [HN.out]⟩
              case measure => simp [intOf]; omega
            | false =>
              obtain ⟨Q2, hQ2⟩ : ∃ Q, (z == (k : Int)) = Q := ⟨_, rfl⟩
              have HN : Kp ((true || (sl.take (q + 1)).contains (k : Int)) = Q2) := ⟨by rw [HTK.out, ← Bool.or_assoc, HQ1.out, hQ2]; rfl⟩
              cases Q2
              all_goals
                go_wp2
                go_round
                case rel => exact ⟨q + 1, by omega, by go_num, by rw [HN.out]⟩
                case measure => simp [intOf]; omega
          · have hqn : q = nu := by omega
            have HTF : Kp (sl.take q = sl) := ⟨by rw [hqn, ← HNU.out]; exact List.take_length⟩
            have o5 : ¬ (q : Int) < (nu : Int) := by omega
            obtain ⟨Q1, hQ1⟩ : ∃ Q, (true || (sl.take q).contains (k : Int)) = Q := ⟨_, rfl⟩
            have HQ1 : Kp ((true || sl.contains (k : Int)) = Q1) := ⟨by rw [← hQ1, HTF.out]⟩
            rw [hQ1]
            rw [HQ1.out] at HOS
            clear hQ1 HQ1 HTF hqn
            cases Q1 with
            | false =>
              have HO2 : Kp (OwnI wr w8.heap.size u25 (moreF sl door (k + 1))) := ⟨by rw [HOS.out, if_neg (by decide), List.append_nil]; exact HO.out⟩
              go_wp2
              go_roundw
              case rel => exact ⟨k + 1, by omega, by go_num, HO2, HB⟩
              case measure => simp [intOf]; omega
            | true =>
              have HX2 : Kp (moreF sl door (k + 1) = moreF sl door k ++ [(k : Int)]) := ⟨by rw [HOS.out, if_pos rfl]⟩
              have hbz := (Below.refl wr.heap.size wr).alloc (Nat.le_refl _) (.cells #[.int .i64 (k : Int)] 3)
              have hx3 : (wr.alloc (.cells #[.int .i64 (k : Int)] 3)).cell? ⟨wr.heap.size, 0, none⟩ = some (.int .i64 (k : Int)) := by go_simp
              obtain ⟨g5, c5, w5, hrun, hown, hgrow, hat⟩ := (HO.out.on hbz).next hx3 (by have := moreF_len sl door k; omega) (by have := HB.out.size; rw [World.size_alloc]; omega)
              have hbw : Below w8.heap.size w8 (wr.alloc (.cells #[.int .i64 (k : Int)] 3)) := HB.out.trans (hbz.mono HB.out.size)
              have HB5 : Kp (Below w8.heap.size w8 w5) := ⟨hbw.grown hgrow hbw.size (fun j hj => ((HO.out.on hbz).lt j hj).1)⟩
              have HO5 : Kp (OwnI w5 w8.heap.size (.slice g5 ((moreF sl door k).length + 1) c5) (moreF sl door (k + 1))) := ⟨by rw [HX2.out]; exact hown⟩
              clear hown hgrow hat hbz hx3 hbw
              go_wp2
              go_roundw
              case rel => exact ⟨k + 1, by omega, by go_num, HO5, HB5⟩
              case measure => simp [intOf]; omega
    · have hkn : k = M := by omega
      have HOF : Kp (IS wr u25 (moreF sl door M)) := ⟨by rw [← hkn]; exact HO.out.is⟩
      have HBR := Kp.mk (HBZ.out.trans (HB.out.mono HBZ.out.size))
      obtain ⟨d0, d1, d2, d3⟩ := HZ0.out wr HB.out
      have o1 : ¬ (k : Int) < (M : Int) := by omega
      clear hkn
      go_wp2_with fail
      refine (HC2.out _ _ HBR.out HOF.out).mono ?_
      rintro en w7 ⟨rfl, hb7⟩
      have HB7 := Kp.mk (HBR.out.trans (hb7.mono HBR.out.size))
      have hdc := HDC.out
      clear hb7 d0 d1 d2 d3
      go_wp2_with fail
      refine (HAW.out _).mono ?_
      rintro en w9 ⟨rfl, hb9⟩
      have HB9 := Kp.mk (HB7.out.trans (hb9.mono HB7.out.size))
      clear hb9
      go_wp2
      go_ret
      exact ⟨rfl, HB9.out⟩
end Go.Proofs.Ythkamfjjfkpekaa.Pe
