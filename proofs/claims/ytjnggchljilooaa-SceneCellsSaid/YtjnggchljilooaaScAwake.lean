/-
  WALKS (layer 7, scene): the example that shows the law awake.
-/
import Derived.Test.YtjnggchljilooaaScLeastA
namespace Go.Proofs.Ytjnggchljilooaa.Sc
open Go Go.RowKit Go.Sort

theorem is_three {w : World} {b : Nat} {x y z : Int} (h0 : w.cell? ⟨b, 0, none⟩ = some (.int .i64 x)) (h1 : w.cell? ⟨b, 1, none⟩ = some (.int .i64 y)) (h2 : w.cell? ⟨b, 2, none⟩ = some (.int .i64 z)) : IS w (.slice (some ⟨b, 0, none⟩) 3 3) [x, y, z] := by
  refine ⟨_, 3, rfl, Nat.le_refl _, fun i u hu => ⟨b, 0, rfl, ?_⟩⟩
  match i with
  | 0 => simp at hu; subst hu; exact h0
  | 1 => simp at hu; subst hu; exact h1
  | 2 => simp at hu; subst hu; exact h2
  | i + 3 => simp at hu
theorem aw_ask (h : Int) (h1 : 0 ≤ h) (h2 : h ≤ 3000) : askE 1 3 [0, 50, 0] ⟨0, 1, 100⟩ 0 2 h = 0 := by
  have e1 : cellB 1 3 0 2 = true := by
    unfold cellB rowB
    rw [wrap_less (by omega) (by omega), wrap_less (by omega) (by omega)]
    rfl
  have e2 : inB 0 3000 h = true := inB_iff.2 ⟨h1, h2⟩
  unfold askE
  rw [e1, e2]
  rfl
theorem aw_least : lstH (freeB 1 [0, 50, 0] ⟨0, 1, 100⟩ 0 2) = 25 := by
  have hm : ∀ i : Nat, i ≤ 24 → freeB 1 [0, 50, 0] ⟨0, 1, 100⟩ 0 2 i = false := by
    intro i hi
    cases h : freeB 1 [0, 50, 0] ⟨0, 1, 100⟩ 0 2 i with
    | false => rfl
    | true =>
      have k : hid 1 [0, 50, 0] ⟨0, 1, 100⟩ 0 2 i = none := by unfold freeB at h; rwa [Option.isNone_iff_eq_none] at h
      have := hid_mono (h2 := ((24 : Nat) : Int)) (by decide) (by omega) k
      exact absurd this (by decide +kernel)
  exact lstH_eq (by omega) (fun i hi => hm i (by omega)) (fun _ => by decide +kernel)
set_option maxRecDepth 100000 in
set_option maxHeartbeats 1000000 in
theorem awake_any (w : World) : Calls Try.prog 11 #[] w fun e w' => e = .returned (.bool true) ∧ Below w.heap.size w w' := by
  have HL : Kp (∀ W u, IS W u [0, 50, 0] → Calls Try.prog 35 #[.agg #[.int .i64 1, .int .i64 3, u], .agg #[.int .i64 0, .int .i64 1, .int .i64 100], .int .i64 0, .int .i64 2] W fun e w' => e = .returned (.tuple #[.int .i64 25, .int .i64 0]) ∧ Below W.heap.size W w') := ⟨fun W u hu => by
    have := Least_any 1 3 u [0, 50, 0] ⟨0, 1, 100⟩ 0 2 W hu (by simp)
    rw [show askE 1 3 [0, 50, 0] ⟨0, 1, 100⟩ 0 2 0 = 0 from aw_ask 0 (by omega) (by omega), show lstH (freeB 1 [0, 50, 0] ⟨0, 1, 100⟩ 0 (2 : Int).toNat) = 25 from aw_least] at this
    exact this⟩
  have HH : Kp (∀ W u, IS W u [0, 50, 0] → Calls Try.prog 31 #[.agg #[.int .i64 1, .int .i64 3, u], .agg #[.int .i64 0, .int .i64 1, .int .i64 100], .int .i64 0, .int .i64 2, .int .i64 0] W fun e w' => e = .returned (.tuple #[.int .i64 0, .int .i64 1, .int .i64 0]) ∧ Below W.heap.size W w') := ⟨fun W u hu => by
    have := Hides_any 1 3 u [0, 50, 0] ⟨0, 1, 100⟩ 0 2 0 W hu (by simp)
    rw [show askE 1 3 [0, 50, 0] ⟨0, 1, 100⟩ 0 2 0 = 0 from aw_ask 0 (by omega) (by omega), show hid 1 [0, 50, 0] ⟨0, 1, 100⟩ 0 (2 : Int).toNat 0 = some (0, 1) from by decide +kernel] at this
    exact this⟩
  go_enter Try.func11, Try.ntmps11
  go_wp2_with fail
  refine (HL.out _ _ (is_three (by go_simp) (by go_simp) (by go_simp))).mono ?_
  rintro en w1 ⟨rfl, hb1⟩
  have hi1 : IS w1 (.slice (some ⟨w.heap.size, 0, none⟩) 3 3) [0, 50, 0] := is_three ((hb1.cell (p := ⟨_, 0, none⟩) (by simp; omega)).trans (by go_simp)) ((hb1.cell (p := ⟨_, 1, none⟩) (by simp; omega)).trans (by go_simp)) ((hb1.cell (p := ⟨_, 2, none⟩) (by simp; omega)).trans (by go_simp))
  have HI1 := Kp.mk hi1
  clear hi1
  have HB1 : Kp (Below w.heap.size w w1) := ⟨Below.trans (by repeat (first | refine Below.alloc ?_ (by (try simp) <;> omega) _ | refine bDrewN ?_ _ | refine Below.drew ?_ | refine Below.setCell ?_ (by (try simp) <;> omega) _ | exact Below.refl _ _)) (hb1.mono (by (try simp) <;> omega))⟩
  have hz1_0 : w.heap.size + 1 < w1.heap.size := by have := hb1.size; (try simp at this); omega
  obtain ⟨hc, hf⟩ := bcell hb1
  have c1_0_0 : w1.cell? ⟨w.heap.size + 1, 0, none⟩ = some (.int .i64 1) := (hc _ _ (by (try simp) <;> omega)).trans (by go_simp)
  have c1_0_1 : w1.cell? ⟨w.heap.size + 1, 1, none⟩ = some (.int .i64 3) := (hc _ _ (by (try simp) <;> omega)).trans (by go_simp)
  have c1_0_2 : w1.cell? ⟨w.heap.size + 1, 2, none⟩ = some ((.slice (some ⟨w.heap.size, 0, none⟩) 3 3)) := (hc _ _ (by (try simp) <;> omega)).trans (by go_simp)
  have z1_0 : ∀ j, w1.frozen? ⟨w.heap.size + 1, j, none⟩ = false := fun j => (hf _ _ (by (try simp) <;> omega)).trans (by go_simp)
  clear hc hf hb1
  go_wp2_with fail
  refine (HH.out _ _ HI1.out).mono ?_
  rintro en w2 ⟨rfl, hb2⟩
  have HB2 := Kp.mk (HB1.out.trans (hb2.mono HB1.out.size))
  clear hb2
  go_wp2
  go_ret
  exact ⟨rfl, HB2.out⟩
end Go.Proofs.Ytjnggchljilooaa.Sc
