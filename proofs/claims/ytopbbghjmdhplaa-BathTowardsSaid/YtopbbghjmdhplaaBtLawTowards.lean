/-
  THE WALK of the law BathTowards.
-/
import Derived.Test.YtopbbghjmdhplaaBtDo
import Derived.Test.YtopbbghjmdhplaaBtAwake
import Derived.Test.YtopbbghjmdhplaaBtSteady
namespace Go.Proofs.Ytopbbghjmdhplaa.Bt
open Go Go.RowKit Go.Sort

theorem ltowards_yes (a b c : Int) (w : World) (h : towards a b c) :
    Calls Try.prog 54 #[.int .i64 a, .int .i64 b, .int .i64 c] w fun e w' => e = .returned (.bool true) ∧ w = w' := by
  by_cases h1 : a ≤ b ∧ b ≤ c
  · obtain ⟨h2, h3⟩ := h1
    clear h
    go_enter Try.func54, Try.ntmps54
    go_wp2
    go_ret
    exact ⟨rfl, rfl⟩
  · have h2 : c ≤ b := by unfold towards at h; omega
    have h3 : b ≤ a := by unfold towards at h; omega
    by_cases h4 : a ≤ b
    · have h5 : ¬ b ≤ c := by omega
      clear h h1
      go_enter Try.func54, Try.ntmps54
      go_wp2
      go_ret
      exact ⟨rfl, rfl⟩
    · clear h h1
      go_enter Try.func54, Try.ntmps54
      go_wp2
      go_ret
      exact ⟨rfl, rfl⟩
theorem towards_inv (bw bs ba sw ss sa so gw gs ga n : Int) (w : World) (h : vatB ⟨⟨bw, bs, ba⟩, ⟨sw, ss, sa, so⟩, ⟨gw, gs, ga⟩⟩ = false) : Calls Try.prog 11 #[.agg #[.int .i64 bw, .int .i64 bs, .int .i64 ba, .int .i64 sw, .int .i64 ss, .int .i64 sa, .int .i64 so, .int .i64 gw, .int .i64 gs, .int .i64 ga], .int .i64 n] w (Ends w) := by
  have HV : Kp (vatB ⟨⟨bw, bs, ba⟩, ⟨sw, ss, sa, so⟩, ⟨gw, gs, ga⟩⟩ = false) := ⟨h⟩
  clear h
  go_enter Try.func11, Try.ntmps11
  go_wp2_with fail
  refine (Hour_no bw bs ba sw ss sa so gw gs ga _ HV.out).mono ?_
  rintro e w1 ⟨rfl, hb1⟩
  have HB1 : Kp (Below w.heap.size w w1) := ⟨Below.trans (by repeat (first | refine Below.alloc ?_ (by (try simp) <;> omega) _ | refine bDrewN ?_ _ | refine Below.drew ?_ | exact Below.refl _ _)) (hb1.mono (by (try simp) <;> omega))⟩
  have hz1_0 : w.heap.size < w1.heap.size := by have := hb1.size; (try simp at this); omega
  obtain ⟨hc, hf⟩ := bcell hb1
  have c1_0_0 : w1.cell? ⟨w.heap.size, 0, none⟩ = some (.int .i64 bw) := (hc _ _ (by (try simp) <;> omega)).trans (by go_simp)
  have c1_0_1 : w1.cell? ⟨w.heap.size, 1, none⟩ = some (.int .i64 bs) := (hc _ _ (by (try simp) <;> omega)).trans (by go_simp)
  have c1_0_2 : w1.cell? ⟨w.heap.size, 2, none⟩ = some (.int .i64 ba) := (hc _ _ (by (try simp) <;> omega)).trans (by go_simp)
  have c1_0_3 : w1.cell? ⟨w.heap.size, 3, none⟩ = some (.int .i64 sw) := (hc _ _ (by (try simp) <;> omega)).trans (by go_simp)
  have c1_0_4 : w1.cell? ⟨w.heap.size, 4, none⟩ = some (.int .i64 ss) := (hc _ _ (by (try simp) <;> omega)).trans (by go_simp)
  have c1_0_5 : w1.cell? ⟨w.heap.size, 5, none⟩ = some (.int .i64 sa) := (hc _ _ (by (try simp) <;> omega)).trans (by go_simp)
  have c1_0_6 : w1.cell? ⟨w.heap.size, 6, none⟩ = some (.int .i64 so) := (hc _ _ (by (try simp) <;> omega)).trans (by go_simp)
  have c1_0_7 : w1.cell? ⟨w.heap.size, 7, none⟩ = some (.int .i64 gw) := (hc _ _ (by (try simp) <;> omega)).trans (by go_simp)
  have c1_0_8 : w1.cell? ⟨w.heap.size, 8, none⟩ = some (.int .i64 gs) := (hc _ _ (by (try simp) <;> omega)).trans (by go_simp)
  have c1_0_9 : w1.cell? ⟨w.heap.size, 9, none⟩ = some (.int .i64 ga) := (hc _ _ (by (try simp) <;> omega)).trans (by go_simp)
  have z1_0 : ∀ j, w1.frozen? ⟨w.heap.size, j, none⟩ = false := fun j => (hf _ _ (by (try simp) <;> omega)).trans (by go_simp)
  clear hc hf hb1
  go_wp2_with fail
  refine (Balance_no bw bs ba sw ss sa so gw gs ga _ HV.out).mono ?_
  rintro e w2 ⟨rfl, hb2⟩
  have HB2 : Kp (Below w.heap.size w w2) := ⟨Below.trans (by repeat (first | refine Below.alloc ?_ (by have := HB1.out.size; (try simp) <;> omega) _ | refine bDrewN ?_ _ | refine Below.drew ?_ | exact HB1.out)) (hb2.mono (by have := HB1.out.size; (try simp) <;> omega))⟩
  have hz2_0 : w.heap.size < w2.heap.size := by have := hb2.size; (try simp at this); omega
  obtain ⟨hc, hf⟩ := bcell hb2
  have c2_0_0 : w2.cell? ⟨w.heap.size, 0, none⟩ = some (.int .i64 bw) := (hc _ _ (by (try simp) <;> omega)).trans (by go_simp)
  have c2_0_1 : w2.cell? ⟨w.heap.size, 1, none⟩ = some (.int .i64 bs) := (hc _ _ (by (try simp) <;> omega)).trans (by go_simp)
  have c2_0_2 : w2.cell? ⟨w.heap.size, 2, none⟩ = some (.int .i64 ba) := (hc _ _ (by (try simp) <;> omega)).trans (by go_simp)
  have c2_0_3 : w2.cell? ⟨w.heap.size, 3, none⟩ = some (.int .i64 sw) := (hc _ _ (by (try simp) <;> omega)).trans (by go_simp)
  have c2_0_4 : w2.cell? ⟨w.heap.size, 4, none⟩ = some (.int .i64 ss) := (hc _ _ (by (try simp) <;> omega)).trans (by go_simp)
  have c2_0_5 : w2.cell? ⟨w.heap.size, 5, none⟩ = some (.int .i64 sa) := (hc _ _ (by (try simp) <;> omega)).trans (by go_simp)
  have c2_0_6 : w2.cell? ⟨w.heap.size, 6, none⟩ = some (.int .i64 so) := (hc _ _ (by (try simp) <;> omega)).trans (by go_simp)
  have c2_0_7 : w2.cell? ⟨w.heap.size, 7, none⟩ = some (.int .i64 gw) := (hc _ _ (by (try simp) <;> omega)).trans (by go_simp)
  have c2_0_8 : w2.cell? ⟨w.heap.size, 8, none⟩ = some (.int .i64 gs) := (hc _ _ (by (try simp) <;> omega)).trans (by go_simp)
  have c2_0_9 : w2.cell? ⟨w.heap.size, 9, none⟩ = some (.int .i64 ga) := (hc _ _ (by (try simp) <;> omega)).trans (by go_simp)
  have z2_0 : ∀ j, w2.frozen? ⟨w.heap.size, j, none⟩ = false := fun j => (hf _ _ (by (try simp) <;> omega)).trans (by go_simp)
  clear hc hf hb2 c1_0_0 c1_0_1 c1_0_2 c1_0_3 c1_0_4 c1_0_5 c1_0_6 c1_0_7 c1_0_8 c1_0_9 z1_0
  go_wp2_with fail
  refine (awake_any _).mono ?_
  rintro e w7 ⟨rfl, hb7⟩
  have HB7 : Kp (Below w.heap.size w w7) := ⟨HB2.out.trans (hb7.mono HB2.out.size)⟩
  clear hb7
  go_wp2
  go_ret
  exact ⟨rfl, HB7.out⟩
theorem towards_F1 (bw bs ba sw ss sa so gw gs ga y1 y2 y3 y4 S A n : Int) (w : World) (g : (y1 == bs) = false)
    (H1 : Kp (∀ W : World, Calls Try.prog 24 #[.agg #[.int .i64 bw, .int .i64 bs, .int .i64 ba, .int .i64 sw, .int .i64 ss, .int .i64 sa, .int .i64 so, .int .i64 gw, .int .i64 gs, .int .i64 ga]] W fun e w' => e = .returned (.tuple #[.agg #[.int .i64 bw, .int .i64 y1, .int .i64 y2, .int .i64 sw, .int .i64 y3, .int .i64 y4, .int .i64 so, .int .i64 gw, .int .i64 gs, .int .i64 ga], .int .i64 0]) ∧ Below W.heap.size W w'))
    (H2 : Kp (∀ W : World, Calls Try.prog 26 #[.agg #[.int .i64 bw, .int .i64 bs, .int .i64 ba, .int .i64 sw, .int .i64 ss, .int .i64 sa, .int .i64 so, .int .i64 gw, .int .i64 gs, .int .i64 ga]] W fun e w' => e = .returned (.tuple #[.int .i64 S, .int .i64 A, .int .i64 0]) ∧ Below W.heap.size W w'))
    (H3 : Kp (∀ W : World, Calls Try.prog 28 #[.agg #[.int .i64 bw, .int .i64 bs, .int .i64 ba, .int .i64 sw, .int .i64 ss, .int .i64 sa, .int .i64 so, .int .i64 gw, .int .i64 gs, .int .i64 ga]] W fun e w' => e = .returned (.tuple #[.bool false, .int .i64 0]) ∧ Below W.heap.size W w'))
    (T1 : Kp (towards ss y3 S)) (T2 : Kp (towards sa y4 A)) :
    Calls Try.prog 11 #[.agg #[.int .i64 bw, .int .i64 bs, .int .i64 ba, .int .i64 sw, .int .i64 ss, .int .i64 sa, .int .i64 so, .int .i64 gw, .int .i64 gs, .int .i64 ga], .int .i64 n] w (Ends w) := by
  go_enter Try.func11, Try.ntmps11
  go_wp2_with fail
  refine (H1.out _).mono ?_
  rintro e w1 ⟨rfl, hb1⟩
  have HB1 : Kp (Below w.heap.size w w1) := ⟨Below.trans (by repeat (first | refine Below.alloc ?_ (by (try simp) <;> omega) _ | refine bDrewN ?_ _ | refine Below.drew ?_ | exact Below.refl _ _)) (hb1.mono (by (try simp) <;> omega))⟩
  have hz1_0 : w.heap.size < w1.heap.size := by have := hb1.size; (try simp at this); omega
  obtain ⟨hc, hf⟩ := bcell hb1
  have c1_0_0 : w1.cell? ⟨w.heap.size, 0, none⟩ = some (.int .i64 bw) := (hc _ _ (by (try simp) <;> omega)).trans (by go_simp)
  have c1_0_1 : w1.cell? ⟨w.heap.size, 1, none⟩ = some (.int .i64 bs) := (hc _ _ (by (try simp) <;> omega)).trans (by go_simp)
  have c1_0_2 : w1.cell? ⟨w.heap.size, 2, none⟩ = some (.int .i64 ba) := (hc _ _ (by (try simp) <;> omega)).trans (by go_simp)
  have c1_0_3 : w1.cell? ⟨w.heap.size, 3, none⟩ = some (.int .i64 sw) := (hc _ _ (by (try simp) <;> omega)).trans (by go_simp)
  have c1_0_4 : w1.cell? ⟨w.heap.size, 4, none⟩ = some (.int .i64 ss) := (hc _ _ (by (try simp) <;> omega)).trans (by go_simp)
  have c1_0_5 : w1.cell? ⟨w.heap.size, 5, none⟩ = some (.int .i64 sa) := (hc _ _ (by (try simp) <;> omega)).trans (by go_simp)
  have c1_0_6 : w1.cell? ⟨w.heap.size, 6, none⟩ = some (.int .i64 so) := (hc _ _ (by (try simp) <;> omega)).trans (by go_simp)
  have c1_0_7 : w1.cell? ⟨w.heap.size, 7, none⟩ = some (.int .i64 gw) := (hc _ _ (by (try simp) <;> omega)).trans (by go_simp)
  have c1_0_8 : w1.cell? ⟨w.heap.size, 8, none⟩ = some (.int .i64 gs) := (hc _ _ (by (try simp) <;> omega)).trans (by go_simp)
  have c1_0_9 : w1.cell? ⟨w.heap.size, 9, none⟩ = some (.int .i64 ga) := (hc _ _ (by (try simp) <;> omega)).trans (by go_simp)
  have z1_0 : ∀ j, w1.frozen? ⟨w.heap.size, j, none⟩ = false := fun j => (hf _ _ (by (try simp) <;> omega)).trans (by go_simp)
  clear hc hf hb1
  go_wp2_with fail
  refine (H2.out _).mono ?_
  rintro e w2 ⟨rfl, hb2⟩
  have HB2 : Kp (Below w.heap.size w w2) := ⟨Below.trans (by repeat (first | refine Below.alloc ?_ (by have := HB1.out.size; (try simp) <;> omega) _ | refine bDrewN ?_ _ | refine Below.drew ?_ | exact HB1.out)) (hb2.mono (by have := HB1.out.size; (try simp) <;> omega))⟩
  have hz2_0 : w.heap.size < w2.heap.size := by have := hb2.size; (try simp at this); omega
  have hz2_1 : w1.heap.size < w2.heap.size := by have := hb2.size; (try simp at this); omega
  obtain ⟨hc, hf⟩ := bcell hb2
  have c2_0_0 : w2.cell? ⟨w.heap.size, 0, none⟩ = some (.int .i64 bw) := (hc _ _ (by (try simp) <;> omega)).trans (by go_simp)
  have c2_0_1 : w2.cell? ⟨w.heap.size, 1, none⟩ = some (.int .i64 bs) := (hc _ _ (by (try simp) <;> omega)).trans (by go_simp)
  have c2_0_2 : w2.cell? ⟨w.heap.size, 2, none⟩ = some (.int .i64 ba) := (hc _ _ (by (try simp) <;> omega)).trans (by go_simp)
  have c2_0_3 : w2.cell? ⟨w.heap.size, 3, none⟩ = some (.int .i64 sw) := (hc _ _ (by (try simp) <;> omega)).trans (by go_simp)
  have c2_0_4 : w2.cell? ⟨w.heap.size, 4, none⟩ = some (.int .i64 ss) := (hc _ _ (by (try simp) <;> omega)).trans (by go_simp)
  have c2_0_5 : w2.cell? ⟨w.heap.size, 5, none⟩ = some (.int .i64 sa) := (hc _ _ (by (try simp) <;> omega)).trans (by go_simp)
  have c2_0_6 : w2.cell? ⟨w.heap.size, 6, none⟩ = some (.int .i64 so) := (hc _ _ (by (try simp) <;> omega)).trans (by go_simp)
  have c2_0_7 : w2.cell? ⟨w.heap.size, 7, none⟩ = some (.int .i64 gw) := (hc _ _ (by (try simp) <;> omega)).trans (by go_simp)
  have c2_0_8 : w2.cell? ⟨w.heap.size, 8, none⟩ = some (.int .i64 gs) := (hc _ _ (by (try simp) <;> omega)).trans (by go_simp)
  have c2_0_9 : w2.cell? ⟨w.heap.size, 9, none⟩ = some (.int .i64 ga) := (hc _ _ (by (try simp) <;> omega)).trans (by go_simp)
  have z2_0 : ∀ j, w2.frozen? ⟨w.heap.size, j, none⟩ = false := fun j => (hf _ _ (by (try simp) <;> omega)).trans (by go_simp)
  have c2_1_0 : w2.cell? ⟨w1.heap.size, 0, none⟩ = some (.int .i64 bw) := (hc _ _ (by (try simp) <;> omega)).trans (by go_simp)
  have c2_1_1 : w2.cell? ⟨w1.heap.size, 1, none⟩ = some (.int .i64 y1) := (hc _ _ (by (try simp) <;> omega)).trans (by go_simp)
  have c2_1_2 : w2.cell? ⟨w1.heap.size, 2, none⟩ = some (.int .i64 y2) := (hc _ _ (by (try simp) <;> omega)).trans (by go_simp)
  have c2_1_3 : w2.cell? ⟨w1.heap.size, 3, none⟩ = some (.int .i64 sw) := (hc _ _ (by (try simp) <;> omega)).trans (by go_simp)
  have c2_1_4 : w2.cell? ⟨w1.heap.size, 4, none⟩ = some (.int .i64 y3) := (hc _ _ (by (try simp) <;> omega)).trans (by go_simp)
  have c2_1_5 : w2.cell? ⟨w1.heap.size, 5, none⟩ = some (.int .i64 y4) := (hc _ _ (by (try simp) <;> omega)).trans (by go_simp)
  have c2_1_6 : w2.cell? ⟨w1.heap.size, 6, none⟩ = some (.int .i64 so) := (hc _ _ (by (try simp) <;> omega)).trans (by go_simp)
  have c2_1_7 : w2.cell? ⟨w1.heap.size, 7, none⟩ = some (.int .i64 gw) := (hc _ _ (by (try simp) <;> omega)).trans (by go_simp)
  have c2_1_8 : w2.cell? ⟨w1.heap.size, 8, none⟩ = some (.int .i64 gs) := (hc _ _ (by (try simp) <;> omega)).trans (by go_simp)
  have c2_1_9 : w2.cell? ⟨w1.heap.size, 9, none⟩ = some (.int .i64 ga) := (hc _ _ (by (try simp) <;> omega)).trans (by go_simp)
  have z2_1 : ∀ j, w2.frozen? ⟨w1.heap.size, j, none⟩ = false := fun j => (hf _ _ (by (try simp) <;> omega)).trans (by go_simp)
  clear hc hf hb2 c1_0_0 c1_0_1 c1_0_2 c1_0_3 c1_0_4 c1_0_5 c1_0_6 c1_0_7 c1_0_8 c1_0_9 z1_0
  go_wp2_with fail
  refine (ltowards_yes _ _ _ _ T1.out).mono ?_
  rintro e w3 ⟨rfl, rfl⟩
  go_wp2_with fail
  refine (ltowards_yes _ _ _ _ T2.out).mono ?_
  rintro e w3 ⟨rfl, rfl⟩
  go_wp2_with fail
  refine (H3.out _).mono ?_
  rintro e w3 ⟨rfl, hb3⟩
  have HB3 : Kp (Below w.heap.size w w3) := ⟨Below.trans (by repeat (first | refine Below.alloc ?_ (by have := HB2.out.size; (try simp) <;> omega) _ | refine bDrewN ?_ _ | refine Below.drew ?_ | exact HB2.out)) (hb3.mono (by have := HB2.out.size; (try simp) <;> omega))⟩
  have hz3_0 : w.heap.size < w3.heap.size := by have := hb3.size; (try simp at this); omega
  have hz3_1 : w1.heap.size < w3.heap.size := by have := hb3.size; (try simp at this); omega
  obtain ⟨hc, hf⟩ := bcell hb3
  have c3_0_0 : w3.cell? ⟨w.heap.size, 0, none⟩ = some (.int .i64 bw) := (hc _ _ (by (try simp) <;> omega)).trans (by go_simp)
  have c3_0_1 : w3.cell? ⟨w.heap.size, 1, none⟩ = some (.int .i64 bs) := (hc _ _ (by (try simp) <;> omega)).trans (by go_simp)
  have c3_0_2 : w3.cell? ⟨w.heap.size, 2, none⟩ = some (.int .i64 ba) := (hc _ _ (by (try simp) <;> omega)).trans (by go_simp)
  have c3_0_3 : w3.cell? ⟨w.heap.size, 3, none⟩ = some (.int .i64 sw) := (hc _ _ (by (try simp) <;> omega)).trans (by go_simp)
  have c3_0_4 : w3.cell? ⟨w.heap.size, 4, none⟩ = some (.int .i64 ss) := (hc _ _ (by (try simp) <;> omega)).trans (by go_simp)
  have c3_0_5 : w3.cell? ⟨w.heap.size, 5, none⟩ = some (.int .i64 sa) := (hc _ _ (by (try simp) <;> omega)).trans (by go_simp)
  have c3_0_6 : w3.cell? ⟨w.heap.size, 6, none⟩ = some (.int .i64 so) := (hc _ _ (by (try simp) <;> omega)).trans (by go_simp)
  have c3_0_7 : w3.cell? ⟨w.heap.size, 7, none⟩ = some (.int .i64 gw) := (hc _ _ (by (try simp) <;> omega)).trans (by go_simp)
  have c3_0_8 : w3.cell? ⟨w.heap.size, 8, none⟩ = some (.int .i64 gs) := (hc _ _ (by (try simp) <;> omega)).trans (by go_simp)
  have c3_0_9 : w3.cell? ⟨w.heap.size, 9, none⟩ = some (.int .i64 ga) := (hc _ _ (by (try simp) <;> omega)).trans (by go_simp)
  have z3_0 : ∀ j, w3.frozen? ⟨w.heap.size, j, none⟩ = false := fun j => (hf _ _ (by (try simp) <;> omega)).trans (by go_simp)
  have c3_1_0 : w3.cell? ⟨w1.heap.size, 0, none⟩ = some (.int .i64 bw) := (hc _ _ (by (try simp) <;> omega)).trans (by go_simp)
  have c3_1_1 : w3.cell? ⟨w1.heap.size, 1, none⟩ = some (.int .i64 y1) := (hc _ _ (by (try simp) <;> omega)).trans (by go_simp)
  have c3_1_2 : w3.cell? ⟨w1.heap.size, 2, none⟩ = some (.int .i64 y2) := (hc _ _ (by (try simp) <;> omega)).trans (by go_simp)
  have c3_1_3 : w3.cell? ⟨w1.heap.size, 3, none⟩ = some (.int .i64 sw) := (hc _ _ (by (try simp) <;> omega)).trans (by go_simp)
  have c3_1_4 : w3.cell? ⟨w1.heap.size, 4, none⟩ = some (.int .i64 y3) := (hc _ _ (by (try simp) <;> omega)).trans (by go_simp)
  have c3_1_5 : w3.cell? ⟨w1.heap.size, 5, none⟩ = some (.int .i64 y4) := (hc _ _ (by (try simp) <;> omega)).trans (by go_simp)
  have c3_1_6 : w3.cell? ⟨w1.heap.size, 6, none⟩ = some (.int .i64 so) := (hc _ _ (by (try simp) <;> omega)).trans (by go_simp)
  have c3_1_7 : w3.cell? ⟨w1.heap.size, 7, none⟩ = some (.int .i64 gw) := (hc _ _ (by (try simp) <;> omega)).trans (by go_simp)
  have c3_1_8 : w3.cell? ⟨w1.heap.size, 8, none⟩ = some (.int .i64 gs) := (hc _ _ (by (try simp) <;> omega)).trans (by go_simp)
  have c3_1_9 : w3.cell? ⟨w1.heap.size, 9, none⟩ = some (.int .i64 ga) := (hc _ _ (by (try simp) <;> omega)).trans (by go_simp)
  have z3_1 : ∀ j, w3.frozen? ⟨w1.heap.size, j, none⟩ = false := fun j => (hf _ _ (by (try simp) <;> omega)).trans (by go_simp)
  clear hc hf hb3 c2_0_0 c2_0_1 c2_0_2 c2_0_3 c2_0_4 c2_0_5 c2_0_6 c2_0_7 c2_0_8 c2_0_9 z2_0 c2_1_0 c2_1_1 c2_1_2 c2_1_3 c2_1_4 c2_1_5 c2_1_6 c2_1_7 c2_1_8 c2_1_9 z2_1
  go_wp2_with fail
  refine (awake_any _).mono ?_
  rintro e w7 ⟨rfl, hb7⟩
  have HB7 : Kp (Below w.heap.size w w7) := ⟨Below.trans (by have := HB3.out.size; (repeat (with_reducible first | exact HB3.out | refine Below.alloc ?_ ?_ _)); all_goals ((try simp) <;> omega)) (hb7.mono (by have := HB3.out.size; (try simp) <;> omega))⟩
  clear hb7
  go_wp2
  go_ret
  exact ⟨rfl, HB7.out⟩
theorem towards_F2 (bw bs ba sw ss sa so gw gs ga y2 y3 y4 S A n : Int) (w : World) (g : (y2 == ba) = false)
    (H1 : Kp (∀ W : World, Calls Try.prog 24 #[.agg #[.int .i64 bw, .int .i64 bs, .int .i64 ba, .int .i64 sw, .int .i64 ss, .int .i64 sa, .int .i64 so, .int .i64 gw, .int .i64 gs, .int .i64 ga]] W fun e w' => e = .returned (.tuple #[.agg #[.int .i64 bw, .int .i64 bs, .int .i64 y2, .int .i64 sw, .int .i64 y3, .int .i64 y4, .int .i64 so, .int .i64 gw, .int .i64 gs, .int .i64 ga], .int .i64 0]) ∧ Below W.heap.size W w'))
    (H2 : Kp (∀ W : World, Calls Try.prog 26 #[.agg #[.int .i64 bw, .int .i64 bs, .int .i64 ba, .int .i64 sw, .int .i64 ss, .int .i64 sa, .int .i64 so, .int .i64 gw, .int .i64 gs, .int .i64 ga]] W fun e w' => e = .returned (.tuple #[.int .i64 S, .int .i64 A, .int .i64 0]) ∧ Below W.heap.size W w'))
    (H3 : Kp (∀ W : World, Calls Try.prog 28 #[.agg #[.int .i64 bw, .int .i64 bs, .int .i64 ba, .int .i64 sw, .int .i64 ss, .int .i64 sa, .int .i64 so, .int .i64 gw, .int .i64 gs, .int .i64 ga]] W fun e w' => e = .returned (.tuple #[.bool false, .int .i64 0]) ∧ Below W.heap.size W w'))
    (T1 : Kp (towards ss y3 S)) (T2 : Kp (towards sa y4 A)) :
    Calls Try.prog 11 #[.agg #[.int .i64 bw, .int .i64 bs, .int .i64 ba, .int .i64 sw, .int .i64 ss, .int .i64 sa, .int .i64 so, .int .i64 gw, .int .i64 gs, .int .i64 ga], .int .i64 n] w (Ends w) := by
  go_enter Try.func11, Try.ntmps11
  go_wp2_with fail
  refine (H1.out _).mono ?_
  rintro e w1 ⟨rfl, hb1⟩
  have HB1 : Kp (Below w.heap.size w w1) := ⟨Below.trans (by repeat (first | refine Below.alloc ?_ (by (try simp) <;> omega) _ | refine bDrewN ?_ _ | refine Below.drew ?_ | exact Below.refl _ _)) (hb1.mono (by (try simp) <;> omega))⟩
  have hz1_0 : w.heap.size < w1.heap.size := by have := hb1.size; (try simp at this); omega
  obtain ⟨hc, hf⟩ := bcell hb1
  have c1_0_0 : w1.cell? ⟨w.heap.size, 0, none⟩ = some (.int .i64 bw) := (hc _ _ (by (try simp) <;> omega)).trans (by go_simp)
  have c1_0_1 : w1.cell? ⟨w.heap.size, 1, none⟩ = some (.int .i64 bs) := (hc _ _ (by (try simp) <;> omega)).trans (by go_simp)
  have c1_0_2 : w1.cell? ⟨w.heap.size, 2, none⟩ = some (.int .i64 ba) := (hc _ _ (by (try simp) <;> omega)).trans (by go_simp)
  have c1_0_3 : w1.cell? ⟨w.heap.size, 3, none⟩ = some (.int .i64 sw) := (hc _ _ (by (try simp) <;> omega)).trans (by go_simp)
  have c1_0_4 : w1.cell? ⟨w.heap.size, 4, none⟩ = some (.int .i64 ss) := (hc _ _ (by (try simp) <;> omega)).trans (by go_simp)
  have c1_0_5 : w1.cell? ⟨w.heap.size, 5, none⟩ = some (.int .i64 sa) := (hc _ _ (by (try simp) <;> omega)).trans (by go_simp)
  have c1_0_6 : w1.cell? ⟨w.heap.size, 6, none⟩ = some (.int .i64 so) := (hc _ _ (by (try simp) <;> omega)).trans (by go_simp)
  have c1_0_7 : w1.cell? ⟨w.heap.size, 7, none⟩ = some (.int .i64 gw) := (hc _ _ (by (try simp) <;> omega)).trans (by go_simp)
  have c1_0_8 : w1.cell? ⟨w.heap.size, 8, none⟩ = some (.int .i64 gs) := (hc _ _ (by (try simp) <;> omega)).trans (by go_simp)
  have c1_0_9 : w1.cell? ⟨w.heap.size, 9, none⟩ = some (.int .i64 ga) := (hc _ _ (by (try simp) <;> omega)).trans (by go_simp)
  have z1_0 : ∀ j, w1.frozen? ⟨w.heap.size, j, none⟩ = false := fun j => (hf _ _ (by (try simp) <;> omega)).trans (by go_simp)
  clear hc hf hb1
  go_wp2_with fail
  refine (H2.out _).mono ?_
  rintro e w2 ⟨rfl, hb2⟩
  have HB2 : Kp (Below w.heap.size w w2) := ⟨Below.trans (by repeat (first | refine Below.alloc ?_ (by have := HB1.out.size; (try simp) <;> omega) _ | refine bDrewN ?_ _ | refine Below.drew ?_ | exact HB1.out)) (hb2.mono (by have := HB1.out.size; (try simp) <;> omega))⟩
  have hz2_0 : w.heap.size < w2.heap.size := by have := hb2.size; (try simp at this); omega
  have hz2_1 : w1.heap.size < w2.heap.size := by have := hb2.size; (try simp at this); omega
  obtain ⟨hc, hf⟩ := bcell hb2
  have c2_0_0 : w2.cell? ⟨w.heap.size, 0, none⟩ = some (.int .i64 bw) := (hc _ _ (by (try simp) <;> omega)).trans (by go_simp)
  have c2_0_1 : w2.cell? ⟨w.heap.size, 1, none⟩ = some (.int .i64 bs) := (hc _ _ (by (try simp) <;> omega)).trans (by go_simp)
  have c2_0_2 : w2.cell? ⟨w.heap.size, 2, none⟩ = some (.int .i64 ba) := (hc _ _ (by (try simp) <;> omega)).trans (by go_simp)
  have c2_0_3 : w2.cell? ⟨w.heap.size, 3, none⟩ = some (.int .i64 sw) := (hc _ _ (by (try simp) <;> omega)).trans (by go_simp)
  have c2_0_4 : w2.cell? ⟨w.heap.size, 4, none⟩ = some (.int .i64 ss) := (hc _ _ (by (try simp) <;> omega)).trans (by go_simp)
  have c2_0_5 : w2.cell? ⟨w.heap.size, 5, none⟩ = some (.int .i64 sa) := (hc _ _ (by (try simp) <;> omega)).trans (by go_simp)
  have c2_0_6 : w2.cell? ⟨w.heap.size, 6, none⟩ = some (.int .i64 so) := (hc _ _ (by (try simp) <;> omega)).trans (by go_simp)
  have c2_0_7 : w2.cell? ⟨w.heap.size, 7, none⟩ = some (.int .i64 gw) := (hc _ _ (by (try simp) <;> omega)).trans (by go_simp)
  have c2_0_8 : w2.cell? ⟨w.heap.size, 8, none⟩ = some (.int .i64 gs) := (hc _ _ (by (try simp) <;> omega)).trans (by go_simp)
  have c2_0_9 : w2.cell? ⟨w.heap.size, 9, none⟩ = some (.int .i64 ga) := (hc _ _ (by (try simp) <;> omega)).trans (by go_simp)
  have z2_0 : ∀ j, w2.frozen? ⟨w.heap.size, j, none⟩ = false := fun j => (hf _ _ (by (try simp) <;> omega)).trans (by go_simp)
  have c2_1_0 : w2.cell? ⟨w1.heap.size, 0, none⟩ = some (.int .i64 bw) := (hc _ _ (by (try simp) <;> omega)).trans (by go_simp)
  have c2_1_1 : w2.cell? ⟨w1.heap.size, 1, none⟩ = some (.int .i64 bs) := (hc _ _ (by (try simp) <;> omega)).trans (by go_simp)
  have c2_1_2 : w2.cell? ⟨w1.heap.size, 2, none⟩ = some (.int .i64 y2) := (hc _ _ (by (try simp) <;> omega)).trans (by go_simp)
  have c2_1_3 : w2.cell? ⟨w1.heap.size, 3, none⟩ = some (.int .i64 sw) := (hc _ _ (by (try simp) <;> omega)).trans (by go_simp)
  have c2_1_4 : w2.cell? ⟨w1.heap.size, 4, none⟩ = some (.int .i64 y3) := (hc _ _ (by (try simp) <;> omega)).trans (by go_simp)
  have c2_1_5 : w2.cell? ⟨w1.heap.size, 5, none⟩ = some (.int .i64 y4) := (hc _ _ (by (try simp) <;> omega)).trans (by go_simp)
  have c2_1_6 : w2.cell? ⟨w1.heap.size, 6, none⟩ = some (.int .i64 so) := (hc _ _ (by (try simp) <;> omega)).trans (by go_simp)
  have c2_1_7 : w2.cell? ⟨w1.heap.size, 7, none⟩ = some (.int .i64 gw) := (hc _ _ (by (try simp) <;> omega)).trans (by go_simp)
  have c2_1_8 : w2.cell? ⟨w1.heap.size, 8, none⟩ = some (.int .i64 gs) := (hc _ _ (by (try simp) <;> omega)).trans (by go_simp)
  have c2_1_9 : w2.cell? ⟨w1.heap.size, 9, none⟩ = some (.int .i64 ga) := (hc _ _ (by (try simp) <;> omega)).trans (by go_simp)
  have z2_1 : ∀ j, w2.frozen? ⟨w1.heap.size, j, none⟩ = false := fun j => (hf _ _ (by (try simp) <;> omega)).trans (by go_simp)
  clear hc hf hb2 c1_0_0 c1_0_1 c1_0_2 c1_0_3 c1_0_4 c1_0_5 c1_0_6 c1_0_7 c1_0_8 c1_0_9 z1_0
  go_wp2_with fail
  refine (ltowards_yes _ _ _ _ T1.out).mono ?_
  rintro e w3 ⟨rfl, rfl⟩
  go_wp2_with fail
  refine (ltowards_yes _ _ _ _ T2.out).mono ?_
  rintro e w3 ⟨rfl, rfl⟩
  go_wp2_with fail
  refine (H3.out _).mono ?_
  rintro e w3 ⟨rfl, hb3⟩
  have HB3 : Kp (Below w.heap.size w w3) := ⟨Below.trans (by repeat (first | refine Below.alloc ?_ (by have := HB2.out.size; (try simp) <;> omega) _ | refine bDrewN ?_ _ | refine Below.drew ?_ | exact HB2.out)) (hb3.mono (by have := HB2.out.size; (try simp) <;> omega))⟩
  have hz3_0 : w.heap.size < w3.heap.size := by have := hb3.size; (try simp at this); omega
  have hz3_1 : w1.heap.size < w3.heap.size := by have := hb3.size; (try simp at this); omega
  obtain ⟨hc, hf⟩ := bcell hb3
  have c3_0_0 : w3.cell? ⟨w.heap.size, 0, none⟩ = some (.int .i64 bw) := (hc _ _ (by (try simp) <;> omega)).trans (by go_simp)
  have c3_0_1 : w3.cell? ⟨w.heap.size, 1, none⟩ = some (.int .i64 bs) := (hc _ _ (by (try simp) <;> omega)).trans (by go_simp)
  have c3_0_2 : w3.cell? ⟨w.heap.size, 2, none⟩ = some (.int .i64 ba) := (hc _ _ (by (try simp) <;> omega)).trans (by go_simp)
  have c3_0_3 : w3.cell? ⟨w.heap.size, 3, none⟩ = some (.int .i64 sw) := (hc _ _ (by (try simp) <;> omega)).trans (by go_simp)
  have c3_0_4 : w3.cell? ⟨w.heap.size, 4, none⟩ = some (.int .i64 ss) := (hc _ _ (by (try simp) <;> omega)).trans (by go_simp)
  have c3_0_5 : w3.cell? ⟨w.heap.size, 5, none⟩ = some (.int .i64 sa) := (hc _ _ (by (try simp) <;> omega)).trans (by go_simp)
  have c3_0_6 : w3.cell? ⟨w.heap.size, 6, none⟩ = some (.int .i64 so) := (hc _ _ (by (try simp) <;> omega)).trans (by go_simp)
  have c3_0_7 : w3.cell? ⟨w.heap.size, 7, none⟩ = some (.int .i64 gw) := (hc _ _ (by (try simp) <;> omega)).trans (by go_simp)
  have c3_0_8 : w3.cell? ⟨w.heap.size, 8, none⟩ = some (.int .i64 gs) := (hc _ _ (by (try simp) <;> omega)).trans (by go_simp)
  have c3_0_9 : w3.cell? ⟨w.heap.size, 9, none⟩ = some (.int .i64 ga) := (hc _ _ (by (try simp) <;> omega)).trans (by go_simp)
  have z3_0 : ∀ j, w3.frozen? ⟨w.heap.size, j, none⟩ = false := fun j => (hf _ _ (by (try simp) <;> omega)).trans (by go_simp)
  have c3_1_0 : w3.cell? ⟨w1.heap.size, 0, none⟩ = some (.int .i64 bw) := (hc _ _ (by (try simp) <;> omega)).trans (by go_simp)
  have c3_1_1 : w3.cell? ⟨w1.heap.size, 1, none⟩ = some (.int .i64 bs) := (hc _ _ (by (try simp) <;> omega)).trans (by go_simp)
  have c3_1_2 : w3.cell? ⟨w1.heap.size, 2, none⟩ = some (.int .i64 y2) := (hc _ _ (by (try simp) <;> omega)).trans (by go_simp)
  have c3_1_3 : w3.cell? ⟨w1.heap.size, 3, none⟩ = some (.int .i64 sw) := (hc _ _ (by (try simp) <;> omega)).trans (by go_simp)
  have c3_1_4 : w3.cell? ⟨w1.heap.size, 4, none⟩ = some (.int .i64 y3) := (hc _ _ (by (try simp) <;> omega)).trans (by go_simp)
  have c3_1_5 : w3.cell? ⟨w1.heap.size, 5, none⟩ = some (.int .i64 y4) := (hc _ _ (by (try simp) <;> omega)).trans (by go_simp)
  have c3_1_6 : w3.cell? ⟨w1.heap.size, 6, none⟩ = some (.int .i64 so) := (hc _ _ (by (try simp) <;> omega)).trans (by go_simp)
  have c3_1_7 : w3.cell? ⟨w1.heap.size, 7, none⟩ = some (.int .i64 gw) := (hc _ _ (by (try simp) <;> omega)).trans (by go_simp)
  have c3_1_8 : w3.cell? ⟨w1.heap.size, 8, none⟩ = some (.int .i64 gs) := (hc _ _ (by (try simp) <;> omega)).trans (by go_simp)
  have c3_1_9 : w3.cell? ⟨w1.heap.size, 9, none⟩ = some (.int .i64 ga) := (hc _ _ (by (try simp) <;> omega)).trans (by go_simp)
  have z3_1 : ∀ j, w3.frozen? ⟨w1.heap.size, j, none⟩ = false := fun j => (hf _ _ (by (try simp) <;> omega)).trans (by go_simp)
  clear hc hf hb3 c2_0_0 c2_0_1 c2_0_2 c2_0_3 c2_0_4 c2_0_5 c2_0_6 c2_0_7 c2_0_8 c2_0_9 z2_0 c2_1_0 c2_1_1 c2_1_2 c2_1_3 c2_1_4 c2_1_5 c2_1_6 c2_1_7 c2_1_8 c2_1_9 z2_1
  go_wp2_with fail
  refine (awake_any _).mono ?_
  rintro e w7 ⟨rfl, hb7⟩
  have HB7 : Kp (Below w.heap.size w w7) := ⟨Below.trans (by have := HB3.out.size; (repeat (with_reducible first | exact HB3.out | refine Below.alloc ?_ ?_ _)); all_goals ((try simp) <;> omega)) (hb7.mono (by have := HB3.out.size; (try simp) <;> omega))⟩
  clear hb7
  go_wp2
  go_ret
  exact ⟨rfl, HB7.out⟩
theorem towards_O1 (bw bs ba sw ss sa so gw gs ga  S A n : Int) (w : World) (g : n < 0)
    (H1 : Kp (∀ W : World, Calls Try.prog 24 #[.agg #[.int .i64 bw, .int .i64 bs, .int .i64 ba, .int .i64 sw, .int .i64 ss, .int .i64 sa, .int .i64 so, .int .i64 gw, .int .i64 gs, .int .i64 ga]] W fun e w' => e = .returned (.tuple #[.agg #[.int .i64 bw, .int .i64 bs, .int .i64 ba, .int .i64 sw, .int .i64 ss, .int .i64 sa, .int .i64 so, .int .i64 gw, .int .i64 gs, .int .i64 ga], .int .i64 0]) ∧ Below W.heap.size W w'))
    (H2 : Kp (∀ W : World, Calls Try.prog 26 #[.agg #[.int .i64 bw, .int .i64 bs, .int .i64 ba, .int .i64 sw, .int .i64 ss, .int .i64 sa, .int .i64 so, .int .i64 gw, .int .i64 gs, .int .i64 ga]] W fun e w' => e = .returned (.tuple #[.int .i64 S, .int .i64 A, .int .i64 0]) ∧ Below W.heap.size W w'))
    (H3 : Kp (∀ W : World, Calls Try.prog 28 #[.agg #[.int .i64 bw, .int .i64 bs, .int .i64 ba, .int .i64 sw, .int .i64 ss, .int .i64 sa, .int .i64 so, .int .i64 gw, .int .i64 gs, .int .i64 ga]] W fun e w' => e = .returned (.tuple #[.bool true, .int .i64 0]) ∧ Below W.heap.size W w'))
    (T1 : Kp (towards ss ss S)) (T2 : Kp (towards sa sa A)) :
    Calls Try.prog 11 #[.agg #[.int .i64 bw, .int .i64 bs, .int .i64 ba, .int .i64 sw, .int .i64 ss, .int .i64 sa, .int .i64 so, .int .i64 gw, .int .i64 gs, .int .i64 ga], .int .i64 n] w (Ends w) := by
  go_enter Try.func11, Try.ntmps11
  go_wp2_with fail
  refine (H1.out _).mono ?_
  rintro e w1 ⟨rfl, hb1⟩
  have HB1 : Kp (Below w.heap.size w w1) := ⟨Below.trans (by repeat (first | refine Below.alloc ?_ (by (try simp) <;> omega) _ | refine bDrewN ?_ _ | refine Below.drew ?_ | exact Below.refl _ _)) (hb1.mono (by (try simp) <;> omega))⟩
  have hz1_0 : w.heap.size < w1.heap.size := by have := hb1.size; (try simp at this); omega
  obtain ⟨hc, hf⟩ := bcell hb1
  have c1_0_0 : w1.cell? ⟨w.heap.size, 0, none⟩ = some (.int .i64 bw) := (hc _ _ (by (try simp) <;> omega)).trans (by go_simp)
  have c1_0_1 : w1.cell? ⟨w.heap.size, 1, none⟩ = some (.int .i64 bs) := (hc _ _ (by (try simp) <;> omega)).trans (by go_simp)
  have c1_0_2 : w1.cell? ⟨w.heap.size, 2, none⟩ = some (.int .i64 ba) := (hc _ _ (by (try simp) <;> omega)).trans (by go_simp)
  have c1_0_3 : w1.cell? ⟨w.heap.size, 3, none⟩ = some (.int .i64 sw) := (hc _ _ (by (try simp) <;> omega)).trans (by go_simp)
  have c1_0_4 : w1.cell? ⟨w.heap.size, 4, none⟩ = some (.int .i64 ss) := (hc _ _ (by (try simp) <;> omega)).trans (by go_simp)
  have c1_0_5 : w1.cell? ⟨w.heap.size, 5, none⟩ = some (.int .i64 sa) := (hc _ _ (by (try simp) <;> omega)).trans (by go_simp)
  have c1_0_6 : w1.cell? ⟨w.heap.size, 6, none⟩ = some (.int .i64 so) := (hc _ _ (by (try simp) <;> omega)).trans (by go_simp)
  have c1_0_7 : w1.cell? ⟨w.heap.size, 7, none⟩ = some (.int .i64 gw) := (hc _ _ (by (try simp) <;> omega)).trans (by go_simp)
  have c1_0_8 : w1.cell? ⟨w.heap.size, 8, none⟩ = some (.int .i64 gs) := (hc _ _ (by (try simp) <;> omega)).trans (by go_simp)
  have c1_0_9 : w1.cell? ⟨w.heap.size, 9, none⟩ = some (.int .i64 ga) := (hc _ _ (by (try simp) <;> omega)).trans (by go_simp)
  have z1_0 : ∀ j, w1.frozen? ⟨w.heap.size, j, none⟩ = false := fun j => (hf _ _ (by (try simp) <;> omega)).trans (by go_simp)
  clear hc hf hb1
  go_wp2_with fail
  refine (H2.out _).mono ?_
  rintro e w2 ⟨rfl, hb2⟩
  have HB2 : Kp (Below w.heap.size w w2) := ⟨Below.trans (by repeat (first | refine Below.alloc ?_ (by have := HB1.out.size; (try simp) <;> omega) _ | refine bDrewN ?_ _ | refine Below.drew ?_ | exact HB1.out)) (hb2.mono (by have := HB1.out.size; (try simp) <;> omega))⟩
  have hz2_0 : w.heap.size < w2.heap.size := by have := hb2.size; (try simp at this); omega
  have hz2_1 : w1.heap.size < w2.heap.size := by have := hb2.size; (try simp at this); omega
  obtain ⟨hc, hf⟩ := bcell hb2
  have c2_0_0 : w2.cell? ⟨w.heap.size, 0, none⟩ = some (.int .i64 bw) := (hc _ _ (by (try simp) <;> omega)).trans (by go_simp)
  have c2_0_1 : w2.cell? ⟨w.heap.size, 1, none⟩ = some (.int .i64 bs) := (hc _ _ (by (try simp) <;> omega)).trans (by go_simp)
  have c2_0_2 : w2.cell? ⟨w.heap.size, 2, none⟩ = some (.int .i64 ba) := (hc _ _ (by (try simp) <;> omega)).trans (by go_simp)
  have c2_0_3 : w2.cell? ⟨w.heap.size, 3, none⟩ = some (.int .i64 sw) := (hc _ _ (by (try simp) <;> omega)).trans (by go_simp)
  have c2_0_4 : w2.cell? ⟨w.heap.size, 4, none⟩ = some (.int .i64 ss) := (hc _ _ (by (try simp) <;> omega)).trans (by go_simp)
  have c2_0_5 : w2.cell? ⟨w.heap.size, 5, none⟩ = some (.int .i64 sa) := (hc _ _ (by (try simp) <;> omega)).trans (by go_simp)
  have c2_0_6 : w2.cell? ⟨w.heap.size, 6, none⟩ = some (.int .i64 so) := (hc _ _ (by (try simp) <;> omega)).trans (by go_simp)
  have c2_0_7 : w2.cell? ⟨w.heap.size, 7, none⟩ = some (.int .i64 gw) := (hc _ _ (by (try simp) <;> omega)).trans (by go_simp)
  have c2_0_8 : w2.cell? ⟨w.heap.size, 8, none⟩ = some (.int .i64 gs) := (hc _ _ (by (try simp) <;> omega)).trans (by go_simp)
  have c2_0_9 : w2.cell? ⟨w.heap.size, 9, none⟩ = some (.int .i64 ga) := (hc _ _ (by (try simp) <;> omega)).trans (by go_simp)
  have z2_0 : ∀ j, w2.frozen? ⟨w.heap.size, j, none⟩ = false := fun j => (hf _ _ (by (try simp) <;> omega)).trans (by go_simp)
  have c2_1_0 : w2.cell? ⟨w1.heap.size, 0, none⟩ = some (.int .i64 bw) := (hc _ _ (by (try simp) <;> omega)).trans (by go_simp)
  have c2_1_1 : w2.cell? ⟨w1.heap.size, 1, none⟩ = some (.int .i64 bs) := (hc _ _ (by (try simp) <;> omega)).trans (by go_simp)
  have c2_1_2 : w2.cell? ⟨w1.heap.size, 2, none⟩ = some (.int .i64 ba) := (hc _ _ (by (try simp) <;> omega)).trans (by go_simp)
  have c2_1_3 : w2.cell? ⟨w1.heap.size, 3, none⟩ = some (.int .i64 sw) := (hc _ _ (by (try simp) <;> omega)).trans (by go_simp)
  have c2_1_4 : w2.cell? ⟨w1.heap.size, 4, none⟩ = some (.int .i64 ss) := (hc _ _ (by (try simp) <;> omega)).trans (by go_simp)
  have c2_1_5 : w2.cell? ⟨w1.heap.size, 5, none⟩ = some (.int .i64 sa) := (hc _ _ (by (try simp) <;> omega)).trans (by go_simp)
  have c2_1_6 : w2.cell? ⟨w1.heap.size, 6, none⟩ = some (.int .i64 so) := (hc _ _ (by (try simp) <;> omega)).trans (by go_simp)
  have c2_1_7 : w2.cell? ⟨w1.heap.size, 7, none⟩ = some (.int .i64 gw) := (hc _ _ (by (try simp) <;> omega)).trans (by go_simp)
  have c2_1_8 : w2.cell? ⟨w1.heap.size, 8, none⟩ = some (.int .i64 gs) := (hc _ _ (by (try simp) <;> omega)).trans (by go_simp)
  have c2_1_9 : w2.cell? ⟨w1.heap.size, 9, none⟩ = some (.int .i64 ga) := (hc _ _ (by (try simp) <;> omega)).trans (by go_simp)
  have z2_1 : ∀ j, w2.frozen? ⟨w1.heap.size, j, none⟩ = false := fun j => (hf _ _ (by (try simp) <;> omega)).trans (by go_simp)
  clear hc hf hb2 c1_0_0 c1_0_1 c1_0_2 c1_0_3 c1_0_4 c1_0_5 c1_0_6 c1_0_7 c1_0_8 c1_0_9 z1_0
  go_wp2_with fail
  refine (ltowards_yes _ _ _ _ T1.out).mono ?_
  rintro e w3 ⟨rfl, rfl⟩
  go_wp2_with fail
  refine (ltowards_yes _ _ _ _ T2.out).mono ?_
  rintro e w3 ⟨rfl, rfl⟩
  go_wp2_with fail
  refine (H3.out _).mono ?_
  rintro e w3 ⟨rfl, hb3⟩
  have HB3 : Kp (Below w.heap.size w w3) := ⟨Below.trans (by repeat (first | refine Below.alloc ?_ (by have := HB2.out.size; (try simp) <;> omega) _ | refine bDrewN ?_ _ | refine Below.drew ?_ | exact HB2.out)) (hb3.mono (by have := HB2.out.size; (try simp) <;> omega))⟩
  have hz3_0 : w.heap.size < w3.heap.size := by have := hb3.size; (try simp at this); omega
  have hz3_1 : w1.heap.size < w3.heap.size := by have := hb3.size; (try simp at this); omega
  obtain ⟨hc, hf⟩ := bcell hb3
  have c3_0_0 : w3.cell? ⟨w.heap.size, 0, none⟩ = some (.int .i64 bw) := (hc _ _ (by (try simp) <;> omega)).trans (by go_simp)
  have c3_0_1 : w3.cell? ⟨w.heap.size, 1, none⟩ = some (.int .i64 bs) := (hc _ _ (by (try simp) <;> omega)).trans (by go_simp)
  have c3_0_2 : w3.cell? ⟨w.heap.size, 2, none⟩ = some (.int .i64 ba) := (hc _ _ (by (try simp) <;> omega)).trans (by go_simp)
  have c3_0_3 : w3.cell? ⟨w.heap.size, 3, none⟩ = some (.int .i64 sw) := (hc _ _ (by (try simp) <;> omega)).trans (by go_simp)
  have c3_0_4 : w3.cell? ⟨w.heap.size, 4, none⟩ = some (.int .i64 ss) := (hc _ _ (by (try simp) <;> omega)).trans (by go_simp)
  have c3_0_5 : w3.cell? ⟨w.heap.size, 5, none⟩ = some (.int .i64 sa) := (hc _ _ (by (try simp) <;> omega)).trans (by go_simp)
  have c3_0_6 : w3.cell? ⟨w.heap.size, 6, none⟩ = some (.int .i64 so) := (hc _ _ (by (try simp) <;> omega)).trans (by go_simp)
  have c3_0_7 : w3.cell? ⟨w.heap.size, 7, none⟩ = some (.int .i64 gw) := (hc _ _ (by (try simp) <;> omega)).trans (by go_simp)
  have c3_0_8 : w3.cell? ⟨w.heap.size, 8, none⟩ = some (.int .i64 gs) := (hc _ _ (by (try simp) <;> omega)).trans (by go_simp)
  have c3_0_9 : w3.cell? ⟨w.heap.size, 9, none⟩ = some (.int .i64 ga) := (hc _ _ (by (try simp) <;> omega)).trans (by go_simp)
  have z3_0 : ∀ j, w3.frozen? ⟨w.heap.size, j, none⟩ = false := fun j => (hf _ _ (by (try simp) <;> omega)).trans (by go_simp)
  have c3_1_0 : w3.cell? ⟨w1.heap.size, 0, none⟩ = some (.int .i64 bw) := (hc _ _ (by (try simp) <;> omega)).trans (by go_simp)
  have c3_1_1 : w3.cell? ⟨w1.heap.size, 1, none⟩ = some (.int .i64 bs) := (hc _ _ (by (try simp) <;> omega)).trans (by go_simp)
  have c3_1_2 : w3.cell? ⟨w1.heap.size, 2, none⟩ = some (.int .i64 ba) := (hc _ _ (by (try simp) <;> omega)).trans (by go_simp)
  have c3_1_3 : w3.cell? ⟨w1.heap.size, 3, none⟩ = some (.int .i64 sw) := (hc _ _ (by (try simp) <;> omega)).trans (by go_simp)
  have c3_1_4 : w3.cell? ⟨w1.heap.size, 4, none⟩ = some (.int .i64 ss) := (hc _ _ (by (try simp) <;> omega)).trans (by go_simp)
  have c3_1_5 : w3.cell? ⟨w1.heap.size, 5, none⟩ = some (.int .i64 sa) := (hc _ _ (by (try simp) <;> omega)).trans (by go_simp)
  have c3_1_6 : w3.cell? ⟨w1.heap.size, 6, none⟩ = some (.int .i64 so) := (hc _ _ (by (try simp) <;> omega)).trans (by go_simp)
  have c3_1_7 : w3.cell? ⟨w1.heap.size, 7, none⟩ = some (.int .i64 gw) := (hc _ _ (by (try simp) <;> omega)).trans (by go_simp)
  have c3_1_8 : w3.cell? ⟨w1.heap.size, 8, none⟩ = some (.int .i64 gs) := (hc _ _ (by (try simp) <;> omega)).trans (by go_simp)
  have c3_1_9 : w3.cell? ⟨w1.heap.size, 9, none⟩ = some (.int .i64 ga) := (hc _ _ (by (try simp) <;> omega)).trans (by go_simp)
  have z3_1 : ∀ j, w3.frozen? ⟨w1.heap.size, j, none⟩ = false := fun j => (hf _ _ (by (try simp) <;> omega)).trans (by go_simp)
  clear hc hf hb3 c2_0_0 c2_0_1 c2_0_2 c2_0_3 c2_0_4 c2_0_5 c2_0_6 c2_0_7 c2_0_8 c2_0_9 z2_0 c2_1_0 c2_1_1 c2_1_2 c2_1_3 c2_1_4 c2_1_5 c2_1_6 c2_1_7 c2_1_8 c2_1_9 z2_1
  go_wp2_with fail
  refine (awake_any _).mono ?_
  rintro e w7 ⟨rfl, hb7⟩
  have HB7 : Kp (Below w.heap.size w w7) := ⟨Below.trans (by have := HB3.out.size; (repeat (with_reducible first | exact HB3.out | refine Below.alloc ?_ ?_ _)); all_goals ((try simp) <;> omega)) (hb7.mono (by have := HB3.out.size; (try simp) <;> omega))⟩
  clear hb7
  go_wp2
  go_ret
  exact ⟨rfl, HB7.out⟩
theorem towards_O2 (bw bs ba sw ss sa so gw gs ga  S A n : Int) (w : World) (g : ¬ n < 0) (g2 : 1000 < n)
    (H1 : Kp (∀ W : World, Calls Try.prog 24 #[.agg #[.int .i64 bw, .int .i64 bs, .int .i64 ba, .int .i64 sw, .int .i64 ss, .int .i64 sa, .int .i64 so, .int .i64 gw, .int .i64 gs, .int .i64 ga]] W fun e w' => e = .returned (.tuple #[.agg #[.int .i64 bw, .int .i64 bs, .int .i64 ba, .int .i64 sw, .int .i64 ss, .int .i64 sa, .int .i64 so, .int .i64 gw, .int .i64 gs, .int .i64 ga], .int .i64 0]) ∧ Below W.heap.size W w'))
    (H2 : Kp (∀ W : World, Calls Try.prog 26 #[.agg #[.int .i64 bw, .int .i64 bs, .int .i64 ba, .int .i64 sw, .int .i64 ss, .int .i64 sa, .int .i64 so, .int .i64 gw, .int .i64 gs, .int .i64 ga]] W fun e w' => e = .returned (.tuple #[.int .i64 S, .int .i64 A, .int .i64 0]) ∧ Below W.heap.size W w'))
    (H3 : Kp (∀ W : World, Calls Try.prog 28 #[.agg #[.int .i64 bw, .int .i64 bs, .int .i64 ba, .int .i64 sw, .int .i64 ss, .int .i64 sa, .int .i64 so, .int .i64 gw, .int .i64 gs, .int .i64 ga]] W fun e w' => e = .returned (.tuple #[.bool true, .int .i64 0]) ∧ Below W.heap.size W w'))
    (T1 : Kp (towards ss ss S)) (T2 : Kp (towards sa sa A)) :
    Calls Try.prog 11 #[.agg #[.int .i64 bw, .int .i64 bs, .int .i64 ba, .int .i64 sw, .int .i64 ss, .int .i64 sa, .int .i64 so, .int .i64 gw, .int .i64 gs, .int .i64 ga], .int .i64 n] w (Ends w) := by
  go_enter Try.func11, Try.ntmps11
  go_wp2_with fail
  refine (H1.out _).mono ?_
  rintro e w1 ⟨rfl, hb1⟩
  have HB1 : Kp (Below w.heap.size w w1) := ⟨Below.trans (by repeat (first | refine Below.alloc ?_ (by (try simp) <;> omega) _ | refine bDrewN ?_ _ | refine Below.drew ?_ | exact Below.refl _ _)) (hb1.mono (by (try simp) <;> omega))⟩
  have hz1_0 : w.heap.size < w1.heap.size := by have := hb1.size; (try simp at this); omega
  obtain ⟨hc, hf⟩ := bcell hb1
  have c1_0_0 : w1.cell? ⟨w.heap.size, 0, none⟩ = some (.int .i64 bw) := (hc _ _ (by (try simp) <;> omega)).trans (by go_simp)
  have c1_0_1 : w1.cell? ⟨w.heap.size, 1, none⟩ = some (.int .i64 bs) := (hc _ _ (by (try simp) <;> omega)).trans (by go_simp)
  have c1_0_2 : w1.cell? ⟨w.heap.size, 2, none⟩ = some (.int .i64 ba) := (hc _ _ (by (try simp) <;> omega)).trans (by go_simp)
  have c1_0_3 : w1.cell? ⟨w.heap.size, 3, none⟩ = some (.int .i64 sw) := (hc _ _ (by (try simp) <;> omega)).trans (by go_simp)
  have c1_0_4 : w1.cell? ⟨w.heap.size, 4, none⟩ = some (.int .i64 ss) := (hc _ _ (by (try simp) <;> omega)).trans (by go_simp)
  have c1_0_5 : w1.cell? ⟨w.heap.size, 5, none⟩ = some (.int .i64 sa) := (hc _ _ (by (try simp) <;> omega)).trans (by go_simp)
  have c1_0_6 : w1.cell? ⟨w.heap.size, 6, none⟩ = some (.int .i64 so) := (hc _ _ (by (try simp) <;> omega)).trans (by go_simp)
  have c1_0_7 : w1.cell? ⟨w.heap.size, 7, none⟩ = some (.int .i64 gw) := (hc _ _ (by (try simp) <;> omega)).trans (by go_simp)
  have c1_0_8 : w1.cell? ⟨w.heap.size, 8, none⟩ = some (.int .i64 gs) := (hc _ _ (by (try simp) <;> omega)).trans (by go_simp)
  have c1_0_9 : w1.cell? ⟨w.heap.size, 9, none⟩ = some (.int .i64 ga) := (hc _ _ (by (try simp) <;> omega)).trans (by go_simp)
  have z1_0 : ∀ j, w1.frozen? ⟨w.heap.size, j, none⟩ = false := fun j => (hf _ _ (by (try simp) <;> omega)).trans (by go_simp)
  clear hc hf hb1
  go_wp2_with fail
  refine (H2.out _).mono ?_
  rintro e w2 ⟨rfl, hb2⟩
  have HB2 : Kp (Below w.heap.size w w2) := ⟨Below.trans (by repeat (first | refine Below.alloc ?_ (by have := HB1.out.size; (try simp) <;> omega) _ | refine bDrewN ?_ _ | refine Below.drew ?_ | exact HB1.out)) (hb2.mono (by have := HB1.out.size; (try simp) <;> omega))⟩
  have hz2_0 : w.heap.size < w2.heap.size := by have := hb2.size; (try simp at this); omega
  have hz2_1 : w1.heap.size < w2.heap.size := by have := hb2.size; (try simp at this); omega
  obtain ⟨hc, hf⟩ := bcell hb2
  have c2_0_0 : w2.cell? ⟨w.heap.size, 0, none⟩ = some (.int .i64 bw) := (hc _ _ (by (try simp) <;> omega)).trans (by go_simp)
  have c2_0_1 : w2.cell? ⟨w.heap.size, 1, none⟩ = some (.int .i64 bs) := (hc _ _ (by (try simp) <;> omega)).trans (by go_simp)
  have c2_0_2 : w2.cell? ⟨w.heap.size, 2, none⟩ = some (.int .i64 ba) := (hc _ _ (by (try simp) <;> omega)).trans (by go_simp)
  have c2_0_3 : w2.cell? ⟨w.heap.size, 3, none⟩ = some (.int .i64 sw) := (hc _ _ (by (try simp) <;> omega)).trans (by go_simp)
  have c2_0_4 : w2.cell? ⟨w.heap.size, 4, none⟩ = some (.int .i64 ss) := (hc _ _ (by (try simp) <;> omega)).trans (by go_simp)
  have c2_0_5 : w2.cell? ⟨w.heap.size, 5, none⟩ = some (.int .i64 sa) := (hc _ _ (by (try simp) <;> omega)).trans (by go_simp)
  have c2_0_6 : w2.cell? ⟨w.heap.size, 6, none⟩ = some (.int .i64 so) := (hc _ _ (by (try simp) <;> omega)).trans (by go_simp)
  have c2_0_7 : w2.cell? ⟨w.heap.size, 7, none⟩ = some (.int .i64 gw) := (hc _ _ (by (try simp) <;> omega)).trans (by go_simp)
  have c2_0_8 : w2.cell? ⟨w.heap.size, 8, none⟩ = some (.int .i64 gs) := (hc _ _ (by (try simp) <;> omega)).trans (by go_simp)
  have c2_0_9 : w2.cell? ⟨w.heap.size, 9, none⟩ = some (.int .i64 ga) := (hc _ _ (by (try simp) <;> omega)).trans (by go_simp)
  have z2_0 : ∀ j, w2.frozen? ⟨w.heap.size, j, none⟩ = false := fun j => (hf _ _ (by (try simp) <;> omega)).trans (by go_simp)
  have c2_1_0 : w2.cell? ⟨w1.heap.size, 0, none⟩ = some (.int .i64 bw) := (hc _ _ (by (try simp) <;> omega)).trans (by go_simp)
  have c2_1_1 : w2.cell? ⟨w1.heap.size, 1, none⟩ = some (.int .i64 bs) := (hc _ _ (by (try simp) <;> omega)).trans (by go_simp)
  have c2_1_2 : w2.cell? ⟨w1.heap.size, 2, none⟩ = some (.int .i64 ba) := (hc _ _ (by (try simp) <;> omega)).trans (by go_simp)
  have c2_1_3 : w2.cell? ⟨w1.heap.size, 3, none⟩ = some (.int .i64 sw) := (hc _ _ (by (try simp) <;> omega)).trans (by go_simp)
  have c2_1_4 : w2.cell? ⟨w1.heap.size, 4, none⟩ = some (.int .i64 ss) := (hc _ _ (by (try simp) <;> omega)).trans (by go_simp)
  have c2_1_5 : w2.cell? ⟨w1.heap.size, 5, none⟩ = some (.int .i64 sa) := (hc _ _ (by (try simp) <;> omega)).trans (by go_simp)
  have c2_1_6 : w2.cell? ⟨w1.heap.size, 6, none⟩ = some (.int .i64 so) := (hc _ _ (by (try simp) <;> omega)).trans (by go_simp)
  have c2_1_7 : w2.cell? ⟨w1.heap.size, 7, none⟩ = some (.int .i64 gw) := (hc _ _ (by (try simp) <;> omega)).trans (by go_simp)
  have c2_1_8 : w2.cell? ⟨w1.heap.size, 8, none⟩ = some (.int .i64 gs) := (hc _ _ (by (try simp) <;> omega)).trans (by go_simp)
  have c2_1_9 : w2.cell? ⟨w1.heap.size, 9, none⟩ = some (.int .i64 ga) := (hc _ _ (by (try simp) <;> omega)).trans (by go_simp)
  have z2_1 : ∀ j, w2.frozen? ⟨w1.heap.size, j, none⟩ = false := fun j => (hf _ _ (by (try simp) <;> omega)).trans (by go_simp)
  clear hc hf hb2 c1_0_0 c1_0_1 c1_0_2 c1_0_3 c1_0_4 c1_0_5 c1_0_6 c1_0_7 c1_0_8 c1_0_9 z1_0
  go_wp2_with fail
  refine (ltowards_yes _ _ _ _ T1.out).mono ?_
  rintro e w3 ⟨rfl, rfl⟩
  go_wp2_with fail
  refine (ltowards_yes _ _ _ _ T2.out).mono ?_
  rintro e w3 ⟨rfl, rfl⟩
  go_wp2_with fail
  refine (H3.out _).mono ?_
  rintro e w3 ⟨rfl, hb3⟩
  have HB3 : Kp (Below w.heap.size w w3) := ⟨Below.trans (by repeat (first | refine Below.alloc ?_ (by have := HB2.out.size; (try simp) <;> omega) _ | refine bDrewN ?_ _ | refine Below.drew ?_ | exact HB2.out)) (hb3.mono (by have := HB2.out.size; (try simp) <;> omega))⟩
  have hz3_0 : w.heap.size < w3.heap.size := by have := hb3.size; (try simp at this); omega
  have hz3_1 : w1.heap.size < w3.heap.size := by have := hb3.size; (try simp at this); omega
  obtain ⟨hc, hf⟩ := bcell hb3
  have c3_0_0 : w3.cell? ⟨w.heap.size, 0, none⟩ = some (.int .i64 bw) := (hc _ _ (by (try simp) <;> omega)).trans (by go_simp)
  have c3_0_1 : w3.cell? ⟨w.heap.size, 1, none⟩ = some (.int .i64 bs) := (hc _ _ (by (try simp) <;> omega)).trans (by go_simp)
  have c3_0_2 : w3.cell? ⟨w.heap.size, 2, none⟩ = some (.int .i64 ba) := (hc _ _ (by (try simp) <;> omega)).trans (by go_simp)
  have c3_0_3 : w3.cell? ⟨w.heap.size, 3, none⟩ = some (.int .i64 sw) := (hc _ _ (by (try simp) <;> omega)).trans (by go_simp)
  have c3_0_4 : w3.cell? ⟨w.heap.size, 4, none⟩ = some (.int .i64 ss) := (hc _ _ (by (try simp) <;> omega)).trans (by go_simp)
  have c3_0_5 : w3.cell? ⟨w.heap.size, 5, none⟩ = some (.int .i64 sa) := (hc _ _ (by (try simp) <;> omega)).trans (by go_simp)
  have c3_0_6 : w3.cell? ⟨w.heap.size, 6, none⟩ = some (.int .i64 so) := (hc _ _ (by (try simp) <;> omega)).trans (by go_simp)
  have c3_0_7 : w3.cell? ⟨w.heap.size, 7, none⟩ = some (.int .i64 gw) := (hc _ _ (by (try simp) <;> omega)).trans (by go_simp)
  have c3_0_8 : w3.cell? ⟨w.heap.size, 8, none⟩ = some (.int .i64 gs) := (hc _ _ (by (try simp) <;> omega)).trans (by go_simp)
  have c3_0_9 : w3.cell? ⟨w.heap.size, 9, none⟩ = some (.int .i64 ga) := (hc _ _ (by (try simp) <;> omega)).trans (by go_simp)
  have z3_0 : ∀ j, w3.frozen? ⟨w.heap.size, j, none⟩ = false := fun j => (hf _ _ (by (try simp) <;> omega)).trans (by go_simp)
  have c3_1_0 : w3.cell? ⟨w1.heap.size, 0, none⟩ = some (.int .i64 bw) := (hc _ _ (by (try simp) <;> omega)).trans (by go_simp)
  have c3_1_1 : w3.cell? ⟨w1.heap.size, 1, none⟩ = some (.int .i64 bs) := (hc _ _ (by (try simp) <;> omega)).trans (by go_simp)
  have c3_1_2 : w3.cell? ⟨w1.heap.size, 2, none⟩ = some (.int .i64 ba) := (hc _ _ (by (try simp) <;> omega)).trans (by go_simp)
  have c3_1_3 : w3.cell? ⟨w1.heap.size, 3, none⟩ = some (.int .i64 sw) := (hc _ _ (by (try simp) <;> omega)).trans (by go_simp)
  have c3_1_4 : w3.cell? ⟨w1.heap.size, 4, none⟩ = some (.int .i64 ss) := (hc _ _ (by (try simp) <;> omega)).trans (by go_simp)
  have c3_1_5 : w3.cell? ⟨w1.heap.size, 5, none⟩ = some (.int .i64 sa) := (hc _ _ (by (try simp) <;> omega)).trans (by go_simp)
  have c3_1_6 : w3.cell? ⟨w1.heap.size, 6, none⟩ = some (.int .i64 so) := (hc _ _ (by (try simp) <;> omega)).trans (by go_simp)
  have c3_1_7 : w3.cell? ⟨w1.heap.size, 7, none⟩ = some (.int .i64 gw) := (hc _ _ (by (try simp) <;> omega)).trans (by go_simp)
  have c3_1_8 : w3.cell? ⟨w1.heap.size, 8, none⟩ = some (.int .i64 gs) := (hc _ _ (by (try simp) <;> omega)).trans (by go_simp)
  have c3_1_9 : w3.cell? ⟨w1.heap.size, 9, none⟩ = some (.int .i64 ga) := (hc _ _ (by (try simp) <;> omega)).trans (by go_simp)
  have z3_1 : ∀ j, w3.frozen? ⟨w1.heap.size, j, none⟩ = false := fun j => (hf _ _ (by (try simp) <;> omega)).trans (by go_simp)
  clear hc hf hb3 c2_0_0 c2_0_1 c2_0_2 c2_0_3 c2_0_4 c2_0_5 c2_0_6 c2_0_7 c2_0_8 c2_0_9 z2_0 c2_1_0 c2_1_1 c2_1_2 c2_1_3 c2_1_4 c2_1_5 c2_1_6 c2_1_7 c2_1_8 c2_1_9 z2_1
  go_wp2_with fail
  refine (awake_any _).mono ?_
  rintro e w7 ⟨rfl, hb7⟩
  have HB7 : Kp (Below w.heap.size w w7) := ⟨Below.trans (by have := HB3.out.size; (repeat (with_reducible first | exact HB3.out | refine Below.alloc ?_ ?_ _)); all_goals ((try simp) <;> omega)) (hb7.mono (by have := HB3.out.size; (try simp) <;> omega))⟩
  clear hb7
  go_wp2
  go_ret
  exact ⟨rfl, HB7.out⟩
theorem towards_I (bw bs ba sw ss sa so gw gs ga  S A n : Int) (w : World) (g : ¬ n < 0) (g2 : ¬ 1000 < n) (H4 : Kp (StepC 32 bw bs ba sw ss sa so gw gs ga 1 n bw bs ba sw ss sa so gw gs ga 0))
    (H1 : Kp (∀ W : World, Calls Try.prog 24 #[.agg #[.int .i64 bw, .int .i64 bs, .int .i64 ba, .int .i64 sw, .int .i64 ss, .int .i64 sa, .int .i64 so, .int .i64 gw, .int .i64 gs, .int .i64 ga]] W fun e w' => e = .returned (.tuple #[.agg #[.int .i64 bw, .int .i64 bs, .int .i64 ba, .int .i64 sw, .int .i64 ss, .int .i64 sa, .int .i64 so, .int .i64 gw, .int .i64 gs, .int .i64 ga], .int .i64 0]) ∧ Below W.heap.size W w'))
    (H2 : Kp (∀ W : World, Calls Try.prog 26 #[.agg #[.int .i64 bw, .int .i64 bs, .int .i64 ba, .int .i64 sw, .int .i64 ss, .int .i64 sa, .int .i64 so, .int .i64 gw, .int .i64 gs, .int .i64 ga]] W fun e w' => e = .returned (.tuple #[.int .i64 S, .int .i64 A, .int .i64 0]) ∧ Below W.heap.size W w'))
    (H3 : Kp (∀ W : World, Calls Try.prog 28 #[.agg #[.int .i64 bw, .int .i64 bs, .int .i64 ba, .int .i64 sw, .int .i64 ss, .int .i64 sa, .int .i64 so, .int .i64 gw, .int .i64 gs, .int .i64 ga]] W fun e w' => e = .returned (.tuple #[.bool true, .int .i64 0]) ∧ Below W.heap.size W w'))
    (T1 : Kp (towards ss ss S)) (T2 : Kp (towards sa sa A)) :
    Calls Try.prog 11 #[.agg #[.int .i64 bw, .int .i64 bs, .int .i64 ba, .int .i64 sw, .int .i64 ss, .int .i64 sa, .int .i64 so, .int .i64 gw, .int .i64 gs, .int .i64 ga], .int .i64 n] w (Ends w) := by
  go_enter Try.func11, Try.ntmps11
  go_wp2_with fail
  refine (H1.out _).mono ?_
  rintro e w1 ⟨rfl, hb1⟩
  have HB1 : Kp (Below w.heap.size w w1) := ⟨Below.trans (by repeat (first | refine Below.alloc ?_ (by (try simp) <;> omega) _ | refine bDrewN ?_ _ | refine Below.drew ?_ | exact Below.refl _ _)) (hb1.mono (by (try simp) <;> omega))⟩
  have hz1_0 : w.heap.size < w1.heap.size := by have := hb1.size; (try simp at this); omega
  obtain ⟨hc, hf⟩ := bcell hb1
  have c1_0_0 : w1.cell? ⟨w.heap.size, 0, none⟩ = some (.int .i64 bw) := (hc _ _ (by (try simp) <;> omega)).trans (by go_simp)
  have c1_0_1 : w1.cell? ⟨w.heap.size, 1, none⟩ = some (.int .i64 bs) := (hc _ _ (by (try simp) <;> omega)).trans (by go_simp)
  have c1_0_2 : w1.cell? ⟨w.heap.size, 2, none⟩ = some (.int .i64 ba) := (hc _ _ (by (try simp) <;> omega)).trans (by go_simp)
  have c1_0_3 : w1.cell? ⟨w.heap.size, 3, none⟩ = some (.int .i64 sw) := (hc _ _ (by (try simp) <;> omega)).trans (by go_simp)
  have c1_0_4 : w1.cell? ⟨w.heap.size, 4, none⟩ = some (.int .i64 ss) := (hc _ _ (by (try simp) <;> omega)).trans (by go_simp)
  have c1_0_5 : w1.cell? ⟨w.heap.size, 5, none⟩ = some (.int .i64 sa) := (hc _ _ (by (try simp) <;> omega)).trans (by go_simp)
  have c1_0_6 : w1.cell? ⟨w.heap.size, 6, none⟩ = some (.int .i64 so) := (hc _ _ (by (try simp) <;> omega)).trans (by go_simp)
  have c1_0_7 : w1.cell? ⟨w.heap.size, 7, none⟩ = some (.int .i64 gw) := (hc _ _ (by (try simp) <;> omega)).trans (by go_simp)
  have c1_0_8 : w1.cell? ⟨w.heap.size, 8, none⟩ = some (.int .i64 gs) := (hc _ _ (by (try simp) <;> omega)).trans (by go_simp)
  have c1_0_9 : w1.cell? ⟨w.heap.size, 9, none⟩ = some (.int .i64 ga) := (hc _ _ (by (try simp) <;> omega)).trans (by go_simp)
  have z1_0 : ∀ j, w1.frozen? ⟨w.heap.size, j, none⟩ = false := fun j => (hf _ _ (by (try simp) <;> omega)).trans (by go_simp)
  clear hc hf hb1
  go_wp2_with fail
  refine (H2.out _).mono ?_
  rintro e w2 ⟨rfl, hb2⟩
  have HB2 : Kp (Below w.heap.size w w2) := ⟨Below.trans (by repeat (first | refine Below.alloc ?_ (by have := HB1.out.size; (try simp) <;> omega) _ | refine bDrewN ?_ _ | refine Below.drew ?_ | exact HB1.out)) (hb2.mono (by have := HB1.out.size; (try simp) <;> omega))⟩
  have hz2_0 : w.heap.size < w2.heap.size := by have := hb2.size; (try simp at this); omega
  have hz2_1 : w1.heap.size < w2.heap.size := by have := hb2.size; (try simp at this); omega
  obtain ⟨hc, hf⟩ := bcell hb2
  have c2_0_0 : w2.cell? ⟨w.heap.size, 0, none⟩ = some (.int .i64 bw) := (hc _ _ (by (try simp) <;> omega)).trans (by go_simp)
  have c2_0_1 : w2.cell? ⟨w.heap.size, 1, none⟩ = some (.int .i64 bs) := (hc _ _ (by (try simp) <;> omega)).trans (by go_simp)
  have c2_0_2 : w2.cell? ⟨w.heap.size, 2, none⟩ = some (.int .i64 ba) := (hc _ _ (by (try simp) <;> omega)).trans (by go_simp)
  have c2_0_3 : w2.cell? ⟨w.heap.size, 3, none⟩ = some (.int .i64 sw) := (hc _ _ (by (try simp) <;> omega)).trans (by go_simp)
  have c2_0_4 : w2.cell? ⟨w.heap.size, 4, none⟩ = some (.int .i64 ss) := (hc _ _ (by (try simp) <;> omega)).trans (by go_simp)
  have c2_0_5 : w2.cell? ⟨w.heap.size, 5, none⟩ = some (.int .i64 sa) := (hc _ _ (by (try simp) <;> omega)).trans (by go_simp)
  have c2_0_6 : w2.cell? ⟨w.heap.size, 6, none⟩ = some (.int .i64 so) := (hc _ _ (by (try simp) <;> omega)).trans (by go_simp)
  have c2_0_7 : w2.cell? ⟨w.heap.size, 7, none⟩ = some (.int .i64 gw) := (hc _ _ (by (try simp) <;> omega)).trans (by go_simp)
  have c2_0_8 : w2.cell? ⟨w.heap.size, 8, none⟩ = some (.int .i64 gs) := (hc _ _ (by (try simp) <;> omega)).trans (by go_simp)
  have c2_0_9 : w2.cell? ⟨w.heap.size, 9, none⟩ = some (.int .i64 ga) := (hc _ _ (by (try simp) <;> omega)).trans (by go_simp)
  have z2_0 : ∀ j, w2.frozen? ⟨w.heap.size, j, none⟩ = false := fun j => (hf _ _ (by (try simp) <;> omega)).trans (by go_simp)
  have c2_1_0 : w2.cell? ⟨w1.heap.size, 0, none⟩ = some (.int .i64 bw) := (hc _ _ (by (try simp) <;> omega)).trans (by go_simp)
  have c2_1_1 : w2.cell? ⟨w1.heap.size, 1, none⟩ = some (.int .i64 bs) := (hc _ _ (by (try simp) <;> omega)).trans (by go_simp)
  have c2_1_2 : w2.cell? ⟨w1.heap.size, 2, none⟩ = some (.int .i64 ba) := (hc _ _ (by (try simp) <;> omega)).trans (by go_simp)
  have c2_1_3 : w2.cell? ⟨w1.heap.size, 3, none⟩ = some (.int .i64 sw) := (hc _ _ (by (try simp) <;> omega)).trans (by go_simp)
  have c2_1_4 : w2.cell? ⟨w1.heap.size, 4, none⟩ = some (.int .i64 ss) := (hc _ _ (by (try simp) <;> omega)).trans (by go_simp)
  have c2_1_5 : w2.cell? ⟨w1.heap.size, 5, none⟩ = some (.int .i64 sa) := (hc _ _ (by (try simp) <;> omega)).trans (by go_simp)
  have c2_1_6 : w2.cell? ⟨w1.heap.size, 6, none⟩ = some (.int .i64 so) := (hc _ _ (by (try simp) <;> omega)).trans (by go_simp)
  have c2_1_7 : w2.cell? ⟨w1.heap.size, 7, none⟩ = some (.int .i64 gw) := (hc _ _ (by (try simp) <;> omega)).trans (by go_simp)
  have c2_1_8 : w2.cell? ⟨w1.heap.size, 8, none⟩ = some (.int .i64 gs) := (hc _ _ (by (try simp) <;> omega)).trans (by go_simp)
  have c2_1_9 : w2.cell? ⟨w1.heap.size, 9, none⟩ = some (.int .i64 ga) := (hc _ _ (by (try simp) <;> omega)).trans (by go_simp)
  have z2_1 : ∀ j, w2.frozen? ⟨w1.heap.size, j, none⟩ = false := fun j => (hf _ _ (by (try simp) <;> omega)).trans (by go_simp)
  clear hc hf hb2
  go_wp2_with fail
  refine (ltowards_yes _ _ _ _ T1.out).mono ?_
  rintro e w3 ⟨rfl, rfl⟩
  go_wp2_with fail
  refine (ltowards_yes _ _ _ _ T2.out).mono ?_
  rintro e w3 ⟨rfl, rfl⟩
  go_wp2_with fail
  refine (H3.out _).mono ?_
  rintro e w3 ⟨rfl, hb3⟩
  have HB3 : Kp (Below w.heap.size w w3) := ⟨Below.trans (by repeat (first | refine Below.alloc ?_ (by have := HB2.out.size; (try simp) <;> omega) _ | refine bDrewN ?_ _ | refine Below.drew ?_ | exact HB2.out)) (hb3.mono (by have := HB2.out.size; (try simp) <;> omega))⟩
  have hz3_0 : w.heap.size < w3.heap.size := by have := hb3.size; (try simp at this); omega
  have hz3_1 : w1.heap.size < w3.heap.size := by have := hb3.size; (try simp at this); omega
  obtain ⟨hc, hf⟩ := bcell hb3
  have c3_0_0 : w3.cell? ⟨w.heap.size, 0, none⟩ = some (.int .i64 bw) := (hc _ _ (by (try simp) <;> omega)).trans (by go_simp)
  have c3_0_1 : w3.cell? ⟨w.heap.size, 1, none⟩ = some (.int .i64 bs) := (hc _ _ (by (try simp) <;> omega)).trans (by go_simp)
  have c3_0_2 : w3.cell? ⟨w.heap.size, 2, none⟩ = some (.int .i64 ba) := (hc _ _ (by (try simp) <;> omega)).trans (by go_simp)
  have c3_0_3 : w3.cell? ⟨w.heap.size, 3, none⟩ = some (.int .i64 sw) := (hc _ _ (by (try simp) <;> omega)).trans (by go_simp)
  have c3_0_4 : w3.cell? ⟨w.heap.size, 4, none⟩ = some (.int .i64 ss) := (hc _ _ (by (try simp) <;> omega)).trans (by go_simp)
  have c3_0_5 : w3.cell? ⟨w.heap.size, 5, none⟩ = some (.int .i64 sa) := (hc _ _ (by (try simp) <;> omega)).trans (by go_simp)
  have c3_0_6 : w3.cell? ⟨w.heap.size, 6, none⟩ = some (.int .i64 so) := (hc _ _ (by (try simp) <;> omega)).trans (by go_simp)
  have c3_0_7 : w3.cell? ⟨w.heap.size, 7, none⟩ = some (.int .i64 gw) := (hc _ _ (by (try simp) <;> omega)).trans (by go_simp)
  have c3_0_8 : w3.cell? ⟨w.heap.size, 8, none⟩ = some (.int .i64 gs) := (hc _ _ (by (try simp) <;> omega)).trans (by go_simp)
  have c3_0_9 : w3.cell? ⟨w.heap.size, 9, none⟩ = some (.int .i64 ga) := (hc _ _ (by (try simp) <;> omega)).trans (by go_simp)
  have z3_0 : ∀ j, w3.frozen? ⟨w.heap.size, j, none⟩ = false := fun j => (hf _ _ (by (try simp) <;> omega)).trans (by go_simp)
  have c3_1_0 : w3.cell? ⟨w1.heap.size, 0, none⟩ = some (.int .i64 bw) := (hc _ _ (by (try simp) <;> omega)).trans (by go_simp)
  have c3_1_1 : w3.cell? ⟨w1.heap.size, 1, none⟩ = some (.int .i64 bs) := (hc _ _ (by (try simp) <;> omega)).trans (by go_simp)
  have c3_1_2 : w3.cell? ⟨w1.heap.size, 2, none⟩ = some (.int .i64 ba) := (hc _ _ (by (try simp) <;> omega)).trans (by go_simp)
  have c3_1_3 : w3.cell? ⟨w1.heap.size, 3, none⟩ = some (.int .i64 sw) := (hc _ _ (by (try simp) <;> omega)).trans (by go_simp)
  have c3_1_4 : w3.cell? ⟨w1.heap.size, 4, none⟩ = some (.int .i64 ss) := (hc _ _ (by (try simp) <;> omega)).trans (by go_simp)
  have c3_1_5 : w3.cell? ⟨w1.heap.size, 5, none⟩ = some (.int .i64 sa) := (hc _ _ (by (try simp) <;> omega)).trans (by go_simp)
  have c3_1_6 : w3.cell? ⟨w1.heap.size, 6, none⟩ = some (.int .i64 so) := (hc _ _ (by (try simp) <;> omega)).trans (by go_simp)
  have c3_1_7 : w3.cell? ⟨w1.heap.size, 7, none⟩ = some (.int .i64 gw) := (hc _ _ (by (try simp) <;> omega)).trans (by go_simp)
  have c3_1_8 : w3.cell? ⟨w1.heap.size, 8, none⟩ = some (.int .i64 gs) := (hc _ _ (by (try simp) <;> omega)).trans (by go_simp)
  have c3_1_9 : w3.cell? ⟨w1.heap.size, 9, none⟩ = some (.int .i64 ga) := (hc _ _ (by (try simp) <;> omega)).trans (by go_simp)
  have z3_1 : ∀ j, w3.frozen? ⟨w1.heap.size, j, none⟩ = false := fun j => (hf _ _ (by (try simp) <;> omega)).trans (by go_simp)
  clear hc hf hb3
  go_wp2_with fail
  refine (H4.out _).mono ?_
  rintro e w4 ⟨rfl, hb4⟩
  have HB4 : Kp (Below w.heap.size w w4) := ⟨Below.trans (by repeat (first | refine Below.alloc ?_ (by have := HB3.out.size; (try simp) <;> omega) _ | refine bDrewN ?_ _ | refine Below.drew ?_ | exact HB3.out)) (hb4.mono (by have := HB3.out.size; (try simp) <;> omega))⟩
  have hz4_0 : w.heap.size < w4.heap.size := by have := hb4.size; (try simp at this); omega
  have hz4_1 : w1.heap.size < w4.heap.size := by have := hb4.size; (try simp at this); omega
  obtain ⟨hc, hf⟩ := bcell hb4
  have c4_0_0 : w4.cell? ⟨w.heap.size, 0, none⟩ = some (.int .i64 bw) := (hc _ _ (by (try simp) <;> omega)).trans (by go_simp)
  have c4_0_1 : w4.cell? ⟨w.heap.size, 1, none⟩ = some (.int .i64 bs) := (hc _ _ (by (try simp) <;> omega)).trans (by go_simp)
  have c4_0_2 : w4.cell? ⟨w.heap.size, 2, none⟩ = some (.int .i64 ba) := (hc _ _ (by (try simp) <;> omega)).trans (by go_simp)
  have c4_0_3 : w4.cell? ⟨w.heap.size, 3, none⟩ = some (.int .i64 sw) := (hc _ _ (by (try simp) <;> omega)).trans (by go_simp)
  have c4_0_4 : w4.cell? ⟨w.heap.size, 4, none⟩ = some (.int .i64 ss) := (hc _ _ (by (try simp) <;> omega)).trans (by go_simp)
  have c4_0_5 : w4.cell? ⟨w.heap.size, 5, none⟩ = some (.int .i64 sa) := (hc _ _ (by (try simp) <;> omega)).trans (by go_simp)
  have c4_0_6 : w4.cell? ⟨w.heap.size, 6, none⟩ = some (.int .i64 so) := (hc _ _ (by (try simp) <;> omega)).trans (by go_simp)
  have c4_0_7 : w4.cell? ⟨w.heap.size, 7, none⟩ = some (.int .i64 gw) := (hc _ _ (by (try simp) <;> omega)).trans (by go_simp)
  have c4_0_8 : w4.cell? ⟨w.heap.size, 8, none⟩ = some (.int .i64 gs) := (hc _ _ (by (try simp) <;> omega)).trans (by go_simp)
  have c4_0_9 : w4.cell? ⟨w.heap.size, 9, none⟩ = some (.int .i64 ga) := (hc _ _ (by (try simp) <;> omega)).trans (by go_simp)
  have z4_0 : ∀ j, w4.frozen? ⟨w.heap.size, j, none⟩ = false := fun j => (hf _ _ (by (try simp) <;> omega)).trans (by go_simp)
  have c4_1_0 : w4.cell? ⟨w1.heap.size, 0, none⟩ = some (.int .i64 bw) := (hc _ _ (by (try simp) <;> omega)).trans (by go_simp)
  have c4_1_1 : w4.cell? ⟨w1.heap.size, 1, none⟩ = some (.int .i64 bs) := (hc _ _ (by (try simp) <;> omega)).trans (by go_simp)
  have c4_1_2 : w4.cell? ⟨w1.heap.size, 2, none⟩ = some (.int .i64 ba) := (hc _ _ (by (try simp) <;> omega)).trans (by go_simp)
  have c4_1_3 : w4.cell? ⟨w1.heap.size, 3, none⟩ = some (.int .i64 sw) := (hc _ _ (by (try simp) <;> omega)).trans (by go_simp)
  have c4_1_4 : w4.cell? ⟨w1.heap.size, 4, none⟩ = some (.int .i64 ss) := (hc _ _ (by (try simp) <;> omega)).trans (by go_simp)
  have c4_1_5 : w4.cell? ⟨w1.heap.size, 5, none⟩ = some (.int .i64 sa) := (hc _ _ (by (try simp) <;> omega)).trans (by go_simp)
  have c4_1_6 : w4.cell? ⟨w1.heap.size, 6, none⟩ = some (.int .i64 so) := (hc _ _ (by (try simp) <;> omega)).trans (by go_simp)
  have c4_1_7 : w4.cell? ⟨w1.heap.size, 7, none⟩ = some (.int .i64 gw) := (hc _ _ (by (try simp) <;> omega)).trans (by go_simp)
  have c4_1_8 : w4.cell? ⟨w1.heap.size, 8, none⟩ = some (.int .i64 gs) := (hc _ _ (by (try simp) <;> omega)).trans (by go_simp)
  have c4_1_9 : w4.cell? ⟨w1.heap.size, 9, none⟩ = some (.int .i64 ga) := (hc _ _ (by (try simp) <;> omega)).trans (by go_simp)
  have z4_1 : ∀ j, w4.frozen? ⟨w1.heap.size, j, none⟩ = false := fun j => (hf _ _ (by (try simp) <;> omega)).trans (by go_simp)
  clear hc hf hb4
  go_wp2_with fail
  refine (awake_any _).mono ?_
  rintro e w7 ⟨rfl, hb7⟩
  have HB7 : Kp (Below w.heap.size w w7) := ⟨Below.trans (by have := HB4.out.size; (repeat (with_reducible first | exact HB4.out | refine Below.alloc ?_ ?_ _)); all_goals ((try simp) <;> omega)) (hb7.mono (by have := HB4.out.size; (try simp) <;> omega))⟩
  clear hb7
  go_wp2
  go_ret
  exact ⟨rfl, HB7.out⟩
theorem lawTowards_any (bw bs ba sw ss sa so gw gs ga n : Int) (w : World) : Calls Try.prog 11 #[.agg #[.int .i64 bw, .int .i64 bs, .int .i64 ba, .int .i64 sw, .int .i64 ss, .int .i64 sa, .int .i64 so, .int .i64 gw, .int .i64 gs, .int .i64 ga], .int .i64 n] w (Ends w) := by
  cases h : vatB ⟨⟨bw, bs, ba⟩, ⟨sw, ss, sa, so⟩, ⟨gw, gs, ga⟩⟩ with
  | false => exact towards_inv bw bs ba sw ss sa so gw gs ga n w h
  | true =>
    have hst := steady_iff bw bs ba sw ss sa so gw gs ga
    obtain ⟨t1, t2, -, -⟩ := hour_towards h
    have H1 := fun W : World => Hour_yes bw bs ba sw ss sa so gw gs ga W h
    have H2 := fun W : World => Balance_yes bw bs ba sw ss sa so gw gs ga W h
    have H3 := fun W : World => Steady_yes bw bs ba sw ss sa so gw gs ga W h
    by_cases d0 : ovr so (bal bw sw bs ss - ss) = 0
    · by_cases e0 : ovr so (bal bw sw ba sa - sa) = 0
      · have hh := hst.2 ⟨d0, e0⟩
        have hR : steadyB ⟨⟨bw, bs, ba⟩, ⟨sw, ss, sa, so⟩, ⟨gw, gs, ga⟩⟩ = true := decide_eq_true hh
        rw [hR] at H3
        rw [hh] at t1 t2
        simp only [d0, e0, Int.sub_zero, Int.add_zero] at H1
        by_cases g : n < 0
        · exact towards_O1 bw bs ba sw ss sa so gw gs ga _ _ n w g ⟨H1⟩ ⟨H2⟩ ⟨H3⟩ ⟨t1⟩ ⟨t2⟩
        · by_cases g2 : 1000 < n
          · exact towards_O2 bw bs ba sw ss sa so gw gs ga _ _ n w g g2 ⟨H1⟩ ⟨H2⟩ ⟨H3⟩ ⟨t1⟩ ⟨t2⟩
          · obtain ⟨m, rfl⟩ := Int.eq_ofNat_of_zero_le (show 0 ≤ n by omega)
            have hs := step_wait bw bs ba sw ss sa so gw gs ga m h (by omega)
            rw [hoursN_steady m hh] at hs
            exact towards_I bw bs ba sw ss sa so gw gs ga _ _ m w g g2 ⟨fun W => Do_ok bw bs ba sw ss sa so gw gs ga 1 m _ _ _ _ _ _ _ _ _ _ 0 W ⟨hs⟩ h (by rw [step_iff]; simp only [lim, true_or, if_true]; omega)⟩ ⟨H1⟩ ⟨H2⟩ ⟨H3⟩ ⟨t1⟩ ⟨t2⟩
      · have hR : steadyB ⟨⟨bw, bs, ba⟩, ⟨sw, ss, sa, so⟩, ⟨gw, gs, ga⟩⟩ = false := decide_eq_false (fun hh => e0 (hst.1 hh).2)
        rw [hR] at H3
        simp only [d0, Int.sub_zero, Int.add_zero] at H1
        have t1' : towards ss ss (bal bw sw bs ss) := by
          have := t1
          unfold hour at this
          simp only [d0, Int.add_zero] at this
          exact this
        exact towards_F2 bw bs ba sw ss sa so gw gs ga _ _ _ _ _ n w (by rw [beq_eq_false_iff_ne]; omega) ⟨H1⟩ ⟨H2⟩ ⟨H3⟩ ⟨t1'⟩ ⟨t2⟩
    · have hR : steadyB ⟨⟨bw, bs, ba⟩, ⟨sw, ss, sa, so⟩, ⟨gw, gs, ga⟩⟩ = false := decide_eq_false (fun hh => d0 (hst.1 hh).1)
      rw [hR] at H3
      exact towards_F1 bw bs ba sw ss sa so gw gs ga _ _ _ _ _ _ n w (by rw [beq_eq_false_iff_ne]; omega) ⟨H1⟩ ⟨H2⟩ ⟨H3⟩ ⟨t1⟩ ⟨t2⟩
end Go.Proofs.Ytopbbghjmdhplaa.Bt
