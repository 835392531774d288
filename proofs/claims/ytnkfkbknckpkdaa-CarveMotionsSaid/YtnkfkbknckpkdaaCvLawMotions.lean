/-
  THE WALK of the law CarveMotions.
-/
import Derived.Test.YtnkfkbknckpkdaaCvMoveB
import Derived.Test.YtnkfkbknckpkdaaCvRefMo
import Derived.Test.YtnkfkbknckpkdaaCvGrKit
import Derived.Test.YtnkfkbknckpkdaaCvAwake
namespace Go.Proofs.Ytnkfkbknckpkdaa.Cv
open Go Go.RowKit Go.Sort

def EndsM (w : World) (e : Ending) (w' : World) : Prop := e = .returned (.bool true) ∧ Below w.heap.size w w'
/-- A block and an error that two functions answer alike. -/
def MvPost (E S : Int) (L : List Bool) (W : World) (e : Ending) (w' : World) : Prop := ∃ g c, e = .returned (.tuple #[.agg #[.int .i64 S, .slice g L.length c], .int .i64 E]) ∧ LB w' (.slice g L.length c) L ∧ Below W.heap.size W w'
theorem mv_no {E : Int} {W : World} {e : Ending} {w' : World} (h : OfNo W E e w') : MvPost E 0 [] W e w' := ⟨none, 0, h.1, LB.nil _, h.2⟩
theorem mv_yes {s : Int} {L : List Bool} {W : World} {e : Ending} {w' : World} (h : ∃ r, e = .returned (.tuple #[r, .int .i64 0]) ∧ VF W.heap.size w' r s L ∧ Below W.heap.size W w') : MvPost 0 s L W e w' := by
  obtain ⟨r, rfl, ⟨u, rfl, hu⟩, hb⟩ := h
  obtain ⟨g, c, rfl⟩ := hu.1.shape
  exact ⟨g, c, rfl, hu.1, hb⟩
theorem block_side {s : Int} {m : Nat} (hb : blockB s m = true) : ∃ x : Nat, s = x ∧ 1 ≤ x ∧ x ≤ 10 ∧ m = x * x * x := by
  unfold blockB at hb
  rw [Bool.and_eq_true, decide_eq_true_eq] at hb
  obtain ⟨h1, h2⟩ := hb
  have h3 := side_iff.1 h1
  obtain ⟨x, rfl⟩ : ∃ x : Nat, s = x := ⟨s.toNat, by omega⟩
  rw [← Int.natCast_mul, ← Int.natCast_mul] at h2
  exact ⟨x, rfl, by omega, by omega, Int.ofNat.inj h2⟩
theorem rMirrored_in (s k : Nat) (hk : k < 3) (u : Value) (h : List Bool) (w : World) (hs : 1 ≤ s) (hs2 : s ≤ 10) (hl : h.length = s * s * s) (hu : LB w u h) :
    Calls Try.prog 11 #[.agg #[.int .i64 s, u], .int .i64 (k : Int)] w fun e w' => ∃ r, e = .returned (.tuple #[r, .int .i64 0]) ∧ VF w.heap.size w' r s (setB s ((grainsL s h).map (mirG s k))) ∧ Below w.heap.size w w' := by
  obtain rfl | rfl | rfl : k = 0 ∨ k = 1 ∨ k = 2 := by omega
  · exact rMir0 s u h w hs hs2 hl hu
  · exact rMir1 s u h w hs hs2 hl hu
  · exact rMir2 s u h w hs hs2 hl hu
theorem mirrored_two (s ax : Int) (u : Value) (h : List Bool) (w : World) (hu : LB w u h) : ∃ E S L, L.length ≤ 1000 ∧
    (∀ W, Below w.heap.size w W → Calls Try.prog 10 #[.agg #[.int .i64 s, u], .int .i64 ax] W (MvPost E S L W)) ∧ (∀ W, Below w.heap.size w W → Calls Try.prog 11 #[.agg #[.int .i64 s, u], .int .i64 ax] W (MvPost E S L W)) := by
  cases hb : blockB s h.length with
  | false =>
    obtain ⟨g, c, rfl⟩ := hu.shape
    exact ⟨1, 0, [], by simp, fun W _ => (Mirrored_inv s ax g h.length c W hb).mono fun _ _ => mv_no, fun W _ => (rMirrored_inv s ax g h.length c W hb).mono fun _ _ => mv_no⟩
  | true =>
    cases hx : ixB ax 3 with
    | false =>
      obtain ⟨g, c, rfl⟩ := hu.shape
      exact ⟨7, 0, [], by simp, fun W _ => (Mirrored_axis s ax g h.length c W hb hx).mono fun _ _ => mv_no, fun W _ => (rMirrored_axis s ax g h.length c W hb hx).mono fun _ _ => mv_no⟩
    | true =>
      obtain ⟨x, rfl, h1, h2, h3⟩ := block_side hb
      obtain ⟨k, rfl, hk⟩ : ∃ k : Nat, ax = k ∧ k < 3 := by
        unfold ixB at hx
        simp only [Bool.and_eq_true, decide_eq_true_eq] at hx
        exact ⟨ax.toNat, by omega, by omega⟩
      refine ⟨0, x, setB x ((grainsL x h).map (mirG x k)), ?_, fun W hW => (Mirrored_in x k hk u h W h1 h2 h3 (hu.below hW)).mono fun _ _ => mv_yes, fun W hW => (rMirrored_in x k hk u h W h1 h2 h3 (hu.below hW)).mono fun _ _ => mv_yes⟩
      unfold setB
      rw [List.length_map, places_len]
      exact (cube_bd h2).2
theorem turned_two (s q : Int) (u : Value) (h : List Bool) (w : World) (hu : LB w u h) : ∃ E S L, L.length ≤ 1000 ∧
    (∀ W, Below w.heap.size w W → Calls Try.prog 12 #[.agg #[.int .i64 s, u], .int .i64 q] W (MvPost E S L W)) ∧ (∀ W, Below w.heap.size w W → Calls Try.prog 13 #[.agg #[.int .i64 s, u], .int .i64 q] W (MvPost E S L W)) := by
  cases hb : blockB s h.length with
  | false =>
    obtain ⟨g, c, rfl⟩ := hu.shape
    exact ⟨1, 0, [], by simp, fun W _ => (Turned_inv s q g h.length c W hb).mono fun _ _ => mv_no, fun W _ => (rTurned_inv s q g h.length c W hb).mono fun _ _ => mv_no⟩
  | true =>
    obtain ⟨x, rfl, h1, h2, h3⟩ := block_side hb
    refine ⟨0, x, setB x ((grainsL x h).map (rotN x (quart q))), ?_, fun W hW => (Turned_in x q u h W h1 h2 h3 (hu.below hW)).mono fun _ _ => mv_yes, fun W hW => (rTurn x q u h W h1 h2 h3 (hu.below hW)).mono fun _ _ => mv_yes⟩
    unfold setB
    rw [List.length_map, places_len]
    exact (cube_bd h2).2
theorem lm_light (s ax q : Int) (g1 : Option Addr) (m c1 : Nat) (w : World) (hn : decide (m ≤ 2000) = false) : Calls Try.prog 3 #[.agg #[.int .i64 s, .slice g1 m c1], .int .i64 ax, .int .i64 q] w (EndsM w) := by
  have HLG : Kp (∀ W Y, W.cell? ⟨Y, 0, none⟩ = some (.int .i64 s) → W.cell? ⟨Y, 1, none⟩ = some (.slice g1 m c1) → Calls Try.prog 8 #[.slice (some ⟨Y, 0, none⟩) 1 1] W fun e w' => e = .returned (.bool false) ∧ Below W.heap.size W w') := ⟨fun W Y h0 h1 => hn ▸ light_any s g1 m c1 Y W h0 h1⟩
  clear hn
  go_enter Try.func3, Try.ntmps3
  go_wp2_with fail
  refine (HLG.out _ _ (by go_simp) (by go_simp)).mono ?_
  rintro en w1 ⟨rfl, hb1⟩
  have HB1 : Kp (Below w.heap.size w w1) := ⟨Below.trans (by repeat (first | refine Below.alloc ?_ (by (try simp) <;> omega) _ | refine bDrewN ?_ _ | refine Below.drew ?_ | refine Below.setCell ?_ (by (try simp) <;> omega) _ | exact Below.refl _ _)) (hb1.mono (by (try simp) <;> omega))⟩
  have hz1_0 : w.heap.size < w1.heap.size := by have := hb1.size; (try simp at this); omega
  obtain ⟨hc, hf⟩ := bcell hb1
  have c1_0_0 : w1.cell? ⟨w.heap.size, 0, none⟩ = some (.int .i64 s) := (hc _ _ (by (try simp) <;> omega)).trans (by go_simp)
  have c1_0_1 : w1.cell? ⟨w.heap.size, 1, none⟩ = some ((.slice g1 m c1)) := (hc _ _ (by (try simp) <;> omega)).trans (by go_simp)
  have z1_0 : ∀ j, w1.frozen? ⟨w.heap.size, j, none⟩ = false := fun j => (hf _ _ (by (try simp) <;> omega)).trans (by go_simp)
  clear hc hf hb1
  go_wp2_with fail
  refine (awake_any _).mono ?_
  rintro en wz ⟨rfl, hbz⟩
  have HBZ : Kp (Below w.heap.size w wz) := ⟨(HB1.out).trans (hbz.mono (HB1.out).size)⟩
  clear hbz
  go_wp2
  go_ret
  exact ⟨rfl, HBZ.out⟩
set_option maxRecDepth 100000 in
set_option maxHeartbeats 2000000 in
theorem lm_main (s ax q : Int) (g1 : Option Addr) (m c1 : Nat) (E1 S1 E2 S2 : Int) (L1 L2 : List Bool) (M1 M2 : Nat) (w : World) (hn : decide (m ≤ 2000) = true)
    (HMI : Kp (∀ W, Below w.heap.size w W → Calls Try.prog 10 #[.agg #[.int .i64 s, .slice g1 m c1], .int .i64 ax] W fun e w' => ∃ g c, e = .returned (.tuple #[.agg #[.int .i64 S1, .slice g M1 c], .int .i64 E1]) ∧ LB w' (.slice g M1 c) L1 ∧ Below W.heap.size W w'))
    (HRM : Kp (∀ W, Below w.heap.size w W → Calls Try.prog 11 #[.agg #[.int .i64 s, .slice g1 m c1], .int .i64 ax] W fun e w' => ∃ g c, e = .returned (.tuple #[.agg #[.int .i64 S1, .slice g M1 c], .int .i64 E1]) ∧ LB w' (.slice g M1 c) L1 ∧ Below W.heap.size W w'))
    (HTU : Kp (∀ W, Below w.heap.size w W → Calls Try.prog 12 #[.agg #[.int .i64 s, .slice g1 m c1], .int .i64 q] W fun e w' => ∃ g c, e = .returned (.tuple #[.agg #[.int .i64 S2, .slice g M2 c], .int .i64 E2]) ∧ LB w' (.slice g M2 c) L2 ∧ Below W.heap.size W w'))
    (HRT : Kp (∀ W, Below w.heap.size w W → Calls Try.prog 13 #[.agg #[.int .i64 s, .slice g1 m c1], .int .i64 q] W fun e w' => ∃ g c, e = .returned (.tuple #[.agg #[.int .i64 S2, .slice g M2 c], .int .i64 E2]) ∧ LB w' (.slice g M2 c) L2 ∧ Below W.heap.size W w'))
    (HSA : Kp (∀ W g g' c c', LB W (.slice g M1 c) L1 → LB W (.slice g' M1 c') L1 → Calls Try.prog 14 #[.agg #[.int .i64 S1, .slice g M1 c], .agg #[.int .i64 S1, .slice g' M1 c']] W fun e w' => e = .returned (.bool true) ∧ Below W.heap.size W w'))
    (HSB : Kp (∀ W g g' c c', LB W (.slice g M2 c) L2 → LB W (.slice g' M2 c') L2 → Calls Try.prog 14 #[.agg #[.int .i64 S2, .slice g M2 c], .agg #[.int .i64 S2, .slice g' M2 c']] W fun e w' => e = .returned (.bool true) ∧ Below W.heap.size W w')) :
    Calls Try.prog 3 #[.agg #[.int .i64 s, .slice g1 m c1], .int .i64 ax, .int .i64 q] w (EndsM w) := by
  have HLG : Kp (∀ W Y, W.cell? ⟨Y, 0, none⟩ = some (.int .i64 s) → W.cell? ⟨Y, 1, none⟩ = some (.slice g1 m c1) → Calls Try.prog 8 #[.slice (some ⟨Y, 0, none⟩) 1 1] W fun e w' => e = .returned (.bool true) ∧ Below W.heap.size W w') := ⟨fun W Y h0 h1 => hn ▸ light_any s g1 m c1 Y W h0 h1⟩
  clear hn
  go_enter Try.func3, Try.ntmps3
  go_wp2_with fail
  refine (HLG.out _ _ (by go_simp) (by go_simp)).mono ?_
  rintro en w1 ⟨rfl, hb1⟩
  have HB1 : Kp (Below w.heap.size w w1) := ⟨Below.trans (by repeat (first | refine Below.alloc ?_ (by (try simp) <;> omega) _ | refine bDrewN ?_ _ | refine Below.drew ?_ | refine Below.setCell ?_ (by (try simp) <;> omega) _ | exact Below.refl _ _)) (hb1.mono (by (try simp) <;> omega))⟩
  have hz1_0 : w.heap.size < w1.heap.size := by have := hb1.size; (try simp at this); omega
  obtain ⟨hc, hf⟩ := bcell hb1
  have c1_0_0 : w1.cell? ⟨w.heap.size, 0, none⟩ = some (.int .i64 s) := (hc _ _ (by (try simp) <;> omega)).trans (by go_simp)
  have c1_0_1 : w1.cell? ⟨w.heap.size, 1, none⟩ = some ((.slice g1 m c1)) := (hc _ _ (by (try simp) <;> omega)).trans (by go_simp)
  have z1_0 : ∀ j, w1.frozen? ⟨w.heap.size, j, none⟩ = false := fun j => (hf _ _ (by (try simp) <;> omega)).trans (by go_simp)
  clear hc hf hb1
  go_wp2_with fail
  refine (HMI.out _ HB1.out).mono ?_
  rintro en w2 ⟨gx, cx, rfl, hx, hb2⟩
  have HX := Kp.mk hx
  clear hx
  have HB2 : Kp (Below w.heap.size w w2) := ⟨Below.trans (by repeat (first | refine Below.alloc ?_ (by have := HB1.out.size; (try simp) <;> omega) _ | refine bDrewN ?_ _ | refine Below.drew ?_ | refine Below.setCell ?_ (by have := HB1.out.size; (try simp) <;> omega) _ | exact HB1.out)) (hb2.mono (by have := HB1.out.size; (try simp) <;> omega))⟩
  have hz2_0 : w.heap.size < w2.heap.size := by have := hb2.size; (try simp at this); omega
  obtain ⟨hc, hf⟩ := bcell hb2
  have c2_0_0 : w2.cell? ⟨w.heap.size, 0, none⟩ = some (.int .i64 s) := (hc _ _ (by (try simp) <;> omega)).trans (by go_simp)
  have c2_0_1 : w2.cell? ⟨w.heap.size, 1, none⟩ = some ((.slice g1 m c1)) := (hc _ _ (by (try simp) <;> omega)).trans (by go_simp)
  have z2_0 : ∀ j, w2.frozen? ⟨w.heap.size, j, none⟩ = false := fun j => (hf _ _ (by (try simp) <;> omega)).trans (by go_simp)
  clear hc hf hb2
  go_wp2_with fail
  refine (HRM.out _ (HB2.out.alloc HB2.out.size _)).mono ?_
  rintro en w3 ⟨gy, cy, rfl, hy, hb3⟩
  have HY := Kp.mk hy
  have HX := Kp.mk ((HX.out.below ((Below.refl _ _).alloc (Nat.le_refl _) _)).below hb3)
  clear hy
  have HB3 : Kp (Below w.heap.size w w3) := ⟨Below.trans (by repeat (first | refine Below.alloc ?_ (by have := HB2.out.size; (try simp) <;> omega) _ | refine bDrewN ?_ _ | refine Below.drew ?_ | refine Below.setCell ?_ (by have := HB2.out.size; (try simp) <;> omega) _ | exact HB2.out)) (hb3.mono (by have := HB2.out.size; (try simp) <;> omega))⟩
  have hz3_0 : w.heap.size < w3.heap.size := by have := hb3.size; (try simp at this); omega
  have hz3_1 : w2.heap.size < w3.heap.size := by have := hb3.size; (try simp at this); omega
  obtain ⟨hc, hf⟩ := bcell hb3
  have c3_0_0 : w3.cell? ⟨w.heap.size, 0, none⟩ = some (.int .i64 s) := (hc _ _ (by (try simp) <;> omega)).trans (by go_simp)
  have c3_0_1 : w3.cell? ⟨w.heap.size, 1, none⟩ = some ((.slice g1 m c1)) := (hc _ _ (by (try simp) <;> omega)).trans (by go_simp)
  have z3_0 : ∀ j, w3.frozen? ⟨w.heap.size, j, none⟩ = false := fun j => (hf _ _ (by (try simp) <;> omega)).trans (by go_simp)
  have c3_1_0 : w3.cell? ⟨w2.heap.size, 0, none⟩ = some (.int .i64 S1) := (hc _ _ (by (try simp) <;> omega)).trans (by go_simp)
  have c3_1_1 : w3.cell? ⟨w2.heap.size, 1, none⟩ = some ((.slice gx M1 cx)) := (hc _ _ (by (try simp) <;> omega)).trans (by go_simp)
  have z3_1 : ∀ j, w3.frozen? ⟨w2.heap.size, j, none⟩ = false := fun j => (hf _ _ (by (try simp) <;> omega)).trans (by go_simp)
  clear hc hf hb3
  go_wp2_with fail
  refine (HTU.out _ (HB3.out.alloc HB3.out.size _)).mono ?_
  rintro en w4 ⟨gu, cu, rfl, hu, hb4⟩
  have HU := Kp.mk hu
  have HX := Kp.mk ((HX.out.below ((Below.refl _ _).alloc (Nat.le_refl _) _)).below hb4)
  have HY := Kp.mk ((HY.out.below ((Below.refl _ _).alloc (Nat.le_refl _) _)).below hb4)
  clear hu
  have HB4 : Kp (Below w.heap.size w w4) := ⟨Below.trans (by repeat (first | refine Below.alloc ?_ (by have := HB3.out.size; (try simp) <;> omega) _ | refine bDrewN ?_ _ | refine Below.drew ?_ | refine Below.setCell ?_ (by have := HB3.out.size; (try simp) <;> omega) _ | exact HB3.out)) (hb4.mono (by have := HB3.out.size; (try simp) <;> omega))⟩
  have hz4_0 : w.heap.size < w4.heap.size := by have := hb4.size; (try simp at this); omega
  have hz4_1 : w2.heap.size < w4.heap.size := by have := hb4.size; (try simp at this); omega
  have hz4_2 : w3.heap.size < w4.heap.size := by have := hb4.size; (try simp at this); omega
  obtain ⟨hc, hf⟩ := bcell hb4
  have c4_0_0 : w4.cell? ⟨w.heap.size, 0, none⟩ = some (.int .i64 s) := (hc _ _ (by (try simp) <;> omega)).trans (by go_simp)
  have c4_0_1 : w4.cell? ⟨w.heap.size, 1, none⟩ = some ((.slice g1 m c1)) := (hc _ _ (by (try simp) <;> omega)).trans (by go_simp)
  have z4_0 : ∀ j, w4.frozen? ⟨w.heap.size, j, none⟩ = false := fun j => (hf _ _ (by (try simp) <;> omega)).trans (by go_simp)
  have c4_1_0 : w4.cell? ⟨w2.heap.size, 0, none⟩ = some (.int .i64 S1) := (hc _ _ (by (try simp) <;> omega)).trans (by go_simp)
  have c4_1_1 : w4.cell? ⟨w2.heap.size, 1, none⟩ = some ((.slice gx M1 cx)) := (hc _ _ (by (try simp) <;> omega)).trans (by go_simp)
  have z4_1 : ∀ j, w4.frozen? ⟨w2.heap.size, j, none⟩ = false := fun j => (hf _ _ (by (try simp) <;> omega)).trans (by go_simp)
  have c4_2_0 : w4.cell? ⟨w3.heap.size, 0, none⟩ = some (.int .i64 S1) := (hc _ _ (by (try simp) <;> omega)).trans (by go_simp)
  have c4_2_1 : w4.cell? ⟨w3.heap.size, 1, none⟩ = some ((.slice gy M1 cy)) := (hc _ _ (by (try simp) <;> omega)).trans (by go_simp)
  have z4_2 : ∀ j, w4.frozen? ⟨w3.heap.size, j, none⟩ = false := fun j => (hf _ _ (by (try simp) <;> omega)).trans (by go_simp)
  clear hc hf hb4
  go_wp2_with fail
  refine (HRT.out _ (HB4.out.alloc HB4.out.size _)).mono ?_
  rintro en w5 ⟨gv, cv, rfl, hv, hb5⟩
  have HV := Kp.mk hv
  have HX := Kp.mk ((HX.out.below ((Below.refl _ _).alloc (Nat.le_refl _) _)).below hb5)
  have HY := Kp.mk ((HY.out.below ((Below.refl _ _).alloc (Nat.le_refl _) _)).below hb5)
  have HU := Kp.mk ((HU.out.below ((Below.refl _ _).alloc (Nat.le_refl _) _)).below hb5)
  clear hv
  have HB5 : Kp (Below w.heap.size w w5) := ⟨Below.trans (by repeat (first | refine Below.alloc ?_ (by have := HB4.out.size; (try simp) <;> omega) _ | refine bDrewN ?_ _ | refine Below.drew ?_ | refine Below.setCell ?_ (by have := HB4.out.size; (try simp) <;> omega) _ | exact HB4.out)) (hb5.mono (by have := HB4.out.size; (try simp) <;> omega))⟩
  have hz5_0 : w2.heap.size < w5.heap.size := by have := hb5.size; (try simp at this); omega
  have hz5_1 : w3.heap.size < w5.heap.size := by have := hb5.size; (try simp at this); omega
  have hz5_2 : w4.heap.size < w5.heap.size := by have := hb5.size; (try simp at this); omega
  obtain ⟨hc, hf⟩ := bcell hb5
  have c5_0_0 : w5.cell? ⟨w2.heap.size, 0, none⟩ = some (.int .i64 S1) := (hc _ _ (by (try simp) <;> omega)).trans (by go_simp)
  have c5_0_1 : w5.cell? ⟨w2.heap.size, 1, none⟩ = some ((.slice gx M1 cx)) := (hc _ _ (by (try simp) <;> omega)).trans (by go_simp)
  have z5_0 : ∀ j, w5.frozen? ⟨w2.heap.size, j, none⟩ = false := fun j => (hf _ _ (by (try simp) <;> omega)).trans (by go_simp)
  have c5_1_0 : w5.cell? ⟨w3.heap.size, 0, none⟩ = some (.int .i64 S1) := (hc _ _ (by (try simp) <;> omega)).trans (by go_simp)
  have c5_1_1 : w5.cell? ⟨w3.heap.size, 1, none⟩ = some ((.slice gy M1 cy)) := (hc _ _ (by (try simp) <;> omega)).trans (by go_simp)
  have z5_1 : ∀ j, w5.frozen? ⟨w3.heap.size, j, none⟩ = false := fun j => (hf _ _ (by (try simp) <;> omega)).trans (by go_simp)
  have c5_2_0 : w5.cell? ⟨w4.heap.size, 0, none⟩ = some (.int .i64 S2) := (hc _ _ (by (try simp) <;> omega)).trans (by go_simp)
  have c5_2_1 : w5.cell? ⟨w4.heap.size, 1, none⟩ = some ((.slice gu M2 cu)) := (hc _ _ (by (try simp) <;> omega)).trans (by go_simp)
  have z5_2 : ∀ j, w5.frozen? ⟨w4.heap.size, j, none⟩ = false := fun j => (hf _ _ (by (try simp) <;> omega)).trans (by go_simp)
  clear hc hf hb5
  go_wp2_with fail
  refine (HSA.out _ _ _ _ _ (HX.out.below ((Below.refl _ _).alloc (Nat.le_refl _) _)) (HY.out.below ((Below.refl _ _).alloc (Nat.le_refl _) _))).mono ?_
  rintro en w6 ⟨rfl, hb6⟩
  have HU := Kp.mk ((HU.out.below ((Below.refl _ _).alloc (Nat.le_refl _) _)).below hb6)
  have HV := Kp.mk ((HV.out.below ((Below.refl _ _).alloc (Nat.le_refl _) _)).below hb6)
  clear HX HY
  have HB6 : Kp (Below w.heap.size w w6) := ⟨Below.trans (by repeat (first | refine Below.alloc ?_ (by have := HB5.out.size; (try simp) <;> omega) _ | refine bDrewN ?_ _ | refine Below.drew ?_ | refine Below.setCell ?_ (by have := HB5.out.size; (try simp) <;> omega) _ | exact HB5.out)) (hb6.mono (by have := HB5.out.size; (try simp) <;> omega))⟩
  have hz6_0 : w4.heap.size < w6.heap.size := by have := hb6.size; (try simp at this); omega
  have hz6_1 : w5.heap.size < w6.heap.size := by have := hb6.size; (try simp at this); omega
  obtain ⟨hc, hf⟩ := bcell hb6
  have c6_0_0 : w6.cell? ⟨w4.heap.size, 0, none⟩ = some (.int .i64 S2) := (hc _ _ (by (try simp) <;> omega)).trans (by go_simp)
  have c6_0_1 : w6.cell? ⟨w4.heap.size, 1, none⟩ = some ((.slice gu M2 cu)) := (hc _ _ (by (try simp) <;> omega)).trans (by go_simp)
  have z6_0 : ∀ j, w6.frozen? ⟨w4.heap.size, j, none⟩ = false := fun j => (hf _ _ (by (try simp) <;> omega)).trans (by go_simp)
  have c6_1_0 : w6.cell? ⟨w5.heap.size, 0, none⟩ = some (.int .i64 S2) := (hc _ _ (by (try simp) <;> omega)).trans (by go_simp)
  have c6_1_1 : w6.cell? ⟨w5.heap.size, 1, none⟩ = some ((.slice gv M2 cv)) := (hc _ _ (by (try simp) <;> omega)).trans (by go_simp)
  have z6_1 : ∀ j, w6.frozen? ⟨w5.heap.size, j, none⟩ = false := fun j => (hf _ _ (by (try simp) <;> omega)).trans (by go_simp)
  clear hc hf hb6
  go_wp2_with fail
  refine (HSB.out _ _ _ _ _ HU.out HV.out).mono ?_
  rintro en w7 ⟨rfl, hb7⟩
  have HB7 := Kp.mk (HB6.out.trans (hb7.mono HB6.out.size))
  clear hb7
  go_wp2_with fail
  refine (awake_any _).mono ?_
  rintro en wz ⟨rfl, hbz⟩
  have HBZ : Kp (Below w.heap.size w wz) := ⟨(HB7.out).trans (hbz.mono (HB7.out).size)⟩
  clear hbz
  go_wp2
  go_ret
  exact ⟨rfl, HBZ.out⟩
theorem lawMotions_any (s ax q : Int) (u : Value) (h : List Bool) (w : World) (hu : LB w u h) : Calls Try.prog 3 #[.agg #[.int .i64 s, u], .int .i64 ax, .int .i64 q] w (EndsM w) := by
  obtain ⟨E1, S1, L1, l1, a1, b1⟩ := mirrored_two s ax u h w hu
  obtain ⟨E2, S2, L2, l2, a2, b2⟩ := turned_two s q u h w hu
  obtain ⟨g, c, rfl⟩ := hu.shape
  cases hn : decide (h.length ≤ 2000) with
  | false => exact lm_light s ax q g h.length c w hn
  | true => exact lm_main s ax q g h.length c E1 S1 E2 S2 L1 L2 L1.length L2.length w hn ⟨a1⟩ ⟨b1⟩ ⟨a2⟩ ⟨b2⟩ ⟨fun W g g' c c' k1 k2 => rsame_yes S1 _ _ L1 W (by omega) k1 k2⟩ ⟨fun W g g' c c' k1 k2 => rsame_yes S2 _ _ L2 W (by omega) k1 k2⟩
end Go.Proofs.Ytnkfkbknckpkdaa.Cv
