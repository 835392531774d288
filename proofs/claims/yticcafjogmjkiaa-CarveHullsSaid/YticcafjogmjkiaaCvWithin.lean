/-
  WALKS (layer 5, carve): whether a block is within another.
-/
import Derived.Test.YticcafjogmjkiaaCvCarved
namespace Go.Proofs.Yticcafjogmjkiaa.Cv
open Go Go.RowKit Go.Sort
attribute [local go_sem] Oper.semAt_some

def alikeB (s t : Int) (m n : Nat) : Bool := blockB s m && (blockB t n && decide (s = t))
theorem alike_any (s t : Int) (g1 g2 : Option Addr) (m n c1 c2 : Nat) (w : World) : Calls Try.prog 103 #[.agg #[.int .i64 s, .slice g1 m c1], .agg #[.int .i64 t, .slice g2 n c2]] w fun e w' => e = .returned (.bool (alikeB s t m n)) ∧ Below w.heap.size w w' := by
  have H1 : Kp (∀ W, Calls Try.prog 17 #[.agg #[.int .i64 s, .slice g1 m c1]] W fun e w' => e = .returned (.bool (blockB s m)) ∧ Below W.heap.size W w') := ⟨fun W => ValidBlock_any s g1 m c1 W⟩
  have H2 : Kp (∀ W, Calls Try.prog 17 #[.agg #[.int .i64 t, .slice g2 n c2]] W fun e w' => e = .returned (.bool (blockB t n)) ∧ Below W.heap.size W w') := ⟨fun W => ValidBlock_any t g2 n c2 W⟩
  have HR : Kp (alikeB s t m n = (blockB s m && (blockB t n && decide (s = t)))) := ⟨rfl⟩
  obtain ⟨R, hR⟩ : ∃ R, alikeB s t m n = R := ⟨_, rfl⟩
  rw [hR] at HR ⊢
  clear hR
  cases h1 : blockB s m with
  | false =>
    rw [h1] at H1 HR
    clear h1
    go_enter Try.func103, Try.ntmps103
    go_wp2_with fail
    refine (H1.out _).mono ?_
    rintro en w1 ⟨rfl, hb1⟩
    have HB1 : Kp (Below w.heap.size w w1) := ⟨Below.trans (by repeat (first | exact Below.refl _ _ | refine Below.alloc ?_ (by simp <;> omega) _ | refine bDrewN ?_ _ | refine Below.drew ?_)) (hb1.mono (by simp <;> omega))⟩
    clear hb1
    go_wp2
    go_ret
    exact ⟨ret_bool HR.out.symm, HB1.out⟩
  | true =>
    rw [h1] at H1 HR
    clear h1
    cases h2 : blockB t n with
    | false =>
      rw [h2] at H2 HR
      clear h2
      go_enter Try.func103, Try.ntmps103
      go_wp2_with fail
      refine (H1.out _).mono ?_
      rintro en w1 ⟨rfl, hb1⟩
      have HB1 : Kp (Below w.heap.size w w1) := ⟨Below.trans (by repeat (first | refine Below.alloc ?_ (by (try simp) <;> omega) _ | refine bDrewN ?_ _ | refine Below.drew ?_ | refine Below.setCell ?_ (by (try simp) <;> omega) _ | exact Below.refl _ _)) (hb1.mono (by (try simp) <;> omega))⟩
      have hz1_0 : w.heap.size < w1.heap.size := by have := hb1.size; (try simp at this); omega
      have hz1_1 : w.heap.size + 1 < w1.heap.size := by have := hb1.size; (try simp at this); omega
      obtain ⟨hc, hf⟩ := bcell hb1
      have c1_0_0 : w1.cell? ⟨w.heap.size, 0, none⟩ = some (.int .i64 s) := (hc _ _ (by (try simp) <;> omega)).trans (by go_simp)
      have c1_0_1 : w1.cell? ⟨w.heap.size, 1, none⟩ = some ((.slice g1 m c1)) := (hc _ _ (by (try simp) <;> omega)).trans (by go_simp)
      have z1_0 : ∀ j, w1.frozen? ⟨w.heap.size, j, none⟩ = false := fun j => (hf _ _ (by (try simp) <;> omega)).trans (by go_simp)
      have c1_1_0 : w1.cell? ⟨w.heap.size + 1, 0, none⟩ = some (.int .i64 t) := (hc _ _ (by (try simp) <;> omega)).trans (by go_simp)
      have c1_1_1 : w1.cell? ⟨w.heap.size + 1, 1, none⟩ = some ((.slice g2 n c2)) := (hc _ _ (by (try simp) <;> omega)).trans (by go_simp)
      have z1_1 : ∀ j, w1.frozen? ⟨w.heap.size + 1, j, none⟩ = false := fun j => (hf _ _ (by (try simp) <;> omega)).trans (by go_simp)
      clear hc hf hb1
      go_wp2_with fail
      refine (H2.out _).mono ?_
      rintro en w2 ⟨rfl, hb2⟩
      have HB2 : Kp (Below w.heap.size w w2) := ⟨Below.trans (by repeat (first | refine Below.alloc ?_ (by have := HB1.out.size; (try simp) <;> omega) _ | refine bDrewN ?_ _ | refine Below.drew ?_ | refine Below.setCell ?_ (by have := HB1.out.size; (try simp) <;> omega) _ | exact HB1.out)) (hb2.mono (by have := HB1.out.size; (try simp) <;> omega))⟩
      have hz2_0 : w.heap.size < w2.heap.size := by have := hb2.size; (try simp at this); omega
      have hz2_1 : w.heap.size + 1 < w2.heap.size := by have := hb2.size; (try simp at this); omega
      obtain ⟨hc, hf⟩ := bcell hb2
      have c2_0_0 : w2.cell? ⟨w.heap.size, 0, none⟩ = some (.int .i64 s) := (hc _ _ (by (try simp) <;> omega)).trans (by go_simp)
      have c2_0_1 : w2.cell? ⟨w.heap.size, 1, none⟩ = some ((.slice g1 m c1)) := (hc _ _ (by (try simp) <;> omega)).trans (by go_simp)
      have z2_0 : ∀ j, w2.frozen? ⟨w.heap.size, j, none⟩ = false := fun j => (hf _ _ (by (try simp) <;> omega)).trans (by go_simp)
      have c2_1_0 : w2.cell? ⟨w.heap.size + 1, 0, none⟩ = some (.int .i64 t) := (hc _ _ (by (try simp) <;> omega)).trans (by go_simp)
      have c2_1_1 : w2.cell? ⟨w.heap.size + 1, 1, none⟩ = some ((.slice g2 n c2)) := (hc _ _ (by (try simp) <;> omega)).trans (by go_simp)
      have z2_1 : ∀ j, w2.frozen? ⟨w.heap.size + 1, j, none⟩ = false := fun j => (hf _ _ (by (try simp) <;> omega)).trans (by go_simp)
      clear hc hf hb2 c1_0_0 c1_0_1 z1_0 c1_1_0 c1_1_1 z1_1
      go_wp2
      go_ret
      exact ⟨ret_bool HR.out.symm, HB2.out⟩
    | true =>
      rw [h2] at H2 HR
      clear h2
      by_cases h3 : s = t
      · rw [decide_eq_true h3] at HR
        have hz : (s == t) = true := by rw [beq_iff_eq]; exact h3
        subst h3
        go_enter Try.func103, Try.ntmps103
        go_wp2_with fail
        refine (H1.out _).mono ?_
        rintro en w1 ⟨rfl, hb1⟩
        have HB1 : Kp (Below w.heap.size w w1) := ⟨Below.trans (by repeat (first | refine Below.alloc ?_ (by (try simp) <;> omega) _ | refine bDrewN ?_ _ | refine Below.drew ?_ | refine Below.setCell ?_ (by (try simp) <;> omega) _ | exact Below.refl _ _)) (hb1.mono (by (try simp) <;> omega))⟩
        have hz1_0 : w.heap.size < w1.heap.size := by have := hb1.size; (try simp at this); omega
        have hz1_1 : w.heap.size + 1 < w1.heap.size := by have := hb1.size; (try simp at this); omega
        obtain ⟨hc, hf⟩ := bcell hb1
        have c1_0_0 : w1.cell? ⟨w.heap.size, 0, none⟩ = some (.int .i64 s) := (hc _ _ (by (try simp) <;> omega)).trans (by go_simp)
        have c1_0_1 : w1.cell? ⟨w.heap.size, 1, none⟩ = some ((.slice g1 m c1)) := (hc _ _ (by (try simp) <;> omega)).trans (by go_simp)
        have z1_0 : ∀ j, w1.frozen? ⟨w.heap.size, j, none⟩ = false := fun j => (hf _ _ (by (try simp) <;> omega)).trans (by go_simp)
        have c1_1_0 : w1.cell? ⟨w.heap.size + 1, 0, none⟩ = some (.int .i64 s) := (hc _ _ (by (try simp) <;> omega)).trans (by go_simp)
        have c1_1_1 : w1.cell? ⟨w.heap.size + 1, 1, none⟩ = some ((.slice g2 n c2)) := (hc _ _ (by (try simp) <;> omega)).trans (by go_simp)
        have z1_1 : ∀ j, w1.frozen? ⟨w.heap.size + 1, j, none⟩ = false := fun j => (hf _ _ (by (try simp) <;> omega)).trans (by go_simp)
        clear hc hf hb1
        go_wp2_with fail
        refine (H2.out _).mono ?_
        rintro en w2 ⟨rfl, hb2⟩
        have HB2 : Kp (Below w.heap.size w w2) := ⟨Below.trans (by repeat (first | refine Below.alloc ?_ (by have := HB1.out.size; (try simp) <;> omega) _ | refine bDrewN ?_ _ | refine Below.drew ?_ | refine Below.setCell ?_ (by have := HB1.out.size; (try simp) <;> omega) _ | exact HB1.out)) (hb2.mono (by have := HB1.out.size; (try simp) <;> omega))⟩
        have hz2_0 : w.heap.size < w2.heap.size := by have := hb2.size; (try simp at this); omega
        have hz2_1 : w.heap.size + 1 < w2.heap.size := by have := hb2.size; (try simp at this); omega
        obtain ⟨hc, hf⟩ := bcell hb2
        have c2_0_0 : w2.cell? ⟨w.heap.size, 0, none⟩ = some (.int .i64 s) := (hc _ _ (by (try simp) <;> omega)).trans (by go_simp)
        have c2_0_1 : w2.cell? ⟨w.heap.size, 1, none⟩ = some ((.slice g1 m c1)) := (hc _ _ (by (try simp) <;> omega)).trans (by go_simp)
        have z2_0 : ∀ j, w2.frozen? ⟨w.heap.size, j, none⟩ = false := fun j => (hf _ _ (by (try simp) <;> omega)).trans (by go_simp)
        have c2_1_0 : w2.cell? ⟨w.heap.size + 1, 0, none⟩ = some (.int .i64 s) := (hc _ _ (by (try simp) <;> omega)).trans (by go_simp)
        have c2_1_1 : w2.cell? ⟨w.heap.size + 1, 1, none⟩ = some ((.slice g2 n c2)) := (hc _ _ (by (try simp) <;> omega)).trans (by go_simp)
        have z2_1 : ∀ j, w2.frozen? ⟨w.heap.size + 1, j, none⟩ = false := fun j => (hf _ _ (by (try simp) <;> omega)).trans (by go_simp)
        clear hc hf hb2 c1_0_0 c1_0_1 z1_0 c1_1_0 c1_1_1 z1_1
        go_wp2
        go_ret
        exact ⟨ret_bool HR.out.symm, HB2.out⟩
      · rw [decide_eq_false h3] at HR
        have hz : (s == t) = false := by rw [beq_eq_false_iff_ne]; exact h3
        go_enter Try.func103, Try.ntmps103
        go_wp2_with fail
        refine (H1.out _).mono ?_
        rintro en w1 ⟨rfl, hb1⟩
        have HB1 : Kp (Below w.heap.size w w1) := ⟨Below.trans (by repeat (first | refine Below.alloc ?_ (by (try simp) <;> omega) _ | refine bDrewN ?_ _ | refine Below.drew ?_ | refine Below.setCell ?_ (by (try simp) <;> omega) _ | exact Below.refl _ _)) (hb1.mono (by (try simp) <;> omega))⟩
        have hz1_0 : w.heap.size < w1.heap.size := by have := hb1.size; (try simp at this); omega
        have hz1_1 : w.heap.size + 1 < w1.heap.size := by have := hb1.size; (try simp at this); omega
        obtain ⟨hc, hf⟩ := bcell hb1
        have c1_0_0 : w1.cell? ⟨w.heap.size, 0, none⟩ = some (.int .i64 s) := (hc _ _ (by (try simp) <;> omega)).trans (by go_simp)
        have c1_0_1 : w1.cell? ⟨w.heap.size, 1, none⟩ = some ((.slice g1 m c1)) := (hc _ _ (by (try simp) <;> omega)).trans (by go_simp)
        have z1_0 : ∀ j, w1.frozen? ⟨w.heap.size, j, none⟩ = false := fun j => (hf _ _ (by (try simp) <;> omega)).trans (by go_simp)
        have c1_1_0 : w1.cell? ⟨w.heap.size + 1, 0, none⟩ = some (.int .i64 t) := (hc _ _ (by (try simp) <;> omega)).trans (by go_simp)
        have c1_1_1 : w1.cell? ⟨w.heap.size + 1, 1, none⟩ = some ((.slice g2 n c2)) := (hc _ _ (by (try simp) <;> omega)).trans (by go_simp)
        have z1_1 : ∀ j, w1.frozen? ⟨w.heap.size + 1, j, none⟩ = false := fun j => (hf _ _ (by (try simp) <;> omega)).trans (by go_simp)
        clear hc hf hb1
        go_wp2_with fail
        refine (H2.out _).mono ?_
        rintro en w2 ⟨rfl, hb2⟩
        have HB2 : Kp (Below w.heap.size w w2) := ⟨Below.trans (by repeat (first | refine Below.alloc ?_ (by have := HB1.out.size; (try simp) <;> omega) _ | refine bDrewN ?_ _ | refine Below.drew ?_ | refine Below.setCell ?_ (by have := HB1.out.size; (try simp) <;> omega) _ | exact HB1.out)) (hb2.mono (by have := HB1.out.size; (try simp) <;> omega))⟩
        have hz2_0 : w.heap.size < w2.heap.size := by have := hb2.size; (try simp at this); omega
        have hz2_1 : w.heap.size + 1 < w2.heap.size := by have := hb2.size; (try simp at this); omega
        obtain ⟨hc, hf⟩ := bcell hb2
        have c2_0_0 : w2.cell? ⟨w.heap.size, 0, none⟩ = some (.int .i64 s) := (hc _ _ (by (try simp) <;> omega)).trans (by go_simp)
        have c2_0_1 : w2.cell? ⟨w.heap.size, 1, none⟩ = some ((.slice g1 m c1)) := (hc _ _ (by (try simp) <;> omega)).trans (by go_simp)
        have z2_0 : ∀ j, w2.frozen? ⟨w.heap.size, j, none⟩ = false := fun j => (hf _ _ (by (try simp) <;> omega)).trans (by go_simp)
        have c2_1_0 : w2.cell? ⟨w.heap.size + 1, 0, none⟩ = some (.int .i64 t) := (hc _ _ (by (try simp) <;> omega)).trans (by go_simp)
        have c2_1_1 : w2.cell? ⟨w.heap.size + 1, 1, none⟩ = some ((.slice g2 n c2)) := (hc _ _ (by (try simp) <;> omega)).trans (by go_simp)
        have z2_1 : ∀ j, w2.frozen? ⟨w.heap.size + 1, j, none⟩ = false := fun j => (hf _ _ (by (try simp) <;> omega)).trans (by go_simp)
        clear hc hf hb2 c1_0_0 z1_0
        go_wp2
        go_ret
        exact ⟨ret_bool HR.out.symm, HB2.out⟩
theorem Within_no (s t : Int) (g1 g2 : Option Addr) (m n c1 c2 : Nat) (w : World) (h : alikeB s t m n = false) : Calls Try.prog 45 #[.agg #[.int .i64 s, .slice g1 m c1], .agg #[.int .i64 t, .slice g2 n c2]] w fun e w' => e = .returned (.bool false) ∧ Below w.heap.size w w' := by
  have HA : Kp (∀ W, Calls Try.prog 103 #[.agg #[.int .i64 s, .slice g1 m c1], .agg #[.int .i64 t, .slice g2 n c2]] W fun e w' => e = .returned (.bool false) ∧ Below W.heap.size W w') := ⟨fun W => h ▸ alike_any s t g1 g2 m n c1 c2 W⟩
  clear h
  go_enter Try.func45, Try.ntmps45
  go_wp2_with fail
  refine (HA.out _).mono ?_
  rintro en w1 ⟨rfl, hb1⟩
  have HB1 : Kp (Below w.heap.size w w1) := ⟨Below.trans (by repeat (first | refine Below.alloc ?_ (by (try simp) <;> omega) _ | refine bDrewN ?_ _ | refine Below.drew ?_ | refine Below.setCell ?_ (by (try simp) <;> omega) _ | exact Below.refl _ _)) (hb1.mono (by (try simp) <;> omega))⟩
  have hz1_0 : w.heap.size + 1 + 1 < w1.heap.size := by have := hb1.size; (try simp at this); omega
  obtain ⟨hc, hf⟩ := bcell hb1
  have c1_0_0 : w1.cell? ⟨w.heap.size + 1 + 1, 0, none⟩ = some ((.bool false)) := (hc _ _ (by (try simp) <;> omega)).trans (by go_simp)
  have z1_0 : ∀ j, w1.frozen? ⟨w.heap.size + 1 + 1, j, none⟩ = false := fun j => (hf _ _ (by (try simp) <;> omega)).trans (by go_simp)
  clear hc hf hb1
  go_wp2
  exact bodyPost_ret (v := .bool false) (by simp [results, Try.results45, go_sem, c1_0_0]) rfl ⟨rfl, by (have hzS := HB1.out.size; (repeat (with_reducible first | exact HB1.out | refine Below.setCell ?_ ?_ _ | refine Below.alloc ?_ ?_ _ | refine Below.drew ?_ | refine bDrewN ?_ _)); all_goals ((try simp) <;> omega))⟩
/-- The call's own cells. -/
def wiP (Z s M2 c2 : Nat) (g2 : Option Addr) : List (Nat × Nat × Value) := [(Z + 1, 0, .int .i64 s), (Z + 1, 1, .slice g2 M2 c2), (Z + 1 + 1, 0, .bool false)]
theorem wi_turns {w : World} {Z s M2 c2 B : Nat} {g2 : Option Addr} (hB : w.heap.size ≤ B) (h : Z + 2 < B) : Turns 0 B (Hd w (wiP Z s M2 c2 g2)) :=
  Hd.turns hB fun p hp => by
    simp only [wiP, List.mem_cons, List.not_mem_nil, or_false] at hp
    rcases hp with rfl | rfl | rfl <;> simp only <;> omega
theorem wi_stop {w W : World} {Z s M2 c2 : Nat} {g2 : Option Addr} (hi : Hd w (wiP Z s M2 c2 g2) W) (h : w.heap.size ≤ Z) : Hd w (wiP Z s M2 c2 g2) (W.setCell ⟨Z + 1 + 1, 0, none⟩ (.bool false)) := by
  obtain ⟨h1, z1⟩ := hi.cells (Z + 1, 0, .int .i64 s) (by simp [wiP])
  obtain ⟨h2, z2⟩ := hi.cells (Z + 1, 1, .slice g2 M2 c2) (by simp [wiP])
  obtain ⟨h3, z3⟩ := hi.cells (Z + 1 + 1, 0, .bool false) (by simp [wiP])
  simp only at h1 z1 h2 z2 h3 z3
  refine ⟨hi.below.setCell (by simp; omega) _, ?_⟩
  intro p hp
  simp only [wiP, List.mem_cons, List.not_mem_nil, or_false] at hp
  rcases hp with rfl | rfl | rfl <;> constructor <;> simp [go_sem, h1, z1, h2, z2, h3, z3]
set_option maxRecDepth 100000 in
set_option maxHeartbeats 2000000 in
theorem Within_in (s : Nat) (u v : Value) (h k : List Bool) (w : World) (hs : 1 ≤ s) (hs2 : s ≤ 10) (hu : LB w u h) (hv : LB w v k) (lh : h.length = s * s * s) (lk : k.length = s * s * s) (ha : alikeB s s h.length k.length = true) :
    Calls Try.prog 45 #[.agg #[.int .i64 s, u], .agg #[.int .i64 s, v]] w fun e w' => e = .returned (.bool ((grainsL s h).all (hasB s k))) ∧ Below w.heap.size w w' := by
  obtain ⟨g1, c1, rfl⟩ := hu.shape
  obtain ⟨g2, c2, rfl⟩ := hv.shape
  have HA : Kp (∀ W, Calls Try.prog 103 #[.agg #[.int .i64 s, .slice g1 h.length c1], .agg #[.int .i64 s, .slice g2 k.length c2]] W fun e w' => e = .returned (.bool true) ∧ Below W.heap.size W w') := ⟨fun W => ha ▸ alike_any s s g1 g2 h.length k.length c1 c2 W⟩
  have HH : Kp (∀ W x, Below w.heap.size w W → Calls Try.prog 95 #[.agg #[.int .i64 s, .slice g2 k.length c2], .agg #[.int .i64 x.x, .int .i64 x.y, .int .i64 x.z]] W fun e w' => e = .returned (.bool (hasB s k x)) ∧ Below W.heap.size W w') := ⟨fun W x hW => has_any s _ k x W hs2 lk (hv.below hW)⟩
  have HU := Kp.mk hu
  have HL := Kp.mk lh
  obtain ⟨M, hM⟩ : ∃ M, h.length = M := ⟨_, rfl⟩
  obtain ⟨M2, hM2⟩ : ∃ M2, k.length = M2 := ⟨_, rfl⟩
  rw [hM, hM2] at HA
  rw [hM2] at HH
  rw [hM] at HU
  obtain ⟨Z, hZ⟩ : ∃ Z, w.heap.size = Z := ⟨_, rfl⟩
  have HZ := Kp.mk hZ
  have HM := Kp.mk hM
  rw [hM, hM2]
  clear hu hv lh lk ha hM hM2 hZ
  refine (callsIn_wide (n := 6)).1 ?_
  refine callsIn_of_wp_marks Try.func45 rfl trivial ?_ rfl
  simp only [Try.ntmps45, List.size_toArray, List.length_cons, List.length_nil, Nat.reduceAdd, Nat.reduceSub, Array.replicate_succ, Array.replicate_zero, List.push_toArray, List.append_toArray, List.nil_append, List.cons_append]
  gi_wp2_with fail
  refine ⟨trivial, (callsIn_wide.2 (HA.out _)).mono ?_⟩
  rintro en w1 ⟨rfl, hb1⟩
  have HB1 : Kp (Below w.heap.size w w1) := ⟨Below.trans (by repeat (first | refine Below.alloc ?_ (by (try simp) <;> omega) _ | refine bDrewN ?_ _ | refine Below.drew ?_ | refine Below.setCell ?_ (by (try simp) <;> omega) _ | exact Below.refl _ _)) (hb1.mono (by (try simp) <;> omega))⟩
  have hz1_0 : w.heap.size < w1.heap.size := by have := hb1.size; (try simp at this); omega
  have hz1_1 : w.heap.size + 1 < w1.heap.size := by have := hb1.size; (try simp at this); omega
  have hz1_2 : w.heap.size + 1 + 1 < w1.heap.size := by have := hb1.size; (try simp at this); omega
  obtain ⟨hc, hf⟩ := bcell hb1
  have c1_0_0 : w1.cell? ⟨w.heap.size, 0, none⟩ = some (.int .i64 s) := (hc _ _ (by (try simp) <;> omega)).trans (by go_simp)
  have c1_0_1 : w1.cell? ⟨w.heap.size, 1, none⟩ = some ((.slice g1 M c1)) := (hc _ _ (by (try simp) <;> omega)).trans (by go_simp)
  have z1_0 : ∀ j, w1.frozen? ⟨w.heap.size, j, none⟩ = false := fun j => (hf _ _ (by (try simp) <;> omega)).trans (by go_simp)
  have c1_1_0 : w1.cell? ⟨w.heap.size + 1, 0, none⟩ = some (.int .i64 s) := (hc _ _ (by (try simp) <;> omega)).trans (by go_simp)
  have c1_1_1 : w1.cell? ⟨w.heap.size + 1, 1, none⟩ = some ((.slice g2 M2 c2)) := (hc _ _ (by (try simp) <;> omega)).trans (by go_simp)
  have z1_1 : ∀ j, w1.frozen? ⟨w.heap.size + 1, j, none⟩ = false := fun j => (hf _ _ (by (try simp) <;> omega)).trans (by go_simp)
  have c1_2_0 : w1.cell? ⟨w.heap.size + 1 + 1, 0, none⟩ = some ((.bool false)) := (hc _ _ (by (try simp) <;> omega)).trans (by go_simp)
  have z1_2 : ∀ j, w1.frozen? ⟨w.heap.size + 1 + 1, j, none⟩ = false := fun j => (hf _ _ (by (try simp) <;> omega)).trans (by go_simp)
  clear hc hf hb1
  gi_wp2_with fail
  refine ⟨trivial, (callsIn_wide.2 (grains_any _ _ _)).mono ?_⟩
  rintro en W0 ⟨rfl, hW0⟩
  obtain ⟨Y, hY⟩ : ∃ Y, w1.heap.size = Y := ⟨_, rfl⟩
  rw [hY]
  have HZY : Kp (Z + 2 < Y) := ⟨by have := HZ.out; omega⟩
  have HH0 : Kp (Hd w (wiP Z s M2 c2 g2) w1) := ⟨⟨HB1.out, by
    have e := HZ.out
    subst e
    intro p hp
    simp only [wiP, List.mem_cons, List.not_mem_nil, or_false] at hp
    rcases hp with rfl | rfl | rfl
    · exact ⟨c1_1_0, z1_1 _⟩
    · exact ⟨c1_1_1, z1_1 _⟩
    · exact ⟨c1_2_0, z1_2 _⟩⟩⟩
  have HS0 : Kp (W0.heap.size = Y + 1) := ⟨by rw [← hW0, World.size_alloc, hY]⟩
  have HB0 : Kp (Below w1.heap.size w1 W0) := ⟨by rw [← hW0]; exact (Below.refl _ _).alloc (Nat.le_refl _) _⟩
  obtain ⟨H, o, rfl⟩ : ∃ H o, g1 = some ⟨H, o, none⟩ := by
    obtain ⟨g, c, e, -, hi⟩ := HU.out
    have h0 : 0 < h.length := by
      rw [HL.out]
      exact Nat.mul_pos (Nat.mul_pos (by omega) (by omega)) (by omega)
    obtain ⟨b, o, hg, -⟩ := hi 0 _ (List.getElem?_eq_getElem h0)
    simp only [Value.slice.injEq] at e
    exact ⟨b, o, by rw [e.1, hg]⟩
  have HBK : Kp (BK Y H o c1 s h W0) := ⟨by
    have hu0 : LB W0 (.slice (some ⟨H, o, none⟩) h.length c1) h := by
      rw [HM.out]
      exact (HU.out.below HB1.out).below HB0.out
    have hb0 : W0.cell? ⟨Y, 0, none⟩ = some (.int .i64 s) := by
      subst hY
      subst hW0
      go_simp
    have hb1 : W0.cell? ⟨Y, 1, none⟩ = some (.slice (some ⟨H, o, none⟩) M c1) := by
      subst hY
      subst hW0
      go_simp
    refine ⟨hb0, by rw [HM.out]; exact hb1, hu0, ?_⟩
    obtain ⟨g, c, e, -, hi⟩ := hu0
    have h0 : 0 < h.length := by
      rw [HL.out]
      exact Nat.mul_pos (Nat.mul_pos (by omega) (by omega)) (by omega)
    obtain ⟨b, o', hg, -, hc⟩ := hi 0 _ (List.getElem?_eq_getElem h0)
    subst hg
    simp only [Value.slice.injEq, Option.some.injEq, Addr.mk.injEq, and_true] at e
    obtain ⟨⟨rfl, rfl⟩, -, -⟩ := e
    exact ⟨_, hc⟩⟩
  have HI0 : Kp (Hd w (wiP Z s M2 c2 g2) W0) := ⟨HH0.out.on HB0.out⟩
  have HHY : Kp (H < Y + 1) := ⟨by have := HBK.out.ltH; have := HS0.out; omega⟩
  clear hW0 hY HB1 HU HA c1_0_0 c1_0_1 z1_0 hz1_0 c1_1_0 c1_1_1 z1_1 hz1_1 c1_2_0 z1_2 hz1_2
  gi_wp2
  simp only [HZ.out]
  refine wpIn_yieldsS (k := 0) (enc := encG) (xs := grainsL s h) rfl (by omega) (gf := 142) (lb := #[.pointer (some ⟨Y, 0, none⟩)]) rfl trivial (enters_of Try.func142 (by kernel_rfl) rfl) (fun _ => rfl)
    (grains_yields 5 (by omega) Y H o c1 s h hs hs2 HL.out W0 HBK.out) Keep.trans (fun V o o' _ _ _ => Keep.putObj (by omega) (by have := HS0.out; have := HHY.out; rintro (e | e) <;> omega))
    (fun pre V => Hd w (wiP Z s M2 c2 g2) V ∧ pre.all (hasB s k) = true)
    (fun c ys V => (c = .ret ∧ ys.all (hasB s k) = false) ∧ Hd w (wiP Z s M2 c2 g2) V)
    (fun p => Turns.abides (C := Y) (turns_and (wi_turns (by have := HZ.out; have := HZY.out; omega) HZY.out) turns_const) (by have := HS0.out; omega))
    (fun _ _ => Turns.abides (C := Y) (turns_and turns_const (wi_turns (by have := HZ.out; have := HZY.out; omega) HZY.out)) (by have := HS0.out; omega))
    ⟨HI0.out, rfl⟩
    (fun pre x a' V => (Hd w (wiP Z s M2 c2 g2) V ∧ pre.all (hasB s k) = true) ∧ ∃ G, Y + 3 ≤ G ∧ GrAt V G x ∧ a' = { tmps := #[.agg #[.int .i64 s, .slice (some ⟨H, o, none⟩) M c1], .agg #[.int .i64 s, .slice g2 M2 c2], .pointer (some ⟨Z, 0, none⟩), .pointer (some ⟨Z + 1, 0, none⟩), .pointer (some ⟨Z + 1 + 1, 0, none⟩), .pointer (some ⟨G, 0, none⟩), .agg #[.int .i64 s, .slice (some ⟨H, o, none⟩) M c1], .agg #[.int .i64 s, .slice g2 M2 c2], .bool true, .bool false, .agg #[.int .i64 s, .slice (some ⟨H, o, none⟩) M c1], .func (.func 142) #[] #[.pointer (some ⟨Y, 0, none⟩)], .agg #[.int .i64 x.x, .int .i64 x.y, .int .i64 x.z], undef, undef, undef, undef], defers := [] })
    ?ax ?assign ?body ?done ?stop
  case ax =>
    rintro pre x a' X V row ⟨hi, G, hG, hx, ha⟩ g hr
    exact ⟨Turns.abides (C := Y) (turns_and (wi_turns (by have := HZ.out; have := HZY.out; omega) HZY.out) turns_const) (by have := HS0.out; omega) X V row hi g hr, G, hG, GrAt.abide hx g hr (by have := HS0.out; omega), ha⟩
  case assign =>
    rintro l2 pre ⟨gx, gy, gz⟩ V ⟨hi, hall⟩ _ hsz
    have HI := Kp.mk hi
    have HALL := Kp.mk hall
    clear hi hall
    have ez : ((#[12] : Array Tmp).zip (encG ⟨gx, gy, gz⟩)).foldl (fun tmps (q : Tmp × Value) => tmps.setIfInBounds q.1 q.2) #[.agg #[.int .i64 s, .slice (some ⟨H, o, none⟩) M c1], .agg #[.int .i64 s, .slice g2 M2 c2], .pointer (some ⟨Z, 0, none⟩), .pointer (some ⟨Z + 1, 0, none⟩), .pointer (some ⟨Z + 1 + 1, 0, none⟩), undef, .agg #[.int .i64 s, .slice (some ⟨H, o, none⟩) M c1], .agg #[.int .i64 s, .slice g2 M2 c2], .bool true, .bool false, .agg #[.int .i64 s, .slice (some ⟨H, o, none⟩) M c1], .func (.func 142) #[] #[.pointer (some ⟨Y, 0, none⟩)], undef, undef, undef, undef, undef] = #[.agg #[.int .i64 s, .slice (some ⟨H, o, none⟩) M c1], .agg #[.int .i64 s, .slice g2 M2 c2], .pointer (some ⟨Z, 0, none⟩), .pointer (some ⟨Z + 1, 0, none⟩), .pointer (some ⟨Z + 1 + 1, 0, none⟩), undef, .agg #[.int .i64 s, .slice (some ⟨H, o, none⟩) M c1], .agg #[.int .i64 s, .slice g2 M2 c2], .bool true, .bool false, .agg #[.int .i64 s, .slice (some ⟨H, o, none⟩) M c1], .func (.func 142) #[] #[.pointer (some ⟨Y, 0, none⟩)], .agg #[.int .i64 gx, .int .i64 gy, .int .i64 gz], undef, undef, undef, undef] := by simp [encG]
    rw [ez]
    clear ez
    gi_wp2
    have hzv : Y + 3 ≤ V.heap.size := by have := HS0.out; omega
    have hbb : Below V.heap.size V (V.alloc (.cells #[.int .i64 gx, .int .i64 gy, .int .i64 gz] 71)) := (Below.refl _ _).alloc (Nat.le_refl _) _
    exact ⟨alloc_keeps _ _ _, Keep.below hbb (fun j hj => by have := HS0.out; have := HHY.out; rcases hj with rfl | rfl <;> omega), ⟨HI.out.on hbb, HALL.out⟩, V.heap.size, hzv, ⟨by go_simp, by go_simp, by go_simp⟩, rfl⟩
  case body =>
    rintro l2 pre x a' V ⟨⟨hi, hall⟩, G, hG, hgr, rfl⟩ hpre hsz
    have HQ : Kp (∀ W, Below w.heap.size w W → Calls Try.prog 95 #[.agg #[.int .i64 s, .slice g2 M2 c2], .agg #[.int .i64 x.x, .int .i64 x.y, .int .i64 x.z]] W fun e w' => e = .returned (.bool (hasB s k x)) ∧ Below W.heap.size W w') := ⟨fun W hW => HH.out W x hW⟩
    have HA1 : Kp ((pre ++ [x]).all (hasB s k) = hasB s k x) := ⟨by rw [List.all_append, hall]; simp⟩
    have HI := Kp.mk hi
    have HSZ : Kp (W0.heap.size = Y + 1 ∧ W0.heap.size + 2 ≤ V.heap.size) := ⟨HS0.out, by omega⟩
    obtain ⟨Q, hQ⟩ : ∃ Q, hasB s k x = Q := ⟨_, rfl⟩
    rw [hQ] at HQ HA1
    obtain ⟨gx, gy, gz⟩ := x
    obtain ⟨d0, d1, d2⟩ := hgr
    obtain ⟨a1, y1⟩ := hi.cells (Z + 1, 0, .int .i64 s) (by simp [wiP])
    obtain ⟨a2, y2⟩ := hi.cells (Z + 1, 1, .slice g2 M2 c2) (by simp [wiP])
    simp only at a1 a2 d0 d1 d2 HQ
    clear y1 y2 hi hall hpre hQ
    cases Q with
    | true =>
      gi_wp2_with fail
      refine ⟨trivial, (CallsIn.inRound _ (callsIn_wide.2 (HQ.out _ HI.out.below))).mono ?_⟩
      rintro en W1 ⟨rfl, hb1⟩
      gi_wp2
      exact ⟨KeepsFrom.of_grownBy (grown_below hb1 none) (fun j e => by cases e), Keep.below hb1 (fun j hj => by have := HSZ.out; have := HHY.out; rcases hj with rfl | rfl <;> omega), HI.out.on hb1, HA1.out⟩
    | false =>
      gi_wp2_with fail
      refine ⟨trivial, (CallsIn.inRound _ (callsIn_wide.2 (HQ.out _ HI.out.below))).mono ?_⟩
      rintro en W1 ⟨rfl, hb1⟩
      have HI1 := Kp.mk (HI.out.on hb1)
      obtain ⟨b3, z3⟩ := HI1.out.cells (Z + 1 + 1, 0, .bool false) (by simp [wiP])
      simp only at b3 z3
      gi_wp2
      exact ⟨(KeepsFrom.of_grownBy (grown_below hb1 none) (fun j e => by cases e)).trans (KeepsFrom.of_grownBy (setCell_grown W1 (Z + 1 + 1) 0 (.bool false)) (fun j e => by simp only [Option.some.injEq] at e; have := HSZ.out; have := HZY.out; omega)), ⟨rfl, HA1.out⟩, wi_stop HI1.out (by have := HZ.out; omega)⟩
  case done =>
    rintro D V hD ⟨hi, hall⟩ hd
    have hZD : Z + 2 < D := by have := HS0.out; have := HZY.out; omega
    obtain ⟨b3, z3⟩ := hi.cells (Z + 1 + 1, 0, .bool false) (by simp [wiP])
    simp only at b3 z3
    have hd2 : (V.setCell ⟨Z + 1 + 1, 0, none⟩ (.bool true)).heap[D]? = some (.deferred (some [])) := (Below.heap_setCell _ _ _ _ (by simp only; omega)).trans hd
    have hX : Hd w [(Z + 1 + 1, 0, .bool true)] (V.setCell ⟨Z + 1 + 1, 0, none⟩ (.bool true)) := ⟨hi.below.setCell (by have := HZ.out; simp; omega) _, by
      intro p hp
      simp only [List.mem_cons, List.not_mem_nil, or_false] at hp
      subst hp
      constructor <;> simp [go_sem, b3, z3]⟩
    have hX2 := Hd.turns (k := 0) (B := Y) (by have := HZ.out; have := HZY.out; omega) (fun p hp => by
      simp only [List.mem_cons, List.not_mem_nil, or_false] at hp
      subst hp
      have := HZY.out
      simp only
      omega) _ _ (some D) hX (grownBy_putObj' _ D (.deferred none)) (fun r e => by cases e; exact ⟨by have := HS0.out; omega, .inr ⟨_, hd2, rfl⟩⟩)
    have HX2 := Kp.mk hX2
    obtain ⟨b4, z4⟩ := hX2.cells (Z + 1 + 1, 0, .bool true) (by simp)
    simp only at b4 z4
    have HD2 := Kp.mk hd2
    clear hd hd2 hX hX2 z4
    gi_wp2
    refine ⟨by simp, .inl ⟨_, _, rfl, run_takeDeferred HD2.out, ?_⟩⟩
    refine ⟨.bool true, by simp [results, Try.results45, go_sem, b4], by rw [hall], HX2.out.below⟩
  case stop =>
    rintro D cd ys V hD hys ⟨⟨rfl, hno⟩, hi⟩ hd
    have hgb := grownBy_putObj' V D (.deferred none)
    have hi2 := wi_turns (B := Y) (by have := HZ.out; have := HZY.out; omega) HZY.out _ _ (some D) hi hgb (fun r e => by cases e; exact ⟨by have := HS0.out; omega, .inr ⟨_, hd, rfl⟩⟩)
    have HI2 := Kp.mk hi2
    have HD2 := Kp.mk hd
    have HN : Kp ((grainsL s h).all (hasB s k) = false) := ⟨by
      obtain ⟨zs, hz⟩ := hys
      rw [← hz, List.all_append, hno]
      rfl⟩
    obtain ⟨b3, z3⟩ := hi.cells (Z + 1 + 1, 0, .bool false) (by simp [wiP])
    obtain ⟨b4, z4⟩ := hi2.cells (Z + 1 + 1, 0, .bool false) (by simp [wiP])
    simp only at b3 z3 b4 z4
    clear hd hgb hi2 hno hi hys
    gi_wp2
    refine ⟨by simp, .inl ⟨_, _, rfl, run_takeDeferred HD2.out, ?_⟩⟩
    refine ⟨.bool false, by simp [results, Try.results45, go_sem, b4], by rw [HN.out], HI2.out.below⟩
def withinB (s t : Int) (h k : List Bool) : Bool := alikeB s t h.length k.length && (grainsL s.toNat h).all (hasB s.toNat k)
theorem Within_any (s t : Int) (u v : Value) (h k : List Bool) (w : World) (hu : LB w u h) (hv : LB w v k) :
    Calls Try.prog 45 #[.agg #[.int .i64 s, u], .agg #[.int .i64 t, v]] w fun e w' => e = .returned (.bool (withinB s t h k)) ∧ Below w.heap.size w w' := by
  unfold withinB
  cases ha : alikeB s t h.length k.length with
  | false =>
    obtain ⟨g1, c1, rfl⟩ := hu.shape
    obtain ⟨g2, c2, rfl⟩ := hv.shape
    exact Within_no s t g1 g2 h.length k.length c1 c2 w ha
  | true =>
    have ha2 := ha
    unfold alikeB blockB at ha2
    simp only [Bool.and_eq_true, decide_eq_true_eq] at ha2
    obtain ⟨⟨h1, h2⟩, ⟨h3, h4⟩, rfl⟩ := ha2
    have hs := side_iff.1 h1
    obtain ⟨n, rfl⟩ : ∃ n : Nat, s = n := ⟨s.toNat, by omega⟩
    rw [← Int.natCast_mul, ← Int.natCast_mul] at h2 h4
    exact Within_in n u v h k w (by omega) (by omega) hu hv (Int.ofNat.inj h2) (Int.ofNat.inj h4) ha
end Go.Proofs.Yticcafjogmjkiaa.Cv
