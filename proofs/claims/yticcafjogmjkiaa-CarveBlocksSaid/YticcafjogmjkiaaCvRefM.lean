/-
  WALKS (layer 5, carve): View at any block and axis, by the program and by the reference.
-/
import Derived.Test.YticcafjogmjkiaaCvRefL
namespace Go.Proofs.Yticcafjogmjkiaa.Cv
open Go Go.RowKit Go.Sort

def vwE (n : Int) (h : List Bool) (ax : Int) : Int := if blockB n h.length = true then (if ixB ax 3 = true then 0 else 7) else 1
def vwS (n : Int) (h : List Bool) (ax : Int) : Int := if vwE n h ax = 0 then n else 0
def vwL (n : Int) (h : List Bool) (ax : Int) : List Bool := if vwE n h ax = 0 then viewL n.toNat ax.toNat h else []
/-- What a view is answered. -/
def VwPost (n : Int) (h : List Bool) (ax : Int) (w : World) (en : Ending) (w' : World) : Prop :=
  ∃ u, en = .returned (.tuple #[.agg #[.int .i64 (vwS n h ax), u], .int .i64 (vwE n h ax)]) ∧ LB w' u (vwL n h ax) ∧ Below w.heap.size w w'
theorem vw_bad {n : Int} {h : List Bool} {ax r : Int} {w w' : World} {en : Ending} (g : vwE n h ax = r) (hr : r ≠ 0) (hp : en = .returned (.tuple #[.agg #[.int .i64 0, .slice none 0 0], .int .i64 r]) ∧ Below w.heap.size w w') : VwPost n h ax w en w' := by
  unfold VwPost vwS vwL
  rw [g, if_neg hr, if_neg hr]
  exact ⟨_, hp.1, LB.nil _, hp.2⟩
theorem vw_good {s k : Nat} {h : List Bool} {w w' : World} {en : Ending} (hb : blockB s h.length = true) (hk : k < 3) (hp : ∃ u, en = .returned (.tuple #[.agg #[.int .i64 s, u], .int .i64 0]) ∧ LB w' u (viewL s k h) ∧ Below w.heap.size w w') : VwPost s h k w en w' := by
  have hx : ixB (k : Int) 3 = true := by unfold ixB; simp; omega
  have e0 : vwE s h k = 0 := by unfold vwE; rw [hb, hx]; rfl
  unfold VwPost vwS vwL
  rw [e0, if_pos rfl, if_pos rfl, Int.toNat_natCast, Int.toNat_natCast]
  exact hp
theorem View_range (n : Int) (g : Option Addr) (m c : Nat) (ax : Int) (w : World) (hb : blockB n m = true) (hx : ixB ax 3 = false) :
    Calls Try.prog 28 #[.agg #[.int .i64 n, .slice g m c], .int .i64 ax] w fun e w' => e = .returned (.tuple #[.agg #[.int .i64 0, .slice none 0 0], .int .i64 7]) ∧ Below w.heap.size w w' := by
  have HB : Kp (∀ W, Calls Try.prog 17 #[.agg #[.int .i64 n, .slice g m c]] W fun e w' => e = .returned (.bool true) ∧ Below W.heap.size W w') := ⟨fun W => hb ▸ ValidBlock_any n g m c W⟩
  have HA : Kp (∀ W, Calls Try.prog 85 #[.int .i64 ax] W fun e w' => e = .returned (.bool false) ∧ W = w') := ⟨fun W => hx ▸ isAxis_any ax W⟩
  clear hb hx
  go_enter Try.func28, Try.ntmps28
  go_wp2_with fail
  refine (HB.out _).mono ?_
  rintro en w1 ⟨rfl, hb1⟩
  have HB1 : Kp (Below w.heap.size w w1) := ⟨Below.trans (by repeat (first | refine Below.alloc ?_ (by (try simp) <;> omega) _ | refine bDrewN ?_ _ | refine Below.drew ?_ | refine Below.setCell ?_ (by (try simp) <;> omega) _ | exact Below.refl _ _)) (hb1.mono (by (try simp) <;> omega))⟩
  have hz1_0 : w.heap.size < w1.heap.size := by have := hb1.size; (try simp at this); omega
  have hz1_1 : w.heap.size + 1 < w1.heap.size := by have := hb1.size; (try simp at this); omega
  obtain ⟨hc, hf⟩ := bcell hb1
  have c1_0_0 : w1.cell? ⟨w.heap.size, 0, none⟩ = some (.int .i64 n) := (hc _ _ (by (try simp) <;> omega)).trans (by go_simp)
  have c1_0_1 : w1.cell? ⟨w.heap.size, 1, none⟩ = some ((.slice g m c)) := (hc _ _ (by (try simp) <;> omega)).trans (by go_simp)
  have z1_0 : ∀ j, w1.frozen? ⟨w.heap.size, j, none⟩ = false := fun j => (hf _ _ (by (try simp) <;> omega)).trans (by go_simp)
  have c1_1_0 : w1.cell? ⟨w.heap.size + 1, 0, none⟩ = some (.int .i64 0) := (hc _ _ (by (try simp) <;> omega)).trans (by go_simp)
  have c1_1_1 : w1.cell? ⟨w.heap.size + 1, 1, none⟩ = some ((.slice none 0 0)) := (hc _ _ (by (try simp) <;> omega)).trans (by go_simp)
  have z1_1 : ∀ j, w1.frozen? ⟨w.heap.size + 1, j, none⟩ = false := fun j => (hf _ _ (by (try simp) <;> omega)).trans (by go_simp)
  clear hc hf hb1
  go_wp2_with fail
  refine (HA.out _).mono ?_
  rintro en w2 ⟨rfl, rfl⟩
  go_wp2
  exact bodyPost_ret (v := .tuple #[.agg #[.int .i64 0, .slice none 0 0], .int .i64 7]) (by simp [results, Try.results28, go_sem, c1_1_0, c1_1_1]) rfl ⟨rfl, by (have hzS := HB1.out.size; (repeat (with_reducible first | exact HB1.out | refine Below.setCell ?_ ?_ _ | refine Below.alloc ?_ ?_ _ | refine Below.drew ?_ | refine bDrewN ?_ _)); all_goals ((try simp) <;> omega))⟩
theorem rView_bad (n : Int) (g : Option Addr) (m c : Nat) (ax : Int) (w : World) (hb : blockB n m = false) :
    Calls Try.prog 29 #[.agg #[.int .i64 n, .slice g m c], .int .i64 ax] w fun e w' => e = .returned (.tuple #[.agg #[.int .i64 0, .slice none 0 0], .int .i64 1]) ∧ Below w.heap.size w w' := by
  have HB : Kp (∀ W, Calls Try.prog 18 #[.agg #[.int .i64 n, .slice g m c]] W fun e w' => e = .returned (.bool false) ∧ Below W.heap.size W w') := ⟨fun W => hb ▸ rValidBlock_any n g m c W⟩
  clear hb
  go_enter Try.func29, Try.ntmps29
  go_wp2_with fail
  refine (HB.out _).mono ?_
  rintro en w1 ⟨rfl, hb1⟩
  have HB1 : Kp (Below w.heap.size w w1) := ⟨Below.trans (by repeat (first | refine Below.alloc ?_ (by (try simp) <;> omega) _ | refine bDrewN ?_ _ | refine Below.drew ?_ | refine Below.setCell ?_ (by (try simp) <;> omega) _ | exact Below.refl _ _)) (hb1.mono (by (try simp) <;> omega))⟩
  have hz1_0 : w.heap.size < w1.heap.size := by have := hb1.size; (try simp at this); omega
  have hz1_1 : w.heap.size + 1 < w1.heap.size := by have := hb1.size; (try simp at this); omega
  obtain ⟨hc, hf⟩ := bcell hb1
  have c1_0_0 : w1.cell? ⟨w.heap.size, 0, none⟩ = some (.int .i64 n) := (hc _ _ (by (try simp) <;> omega)).trans (by go_simp)
  have c1_0_1 : w1.cell? ⟨w.heap.size, 1, none⟩ = some ((.slice g m c)) := (hc _ _ (by (try simp) <;> omega)).trans (by go_simp)
  have z1_0 : ∀ j, w1.frozen? ⟨w.heap.size, j, none⟩ = false := fun j => (hf _ _ (by (try simp) <;> omega)).trans (by go_simp)
  have c1_1_0 : w1.cell? ⟨w.heap.size + 1, 0, none⟩ = some (.int .i64 0) := (hc _ _ (by (try simp) <;> omega)).trans (by go_simp)
  have c1_1_1 : w1.cell? ⟨w.heap.size + 1, 1, none⟩ = some ((.slice none 0 0)) := (hc _ _ (by (try simp) <;> omega)).trans (by go_simp)
  have z1_1 : ∀ j, w1.frozen? ⟨w.heap.size + 1, j, none⟩ = false := fun j => (hf _ _ (by (try simp) <;> omega)).trans (by go_simp)
  clear hc hf hb1
  go_wp2
  exact bodyPost_ret (v := .tuple #[.agg #[.int .i64 0, .slice none 0 0], .int .i64 1]) (by simp [results, Try.results29, go_sem, c1_1_0, c1_1_1]) rfl ⟨rfl, by (have hzS := HB1.out.size; (repeat (with_reducible first | exact HB1.out | refine Below.setCell ?_ ?_ _ | refine Below.alloc ?_ ?_ _ | refine Below.drew ?_ | refine bDrewN ?_ _)); all_goals ((try simp) <;> omega))⟩
theorem raxis_any (ax : Int) (w : World) : Calls Try.prog 78 #[.int .i64 ax, .int .i64 0, .int .i64 2] w fun e w' => e = .returned (.bool (ixB ax 3)) ∧ w = w' := by
  have h := rwithin_any ax 0 2 w
  have e : (decide ((0 : Int) ≤ ax) && decide (ax ≤ 2)) = ixB ax 3 := by
    unfold ixB
    congr 1
    exact decide_eq_decide.2 (by omega)
  rwa [e] at h
theorem rView_range (n : Int) (g : Option Addr) (m c : Nat) (ax : Int) (w : World) (hb : blockB n m = true) (hx : ixB ax 3 = false) :
    Calls Try.prog 29 #[.agg #[.int .i64 n, .slice g m c], .int .i64 ax] w fun e w' => e = .returned (.tuple #[.agg #[.int .i64 0, .slice none 0 0], .int .i64 7]) ∧ Below w.heap.size w w' := by
  have HB : Kp (∀ W, Calls Try.prog 18 #[.agg #[.int .i64 n, .slice g m c]] W fun e w' => e = .returned (.bool true) ∧ Below W.heap.size W w') := ⟨fun W => hb ▸ rValidBlock_any n g m c W⟩
  have HA : Kp (∀ W, Calls Try.prog 78 #[.int .i64 ax, .int .i64 0, .int .i64 2] W fun e w' => e = .returned (.bool false) ∧ W = w') := ⟨fun W => hx ▸ raxis_any ax W⟩
  clear hb hx
  go_enter Try.func29, Try.ntmps29
  go_wp2_with fail
  refine (HB.out _).mono ?_
  rintro en w1 ⟨rfl, hb1⟩
  have HB1 : Kp (Below w.heap.size w w1) := ⟨Below.trans (by repeat (first | refine Below.alloc ?_ (by (try simp) <;> omega) _ | refine bDrewN ?_ _ | refine Below.drew ?_ | refine Below.setCell ?_ (by (try simp) <;> omega) _ | exact Below.refl _ _)) (hb1.mono (by (try simp) <;> omega))⟩
  have hz1_0 : w.heap.size < w1.heap.size := by have := hb1.size; (try simp at this); omega
  have hz1_1 : w.heap.size + 1 < w1.heap.size := by have := hb1.size; (try simp at this); omega
  obtain ⟨hc, hf⟩ := bcell hb1
  have c1_0_0 : w1.cell? ⟨w.heap.size, 0, none⟩ = some (.int .i64 n) := (hc _ _ (by (try simp) <;> omega)).trans (by go_simp)
  have c1_0_1 : w1.cell? ⟨w.heap.size, 1, none⟩ = some ((.slice g m c)) := (hc _ _ (by (try simp) <;> omega)).trans (by go_simp)
  have z1_0 : ∀ j, w1.frozen? ⟨w.heap.size, j, none⟩ = false := fun j => (hf _ _ (by (try simp) <;> omega)).trans (by go_simp)
  have c1_1_0 : w1.cell? ⟨w.heap.size + 1, 0, none⟩ = some (.int .i64 0) := (hc _ _ (by (try simp) <;> omega)).trans (by go_simp)
  have c1_1_1 : w1.cell? ⟨w.heap.size + 1, 1, none⟩ = some ((.slice none 0 0)) := (hc _ _ (by (try simp) <;> omega)).trans (by go_simp)
  have z1_1 : ∀ j, w1.frozen? ⟨w.heap.size + 1, j, none⟩ = false := fun j => (hf _ _ (by (try simp) <;> omega)).trans (by go_simp)
  clear hc hf hb1
  go_wp2_with fail
  refine (HA.out _).mono ?_
  rintro en w2 ⟨rfl, rfl⟩
  go_wp2
  exact bodyPost_ret (v := .tuple #[.agg #[.int .i64 0, .slice none 0 0], .int .i64 7]) (by simp [results, Try.results29, go_sem, c1_1_0, c1_1_1]) rfl ⟨rfl, by (have hzS := HB1.out.size; (repeat (with_reducible first | exact HB1.out | refine Below.setCell ?_ ?_ _ | refine Below.alloc ?_ ?_ _ | refine Below.drew ?_ | refine bDrewN ?_ _)); all_goals ((try simp) <;> omega))⟩
theorem rView_in (s k : Nat) (v : Value) (h : List Bool) (w : World) (hk : k < 3) (hs : 1 ≤ s) (hs2 : s ≤ 10) (hl : h.length = s * s * s) (hb : blockB s h.length = true) (hv : LB w v h) :
    Calls Try.prog 29 #[.agg #[.int .i64 s, v], .int .i64 k] w fun en w' => ∃ u, en = .returned (.tuple #[.agg #[.int .i64 s, u], .int .i64 0]) ∧ LB w' u (viewL s k h) ∧ Below w.heap.size w w' := by
  have hx : ixB (k : Int) 3 = true := by unfold ixB; simp; omega
  have HX : Kp (∀ W, Below w.heap.size w W → Calls Try.prog 87 #[.agg #[.int .i64 s, v], .int .i64 k] W fun en w' => ∃ u, en = .returned (.agg #[.int .i64 s, u]) ∧ FB W.heap.size w' u (viewL s k h) ∧ Below W.heap.size W w') := ⟨fun W hW => rview_any s k _ hk v h W hs hs2 rfl hl (hv.below hW)⟩
  obtain ⟨g, c, rfl⟩ := hv.shape
  have HB : Kp (∀ W, Calls Try.prog 18 #[.agg #[.int .i64 s, .slice g h.length c]] W fun e w' => e = .returned (.bool true) ∧ Below W.heap.size W w') := ⟨fun W => hb ▸ rValidBlock_any s g h.length c W⟩
  have HA : Kp (∀ W, Calls Try.prog 78 #[.int .i64 k, .int .i64 0, .int .i64 2] W fun e w' => e = .returned (.bool true) ∧ W = w') := ⟨fun W => hx ▸ raxis_any k W⟩
  obtain ⟨L, hL⟩ : ∃ L, viewL s k h = L := ⟨_, rfl⟩
  obtain ⟨N, hN⟩ : ∃ N, h.length = N := ⟨_, rfl⟩
  rw [hL, hN] at HX
  rw [hN] at HB
  rw [hL, hN]
  clear hl hv hb hL hx hN
  go_enter Try.func29, Try.ntmps29
  go_wp2_with fail
  refine (HB.out _).mono ?_
  rintro en w1 ⟨rfl, hb1⟩
  have HB1 : Kp (Below w.heap.size w w1) := ⟨Below.trans (by repeat (first | refine Below.alloc ?_ (by (try simp) <;> omega) _ | refine bDrewN ?_ _ | refine Below.drew ?_ | refine Below.setCell ?_ (by (try simp) <;> omega) _ | exact Below.refl _ _)) (hb1.mono (by (try simp) <;> omega))⟩
  have hz1_0 : w.heap.size < w1.heap.size := by have := hb1.size; (try simp at this); omega
  have hz1_1 : w.heap.size + 1 < w1.heap.size := by have := hb1.size; (try simp at this); omega
  obtain ⟨hc, hf⟩ := bcell hb1
  have c1_0_0 : w1.cell? ⟨w.heap.size, 0, none⟩ = some (.int .i64 s) := (hc _ _ (by (try simp) <;> omega)).trans (by go_simp)
  have c1_0_1 : w1.cell? ⟨w.heap.size, 1, none⟩ = some ((.slice g N c)) := (hc _ _ (by (try simp) <;> omega)).trans (by go_simp)
  have z1_0 : ∀ j, w1.frozen? ⟨w.heap.size, j, none⟩ = false := fun j => (hf _ _ (by (try simp) <;> omega)).trans (by go_simp)
  have c1_1_0 : w1.cell? ⟨w.heap.size + 1, 0, none⟩ = some (.int .i64 0) := (hc _ _ (by (try simp) <;> omega)).trans (by go_simp)
  have c1_1_1 : w1.cell? ⟨w.heap.size + 1, 1, none⟩ = some ((.slice none 0 0)) := (hc _ _ (by (try simp) <;> omega)).trans (by go_simp)
  have z1_1 : ∀ j, w1.frozen? ⟨w.heap.size + 1, j, none⟩ = false := fun j => (hf _ _ (by (try simp) <;> omega)).trans (by go_simp)
  clear hc hf hb1
  go_wp2_with fail
  refine (HA.out _).mono ?_
  rintro en w2 ⟨rfl, rfl⟩
  go_wp2_with fail
  refine (HX.out _ HB1.out).mono ?_
  rintro en w2 ⟨u, rfl, hu, hb2⟩
  obtain ⟨gu, cu, rfl⟩ := hu.1.shape
  have HR : Kp (FB (w.heap.size + 1 + 1) w2 _ L) := ⟨hu.more (by omega)⟩
  clear hu
  have HB2 : Kp (Below w.heap.size w w2) := ⟨Below.trans (by repeat (first | refine Below.alloc ?_ (by have := HB1.out.size; (try simp) <;> omega) _ | refine bDrewN ?_ _ | refine Below.drew ?_ | refine Below.setCell ?_ (by have := HB1.out.size; (try simp) <;> omega) _ | exact HB1.out)) (hb2.mono (by have := HB1.out.size; (try simp) <;> omega))⟩
  have hz2_0 : w.heap.size + 1 < w2.heap.size := by have := hb2.size; (try simp at this); omega
  obtain ⟨hc, hf⟩ := bcell hb2
  have c2_0_0 : w2.cell? ⟨w.heap.size + 1, 0, none⟩ = some (.int .i64 0) := (hc _ _ (by (try simp) <;> omega)).trans (by go_simp)
  have c2_0_1 : w2.cell? ⟨w.heap.size + 1, 1, none⟩ = some ((.slice none 0 0)) := (hc _ _ (by (try simp) <;> omega)).trans (by go_simp)
  have z2_0 : ∀ j, w2.frozen? ⟨w.heap.size + 1, j, none⟩ = false := fun j => (hf _ _ (by (try simp) <;> omega)).trans (by go_simp)
  clear hc hf hb2
  go_wp2
  have HB3 : Below w.heap.size w ((w2.setCell ⟨w.heap.size + 1, 0, none⟩ (.int .i64 s)).setCell ⟨w.heap.size + 1, 1, none⟩ (.slice gu L.length cu)) := by (have hzS := HB2.out.size; (repeat (with_reducible first | exact HB2.out | refine Below.setCell ?_ ?_ _ | refine Below.alloc ?_ ?_ _ | refine Below.drew ?_ | refine bDrewN ?_ _)); all_goals ((try simp) <;> omega))
  have hV2 := (HR.out.set (w.heap.size + 1) 0 (.int .i64 s) (by omega)).set (w.heap.size + 1) 1 (.slice gu L.length cu) (by omega)
  exact bodyPost_ret (v := .tuple #[.agg #[.int .i64 s, .slice gu L.length cu], .int .i64 0]) (by simp [results, Try.results29, go_sem, c2_0_0, c2_0_1]) rfl ⟨_, rfl, hV2.1, HB3⟩
theorem block_sides {n : Int} {m : Nat} (hb : blockB n m = true) : ∃ s : Nat, n = s ∧ 1 ≤ s ∧ s ≤ 10 ∧ m = s * s * s := by
  unfold blockB at hb
  rw [Bool.and_eq_true, decide_eq_true_eq] at hb
  have hs := side_iff.1 hb.1
  obtain ⟨s, rfl⟩ : ∃ s : Nat, n = s := ⟨n.toNat, by omega⟩
  exact ⟨s, rfl, by omega, by omega, by have := hb.2; rw [← Int.natCast_mul, ← Int.natCast_mul] at this; exact Int.ofNat.inj this⟩
theorem View_any (n : Int) (u : Value) (h : List Bool) (ax : Int) (w : World) (hu : LB w u h) : Calls Try.prog 28 #[.agg #[.int .i64 n, u], .int .i64 ax] w (VwPost n h ax w) := by
  cases hb : blockB n h.length with
  | false =>
    obtain ⟨g, c, rfl⟩ := hu.shape
    exact (View_bad n g h.length c ax w hb).mono fun en w' hp => vw_bad (by unfold vwE; rw [hb]; rfl) (by decide) hp
  | true =>
    cases hx : ixB ax 3 with
    | false =>
      obtain ⟨g, c, rfl⟩ := hu.shape
      exact (View_range n g h.length c ax w hb hx).mono fun en w' hp => vw_bad (by unfold vwE; rw [hb, hx]; rfl) (by decide) hp
    | true =>
      have hk : 0 ≤ ax ∧ ax < 3 := by unfold ixB at hx; simpa using hx
      obtain ⟨k, rfl⟩ : ∃ k : Nat, ax = k := ⟨ax.toNat, by omega⟩
      obtain ⟨s, rfl, h1, h2, h3⟩ := block_sides hb
      exact (View_at s k u h w (by omega) h1 h2 h3 hu).mono fun en w' hp => vw_good hb (by omega) (by obtain ⟨g, c, he, hl, hbb⟩ := hp; exact ⟨_, he, hl, hbb⟩)
theorem rView_any (n : Int) (u : Value) (h : List Bool) (ax : Int) (w : World) (hu : LB w u h) : Calls Try.prog 29 #[.agg #[.int .i64 n, u], .int .i64 ax] w (VwPost n h ax w) := by
  cases hb : blockB n h.length with
  | false =>
    obtain ⟨g, c, rfl⟩ := hu.shape
    exact (rView_bad n g h.length c ax w hb).mono fun en w' hp => vw_bad (by unfold vwE; rw [hb]; rfl) (by decide) hp
  | true =>
    cases hx : ixB ax 3 with
    | false =>
      obtain ⟨g, c, rfl⟩ := hu.shape
      exact (rView_range n g h.length c ax w hb hx).mono fun en w' hp => vw_bad (by unfold vwE; rw [hb, hx]; rfl) (by decide) hp
    | true =>
      have hk : 0 ≤ ax ∧ ax < 3 := by unfold ixB at hx; simpa using hx
      obtain ⟨k, rfl⟩ : ∃ k : Nat, ax = k := ⟨ax.toNat, by omega⟩
      obtain ⟨s, rfl, h1, h2, h3⟩ := block_sides hb
      exact (rView_in s k u h w (by omega) h1 h2 h3 hb hu).mono fun en w' hp => vw_good hb (by omega) hp
end Go.Proofs.Yticcafjogmjkiaa.Cv
