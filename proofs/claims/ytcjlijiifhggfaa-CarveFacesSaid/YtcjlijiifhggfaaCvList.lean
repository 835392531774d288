/-
  WALKS (layer 5, carve): the list of the grains that are there.
-/
import Derived.Test.YtcjlijiifhggfaaCvColl
namespace Go.Proofs.Ytcjlijiifhggfaa.Cv
open Go Go.RowKit Go.Sort

theorem collect_any (B H o c s : Nat) (h : List Bool) (w : World) (hs : 1 ≤ s) (hs2 : s ≤ 10) (hl : h.length = s * s * s) (hk : BK B H o c s h w) :
    Calls Try.prog 57 #[.func (.func 79) #[] #[.pointer (some ⟨B, 0, none⟩)]] w fun e w' => ∃ u, e = .returned u ∧ (∃ B0, w.heap.size ≤ B0 ∧ OwnG w' B0 u (grainsL s h)) ∧ Below w.heap.size w w' := by
  have HX : Kp (∀ W, Below w.heap.size w W → Calls Try.prog 84 #[.slice none 0 0, .func (.func 79) #[] #[.pointer (some ⟨B, 0, none⟩)]] W fun e w' => ∃ u, e = .returned u ∧ (∃ B0, W.heap.size ≤ B0 ∧ OwnG w' B0 u (grainsL s h)) ∧ Below W.heap.size W w') := ⟨fun W hW => append_any B H o c s h W hs hs2 hl (hk.on hW)⟩
  clear hl hk
  go_enter Try.func57, Try.ntmps57
  go_wp2_with fail
  refine (HX.out _ (by repeat (first | exact Below.refl _ _ | refine Below.alloc ?_ (by simp <;> omega) _ | refine bDrewN ?_ _ | refine Below.drew ?_))).mono ?_
  rintro en w1 ⟨u, rfl, ⟨B0, hB0, ho⟩, hb1⟩
  have HO : Kp (OwnG w1 B0 u (grainsL s h)) := ⟨ho⟩
  clear ho
  go_wp2
  go_ret
  exact ⟨u, rfl, ⟨B0, hB0, HO.out⟩, hb1⟩
def grnE (n : Int) (h : List Bool) : Int := if blockB n h.length = true then 0 else 1
def grnL (n : Int) (h : List Bool) : List Gr := if blockB n h.length = true then grainsL n.toNat h else []
theorem Grains_inv (n : Int) (g1 : Option Addr) (m c1 : Nat) (w : World) (h : blockB n m = false) : Calls Try.prog 27 #[.agg #[.int .i64 n, .slice g1 m c1]] w fun e w' => e = .returned (.tuple #[.slice none 0 0, .int .i64 1]) ∧ Below w.heap.size w w' := by
  have HB : Kp (∀ W, Calls Try.prog 32 #[.agg #[.int .i64 n, .slice g1 m c1]] W fun e w' => e = .returned (.bool false) ∧ Below W.heap.size W w') := ⟨fun W => h ▸ ValidBlock_any n g1 m c1 W⟩
  clear h
  go_enter Try.func27, Try.ntmps27
  go_wp2_with fail
  refine (HB.out _).mono ?_
  rintro en w1 ⟨rfl, hb1⟩
  have HB1 : Kp (Below w.heap.size w w1) := ⟨Below.trans (by repeat (first | refine Below.alloc ?_ (by (try simp) <;> omega) _ | refine bDrewN ?_ _ | refine Below.drew ?_ | refine Below.setCell ?_ (by (try simp) <;> omega) _ | exact Below.refl _ _)) (hb1.mono (by (try simp) <;> omega))⟩
  have hz1_0 : w.heap.size < w1.heap.size := by have := hb1.size; (try simp at this); omega
  obtain ⟨hc, hf⟩ := bcell hb1
  have c1_0_0 : w1.cell? ⟨w.heap.size, 0, none⟩ = some (.int .i64 n) := (hc _ _ (by (try simp) <;> omega)).trans (by go_simp)
  have c1_0_1 : w1.cell? ⟨w.heap.size, 1, none⟩ = some ((.slice g1 m c1)) := (hc _ _ (by (try simp) <;> omega)).trans (by go_simp)
  have z1_0 : ∀ j, w1.frozen? ⟨w.heap.size, j, none⟩ = false := fun j => (hf _ _ (by (try simp) <;> omega)).trans (by go_simp)
  clear hc hf hb1
  go_wp2
  go_ret2
  exact ⟨rfl, HB1.out⟩
set_option maxHeartbeats 1000000 in
theorem Grains_in (s : Nat) (u : Value) (h : List Bool) (w : World) (hu : LB w u h) (hs : 1 ≤ s) (hs2 : s ≤ 10) (hl : h.length = s * s * s) (hb : blockB s h.length = true) :
    Calls Try.prog 27 #[.agg #[.int .i64 s, u]] w fun e w' => ∃ r, e = .returned (.tuple #[r, .int .i64 0]) ∧ (∃ B0, w.heap.size ≤ B0 ∧ OwnG w' B0 r (grainsL s h)) ∧ Below w.heap.size w w' := by
  obtain ⟨g1, c1, rfl⟩ := hu.shape
  have h0 : 0 < h.length := by
    rw [hl]
    exact Nat.mul_pos (Nat.mul_pos (by omega) (by omega)) (by omega)
  obtain ⟨H, o, rfl, q, hq⟩ : ∃ H o, g1 = some ⟨H, o, none⟩ ∧ ∃ q, w.cell? ⟨H, o, none⟩ = some (.bool q) := by
    obtain ⟨g, c, e, -, hi⟩ := hu
    obtain ⟨b, o, hg, -, hc⟩ := hi 0 _ (List.getElem?_eq_getElem h0)
    simp only [Value.slice.injEq] at e
    exact ⟨b, o, by rw [e.1, hg], _, hc⟩
  have HB : Kp (∀ W, Calls Try.prog 32 #[.agg #[.int .i64 s, .slice (some ⟨H, o, none⟩) h.length c1]] W fun e w' => e = .returned (.bool true) ∧ Below W.heap.size W w') := ⟨fun W => hb ▸ ValidBlock_any s (some ⟨H, o, none⟩) h.length c1 W⟩
  have HX : Kp (∀ W B, Below w.heap.size w W → W.cell? ⟨B, 0, none⟩ = some (.int .i64 s) → W.cell? ⟨B, 1, none⟩ = some (.slice (some ⟨H, o, none⟩) h.length c1) → Calls Try.prog 57 #[.func (.func 79) #[] #[.pointer (some ⟨B, 0, none⟩)]] W fun e w' => ∃ u, e = .returned u ∧ (∃ B0, W.heap.size ≤ B0 ∧ OwnG w' B0 u (grainsL s h)) ∧ Below W.heap.size W w') := ⟨fun W B hW h1 h2 => collect_any B H o c1 s h W hs hs2 hl ⟨h1, h2, hu.below hW, q, (hW.cell (p := ⟨H, o, none⟩) (World.block_lt_of_cell? _ _ hq)).trans hq⟩⟩
  obtain ⟨M, hM⟩ : ∃ M, h.length = M := ⟨_, rfl⟩
  rw [hM] at HB HX
  rw [hM]
  clear hu hl hb h0 hq hM
  go_enter Try.func27, Try.ntmps27
  go_wp2_with fail
  refine (HB.out _).mono ?_
  rintro en w1 ⟨rfl, hb1⟩
  have HB1 : Kp (Below w.heap.size w w1) := ⟨Below.trans (by repeat (first | refine Below.alloc ?_ (by (try simp) <;> omega) _ | refine bDrewN ?_ _ | refine Below.drew ?_ | refine Below.setCell ?_ (by (try simp) <;> omega) _ | exact Below.refl _ _)) (hb1.mono (by (try simp) <;> omega))⟩
  have hz1_0 : w.heap.size < w1.heap.size := by have := hb1.size; (try simp at this); omega
  obtain ⟨hc, hf⟩ := bcell hb1
  have c1_0_0 : w1.cell? ⟨w.heap.size, 0, none⟩ = some (.int .i64 s) := (hc _ _ (by (try simp) <;> omega)).trans (by go_simp)
  have c1_0_1 : w1.cell? ⟨w.heap.size, 1, none⟩ = some ((.slice (some ⟨H, o, none⟩) M c1)) := (hc _ _ (by (try simp) <;> omega)).trans (by go_simp)
  have z1_0 : ∀ j, w1.frozen? ⟨w.heap.size, j, none⟩ = false := fun j => (hf _ _ (by (try simp) <;> omega)).trans (by go_simp)
  clear hc hf hb1
  go_wp2_with fail
  refine (grains_any _ _ _).mono ?_
  rintro en W0 ⟨rfl, hW0⟩
  have q0 : W0.cell? ⟨w1.heap.size, 0, none⟩ = some (.int .i64 s) := by
    subst hW0
    go_simp
  have q1 : W0.cell? ⟨w1.heap.size, 1, none⟩ = some (.slice (some ⟨H, o, none⟩) M c1) := by
    subst hW0
    go_simp
  have HB2 : Kp (Below w.heap.size w W0) := ⟨by rw [← hW0]; exact HB1.out.alloc HB1.out.size _⟩
  clear hW0
  go_wp2_with fail
  refine (HX.out _ _ HB2.out q0 q1).mono ?_
  rintro en w2 ⟨u, rfl, ⟨B0, hB0, ho⟩, hb2⟩
  have HO : Kp (OwnG w2 B0 u (grainsL s h)) := ⟨ho⟩
  have HB3 := Kp.mk (HB2.out.trans (hb2.mono HB2.out.size))
  have HZ : Kp (w.heap.size ≤ B0) := ⟨Nat.le_trans HB2.out.size hB0⟩
  clear ho hb2 q0 q1 hB0
  go_wp2
  go_ret2
  exact ⟨u, rfl, ⟨B0, HZ.out, HO.out⟩, HB3.out⟩
theorem Grains_any (n : Int) (u : Value) (h : List Bool) (w : World) (hu : LB w u h) :
    Calls Try.prog 27 #[.agg #[.int .i64 n, u]] w fun e w' => ∃ r, e = .returned (.tuple #[r, .int .i64 (grnE n h)]) ∧ (∃ B0, w.heap.size ≤ B0 ∧ OwnG w' B0 r (grnL n h)) ∧ Below w.heap.size w w' := by
  cases hb : blockB n h.length with
  | false =>
    have e1 : grnE n h = 1 := by unfold grnE; rw [hb]; rfl
    have e2 : grnL n h = [] := by unfold grnL; rw [hb]; rfl
    rw [e1, e2]
    obtain ⟨g1, c1, rfl⟩ := hu.shape
    exact (Grains_inv n g1 h.length c1 w hb).mono fun en w' ⟨ha, hbw⟩ => ⟨_, ha, ⟨_, Nat.le_refl _, OwnG.nil _ _⟩, hbw⟩
  | true =>
    have hb2 := hb
    unfold blockB at hb2
    rw [Bool.and_eq_true, decide_eq_true_eq] at hb2
    have hs := side_iff.1 hb2.1
    obtain ⟨s, rfl⟩ : ∃ s : Nat, n = s := ⟨n.toNat, by omega⟩
    have e1 : grnE s h = 0 := by unfold grnE; rw [hb]; rfl
    have e2 : grnL s h = grainsL s h := by unfold grnL; rw [hb]; rfl
    rw [e1, e2]
    exact Grains_in s u h w hu (by omega) (by omega) (by have := hb2.2; rw [← Int.natCast_mul, ← Int.natCast_mul] at this; exact Int.ofNat.inj this) hb
end Go.Proofs.Ytcjlijiifhggfaa.Cv
