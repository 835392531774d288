/-
  WALKS (layer 5, carve): a block without some grains, by the reference.
-/
import Derived.Test.YtcjlijiifhggfaaCvRefE
import Derived.Test.YtcjlijiifhggfaaCvLessC
namespace Go.Proofs.Ytcjlijiifhggfaa.Cv
open Go Go.RowKit Go.Sort

theorem region_name0 {id : Nat} {P : Program} {ops : Array Oper} {Q : Exit → Act → World → Prop} {a : Act} {w : World} (h : ∀ ops' Q', ops' = ops → Q' = Q → (Code.region id ops' true).wp P Q' a w) : (Code.region id ops true).wp P Q a w := h ops Q rfl rfl
theorem less_at {s : Nat} {h : List Bool} {l : List Gr} {x : Gr} (hx : x ∈ placesL s) : ∃ k : Nat, idx s x = k ∧ k < s * s * s ∧ lessL s h (l ++ [x]) = (lessL s h l).set k false := by
  obtain ⟨j, hj, rfl⟩ := List.mem_map.1 hx
  have hj := List.mem_range.1 hj
  refine ⟨j, grAt_idx s j, hj, ?_⟩
  apply List.ext_getElem?
  intro i
  rw [List.getElem?_set]
  unfold lessL
  rw [List.length_map, places_len, List.getElem?_map, List.getElem?_map]
  by_cases hi : j = i
  · subst hi
    rw [if_pos rfl, if_pos hj, places_at hj]
    simp [lessB]
  · rw [if_neg hi]
    by_cases hil : i < s * s * s
    · rw [places_at hil]
      simp only [Option.map_some, Option.some.injEq]
      have hne : grAt s i ≠ grAt s j := fun e => hi (by
        have h1 := grAt_idx s i
        have h2 := grAt_idx s j
        rw [e, h2] at h1
        exact Int.ofNat.inj h1)
      simp [lessB, hne]
    · rw [List.getElem?_eq_none (by rw [places_len]; omega)]
      rfl
theorem less_len (s : Nat) (h : List Bool) (l : List Gr) : (lessL s h l).length = s * s * s := by unfold lessL; rw [List.length_map, places_len]
theorem less_none {s : Nat} {h : List Bool} (hl : h.length = s * s * s) : lessL s h [] = h := by
  refine Eq.trans ?_ (has_back hl)
  unfold lessL
  refine List.map_congr_left fun g _ => ?_
  simp [lessB]
/-- The worlds in the midst of the drawn statement. -/
structure DrI (W1 : World) (B s N H o c1 : Nat) (h : List Bool) (mo : Option (Nat × Nat)) (qo : Option Nat) (V : World) : Prop where
  below : Below W1.heap.size W1 V
  b0 : V.cell? ⟨B, 0, none⟩ = some (.int .i64 s)
  b1 : V.cell? ⟨B, 1, none⟩ = some (.slice (some ⟨H, o, none⟩) N c1)
  src : ∀ j x, h[j]? = some x → V.cell? ⟨H, o + j, none⟩ = some (.bool x)
  len : h.length = N ∧ 0 < N ∧ N ≤ 1000
  row : ∀ M cap, mo = some (M, cap) → W1.heap.size ≤ M ∧ MR M N cap h V
  box : ∀ Q, qo = some Q → W1.heap.size ≤ Q ∧ V.cell? ⟨Q, 0, none⟩ = some (.int .i64 0) ∧ V.cell? ⟨Q, 1, none⟩ = some (.slice none 0 0) ∧ ∀ j, V.frozen? ⟨Q, j, none⟩ = false
  ne : ∀ M cap Q, mo = some (M, cap) → qo = some Q → M ≠ Q
theorem DrI.on {W1 V X : World} {B s N H o c1 : Nat} {h : List Bool} {mo : Option (Nat × Nat)} {qo : Option Nat} (k : DrI W1 B s N H o c1 h mo qo V) (hb : Below V.heap.size V X) : DrI W1 B s N H o c1 h mo qo X := by
  have l : ∀ {b i : Nat} {v : Value}, V.cell? ⟨b, i, none⟩ = some v → X.cell? ⟨b, i, none⟩ = some v := fun hv => (hb.cell (p := ⟨_, _, none⟩) (World.block_lt_of_cell? _ _ hv)).trans hv
  refine ⟨k.below.trans (hb.mono k.below.size), l k.b0, l k.b1, fun j x hx => l (k.src j x hx), k.len, fun M cap e => ⟨(k.row M cap e).1, (k.row M cap e).2.on k.len.2.1 hb⟩, fun Q e => ?_, k.ne⟩
  obtain ⟨h1, h2, h3, h4⟩ := k.box Q e
  exact ⟨h1, l h2, l h3, fun j => (hb.frozen (p := ⟨Q, j, none⟩) (World.block_lt_of_cell? _ ⟨Q, 0, none⟩ h2)).trans (h4 j)⟩
theorem DrI.cells {W1 V : World} {B s N H o c1 : Nat} {h : List Bool} {mo : Option (Nat × Nat)} {qo : Option Nat} (k : DrI W1 B s N H o c1 h mo qo V) : V.cell? ⟨B, 0, none⟩ = some (.int .i64 s) ∧ V.cell? ⟨B, 1, none⟩ = some (.slice (some ⟨H, o, none⟩) N c1) := ⟨k.b0, k.b1⟩
theorem DrI.empty {W1 V : World} {B s N H o c1 : Nat} {h : List Bool} {mo : Option (Nat × Nat)} {qo : Option Nat} (k : DrI W1 B s N H o c1 h mo qo V) {t : TypeId} : DrI W1 B s N H o c1 h mo qo (V.alloc (.cells #[] t)) := k.on ((Below.refl _ _).alloc (Nat.le_refl _) _)
theorem DrI.boxed {W1 V : World} {B s N H o c1 : Nat} {h : List Bool} {mo : Option (Nat × Nat)} (k : DrI W1 B s N H o c1 h mo none V) {t : TypeId} : DrI W1 B s N H o c1 h mo (some V.heap.size) (V.alloc (.cells #[.int .i64 0, .slice none 0 0] t)) := by
  have k2 := k.on ((Below.refl _ _).alloc (Nat.le_refl _) (.cells #[.int .i64 0, .slice none 0 0] t))
  refine ⟨k2.below, k2.b0, k2.b1, k2.src, k2.len, k2.row, fun Q e => ?_, fun M cap Q e e2 => ?_⟩
  · simp only [Option.some.injEq] at e
    subst e
    exact ⟨k.below.size, by go_simp, by go_simp, fun j => by go_simp⟩
  · simp only [Option.some.injEq] at e2
    subst e2
    exact Nat.ne_of_lt ((k.row M cap e).2.lt k.len.2.1)
theorem DrI.app {W1 V : World} {B s N H o c1 : Nat} {h : List Bool} {qo : Option Nat} (k : DrI W1 B s N H o c1 h none qo V) (Z : Nat) : ∃ cap w6, (Builtin.append_ #[22, 22] 22 #[.slice (some ⟨Z, 0, none⟩) 0 0, .slice (some ⟨H, o, none⟩) N c1]).run Try.prog V = .ok (.slice (some ⟨V.heap.size, 0, none⟩) N cap) w6 ∧ DrI W1 B s N H o c1 h (some (V.heap.size, cap)) qo w6 := by
  obtain ⟨cap, w6, hrun, hm, hb, hz⟩ := run_app0 V Z H o c1 h (by have := k.len; omega) (by have := k.len; omega) k.src
  rw [k.len.1] at hrun hm
  have k2 := k.on hb
  refine ⟨cap, w6, hrun, k2.below, k2.b0, k2.b1, k2.src, k2.len, fun M c e => ?_, k2.box, fun M c Q e e2 => ?_⟩
  · simp only [Option.some.injEq, Prod.mk.injEq] at e
    obtain ⟨rfl, rfl⟩ := e
    exact ⟨k.below.size, hm⟩
  · simp only [Option.some.injEq, Prod.mk.injEq] at e
    obtain ⟨rfl, rfl⟩ := e
    have := World.block_lt_of_cell? _ _ (k.box Q e2).2.1
    simp only at this
    omega
/-- The world of the loop: the block's side, the row of marks, the block that is made, the result's cells. -/
structure DlI (w : World) (B M cap Q s N : Nat) (L : List Bool) (W : World) : Prop where
  below : Below w.heap.size w W
  mr : MR M N cap L W
  b0 : W.cell? ⟨B, 0, none⟩ = some (.int .i64 s)
  c0 : W.cell? ⟨Q, 0, none⟩ = some (.int .i64 s)
  c1 : W.cell? ⟨Q, 1, none⟩ = some (.slice (some ⟨M, 0, none⟩) N cap)
  r0 : W.cell? ⟨B + 1, 0, none⟩ = some (.int .i64 0)
  r1 : W.cell? ⟨B + 1, 1, none⟩ = some (.slice none 0 0)
  rz : ∀ j, W.frozen? ⟨B + 1, j, none⟩ = false
theorem DlI.on {w W V : World} {B M cap Q s N : Nat} {L : List Bool} (k : DlI w B M cap Q s N L W) (hN : 0 < N) (hb : Below W.heap.size W V) : DlI w B M cap Q s N L V := by
  have l : ∀ {b i : Nat} {v : Value}, W.cell? ⟨b, i, none⟩ = some v → V.cell? ⟨b, i, none⟩ = some v := fun hv => (hb.cell (p := ⟨_, _, none⟩) (World.block_lt_of_cell? _ _ hv)).trans hv
  exact ⟨k.below.trans (hb.mono k.below.size), k.mr.on hN hb, l k.b0, l k.c0, l k.c1, l k.r0, l k.r1, fun j => (hb.frozen (p := ⟨B + 1, j, none⟩) (World.block_lt_of_cell? _ ⟨B + 1, 0, none⟩ k.r0)).trans (k.rz j)⟩
theorem DlI.set_ {w W : World} {B M cap Q s N j : Nat} {L L' : List Bool} (k : DlI w B M cap Q s N L W) (hj : j < N) (hL : L' = L.set j false) (hMQ : M ≠ Q) (hM : B + 1 < M) (hB : w.heap.size = B) : DlI w B M cap Q s N L' (W.setCell ⟨M, j, none⟩ (.bool false)) := by
  have o : ∀ b i, b ≠ M → (W.setCell ⟨M, j, none⟩ (.bool false)).cell? ⟨b, i, none⟩ = W.cell? ⟨b, i, none⟩ := fun b i hb => World.cell?_setCell_other _ _ _ _ (by intro he; simp only [Addr.mk.injEq] at he; exact hb he.1.symm)
  exact ⟨k.below.setCell (by simp only; omega) _, hL ▸ k.mr.set_ hj false, (o _ _ (by omega)).trans k.b0, (o _ _ (Ne.symm hMQ)).trans k.c0, (o _ _ (Ne.symm hMQ)).trans k.c1, (o _ _ (by omega)).trans k.r0, (o _ _ (by omega)).trans k.r1, fun i => by simp [go_sem, k.rz]⟩
/-- The begin of the loop, behind the drawn statement. -/
theorem DlI.start {w W1 V : World} {B s N H o c1 M cap Q : Nat} {h : List Bool} (k : DrI W1 B s N H o c1 h (some (M, cap)) (some Q) V) (hB : w.heap.size = B) (hb : Below w.heap.size w W1) (hz : B + 1 < W1.heap.size) (r0 : W1.cell? ⟨B + 1, 0, none⟩ = some (.int .i64 0)) (r1 : W1.cell? ⟨B + 1, 1, none⟩ = some (.slice none 0 0)) (rz : ∀ j, W1.frozen? ⟨B + 1, j, none⟩ = false) :
    DlI w B M cap Q s N h ((V.setCell ⟨Q, 0, none⟩ (.int .i64 s)).setCell ⟨Q, 1, none⟩ (.slice (some ⟨M, 0, none⟩) N cap)) ∧ M ≠ Q ∧ B + 1 < M := by
  obtain ⟨q1, q2, q3, -⟩ := k.box Q rfl
  obtain ⟨m1, m2⟩ := k.row M cap rfl
  have hne := k.ne M cap Q rfl rfl
  have o : ∀ b i, b ≠ Q → ((V.setCell ⟨Q, 0, none⟩ (.int .i64 s)).setCell ⟨Q, 1, none⟩ (.slice (some ⟨M, 0, none⟩) N cap)).cell? ⟨b, i, none⟩ = V.cell? ⟨b, i, none⟩ := fun b i hb => (World.cell?_setCell_other _ _ _ _ (by intro he; simp only [Addr.mk.injEq] at he; exact hb he.1.symm)).trans (World.cell?_setCell_other _ _ _ _ (by intro he; simp only [Addr.mk.injEq] at he; exact hb he.1.symm))
  have g1 := setCell_grown V Q 0 (.int .i64 s)
  have g2 := setCell_grown (V.setCell ⟨Q, 0, none⟩ (.int .i64 s)) Q 1 (.slice (some ⟨M, 0, none⟩) N cap)
  have hm : some M ≠ some Q := fun e => hne (Option.some.inj e)
  have hML := m2.lt k.len.2.1
  have rr : ∀ {i : Nat} {v : Value}, W1.cell? ⟨B + 1, i, none⟩ = some v → V.cell? ⟨B + 1, i, none⟩ = some v := fun hv => (k.below.cell (p := ⟨_, _, none⟩) (World.block_lt_of_cell? _ _ hv)).trans hv
  refine ⟨⟨?_, m2.same (Nat.le_trans g1.size g2.size) ((g2.block M (Nat.lt_of_lt_of_le hML g1.size) hm).trans (g1.block M hML hm)), (o _ _ (by omega)).trans k.b0, ?_, ?_, (o _ _ (by omega)).trans (rr r0), (o _ _ (by omega)).trans (rr r1), fun j => ?_⟩, hne, by omega⟩
  · have := hb.size
    exact ((hb.trans (k.below.mono hb.size)).setCell (by simp only; omega) _).setCell (by simp only; omega) _
  · simp [go_sem, q2]
  · simp [go_sem, q3]
  · have h1 := (k.below.frozen (p := ⟨B + 1, j, none⟩) hz).trans (rz j)
    simp [go_sem, h1]
theorem rCar_bad {n : Int} {h : List Bool} {l : List Gr} {w w' : World} {r : Int} (g : carE n h l = r) (hr : r ≠ 0) (hb : Below w.heap.size w w') : ∃ u, Ending.returned (.tuple #[.agg #[.int .i64 0, .slice none 0 0], .int .i64 r]) = .returned (.tuple #[u, .int .i64 (carE n h l)]) ∧ VF w.heap.size w' u (carS n h l) (carL n h l) ∧ Below w.heap.size w w' := by
  obtain ⟨e1, e2⟩ := car_bad g hr
  rw [g, e1, e2]
  exact ⟨_, rfl, VF.nil _ _, hb⟩
attribute [-go_sem] Builtin.append_
end Go.Proofs.Ytcjlijiifhggfaa.Cv
