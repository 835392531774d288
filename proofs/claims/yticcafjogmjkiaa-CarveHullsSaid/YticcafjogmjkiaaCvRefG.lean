/-
  WALKS (layer 5, carve): a block without some grains, by the reference.
-/
import Derived.Test.YticcafjogmjkiaaCvRefE
import Derived.Test.YticcafjogmjkiaaCvLessC
namespace Go.Proofs.Yticcafjogmjkiaa.Cv
open Go Go.RowKit Go.Sort

theorem region_name0 {id : Nat} {P : Program} {ops : Array Oper} {Q : Exit → Act → World → Prop} {a : Act} {w : World} (h : ∀ ops' Q', ops' = ops → Q' = Q → (Code.region id ops' true).wp P Q' a w) : (Code.region id ops true).wp P Q a w := h ops Q rfl rfl
theorem less_at {s : Nat} {h : List Bool} {l : List Gr} {x : Gr} (hx : x ∈ placesL s) : ∃ k : Nat, idx s x = k ∧ k < s * s * s ∧ lessL s h (l ++ [x]) = (lessL s h l).set k false := by
  obtain ⟨j, hj, rfl⟩ := List.mem_map.1 hx
  have hj := List.mem_range.1 hj
  refine ⟨j, grAt_idx s j, hj, ?_⟩
  apply List.ext_getElem?
  intro i
  rw [List.getElem?_set]
  unfold lessL
  rw [List.length_map, places_len, List.getElem?_map, List.getElem?_map]
  by_cases hi : j = i
  · subst hi
    rw [if_pos rfl, if_pos hj, places_at hj]
    simp [lessB]
  · rw [if_neg hi]
    by_cases hil : i < s * s * s
    · rw [places_at hil]
      simp only [Option.map_some, Option.some.injEq]
      have hne : grAt s i ≠ grAt s j := fun e => hi (by
        have h1 := grAt_idx s i
        have h2 := grAt_idx s j
        rw [e, h2] at h1
        exact Int.ofNat.inj h1)
      simp [lessB, hne]
    · rw [List.getElem?_eq_none (by rw [places_len]; omega)]
      rfl
theorem less_len (s : Nat) (h : List Bool) (l : List Gr) : (lessL s h l).length = s * s * s := by unfold lessL; rw [List.length_map, places_len]
theorem less_none {s : Nat} {h : List Bool} (hl : h.length = s * s * s) : lessL s h [] = h := by
  refine Eq.trans ?_ (has_back hl)
  unfold lessL
  refine List.map_congr_left fun g _ => ?_
  simp [lessB]
/-- The worlds in the midst of the drawn statement. -/
structure DrI (W1 : World) (B s N H o c1 : Nat) (h : List Bool) (mo : Option (Nat × Nat)) (qo : Option Nat) (V : World) : Prop where
  below : Below W1.heap.size W1 V
  b0 : V.cell? ⟨B, 0, none⟩ = some (.int .i64 s)
  b1 : V.cell? ⟨B, 1, none⟩ = some (.slice (some ⟨H, o, none⟩) N c1)
  src : ∀ j x, h[j]? = some x → V.cell? ⟨H, o + j, none⟩ = some (.bool x)
  len : h.length = N ∧ 0 < N ∧ N ≤ 1000
  row : ∀ M cap, mo = some (M, cap) → W1.heap.size ≤ M ∧ MR M N cap h V
  box : ∀ Q, qo = some Q → W1.heap.size ≤ Q ∧ V.cell? ⟨Q, 0, none⟩ = some (.int .i64 0) ∧ V.cell? ⟨Q, 1, none⟩ = some (.slice none 0 0) ∧ ∀ j, V.frozen? ⟨Q, j, none⟩ = false
  ne : ∀ M cap Q, mo = some (M, cap) → qo = some Q → M ≠ Q
theorem DrI.on {W1 V X : World} {B s N H o c1 : Nat} {h : List Bool} {mo : Option (Nat × Nat)} {qo : Option Nat} (k : DrI W1 B s N H o c1 h mo qo V) (hb : Below V.heap.size V X) : DrI W1 B s N H o c1 h mo qo X := by
  have l : ∀ {b i : Nat} {v : Value}, V.cell? ⟨b, i, none⟩ = some v → X.cell? ⟨b, i, none⟩ = some v := fun hv => (hb.cell (p := ⟨_, _, none⟩) (World.block_lt_of_cell? _ _ hv)).trans hv
  refine ⟨k.below.trans (hb.mono k.below.size), l k.b0, l k.b1, fun j x hx => l (k.src j x hx), k.len, fun M cap e => ⟨(k.row M cap e).1, (k.row M cap e).2.on k.len.2.1 hb⟩, fun Q e => ?_, k.ne⟩
  obtain ⟨h1, h2, h3, h4⟩ := k.box Q e
  exact ⟨h1, l h2, l h3, fun j => (hb.frozen (p := ⟨Q, j, none⟩) (World.block_lt_of_cell? _ ⟨Q, 0, none⟩ h2)).trans (h4 j)⟩
theorem DrI.cells {W1 V : World} {B s N H o c1 : Nat} {h : List Bool} {mo : Option (Nat × Nat)} {qo : Option Nat} (k : DrI W1 B s N H o c1 h mo qo V) : V.cell? ⟨B, 0, none⟩ = some (.int .i64 s) ∧ V.cell? ⟨B, 1, none⟩ = some (.slice (some ⟨H, o, none⟩) N c1) := ⟨k.b0, k.b1⟩
theorem DrI.empty {W1 V : World} {B s N H o c1 : Nat} {h : List Bool} {mo : Option (Nat × Nat)} {qo : Option Nat} (k : DrI W1 B s N H o c1 h mo qo V) {t : TypeId} : DrI W1 B s N H o c1 h mo qo (V.alloc (.cells #[] t)) := k.on ((Below.refl _ _).alloc (Nat.le_refl _) _)
theorem DrI.boxed {W1 V : World} {B s N H o c1 : Nat} {h : List Bool} {mo : Option (Nat × Nat)} (k : DrI W1 B s N H o c1 h mo none V) {t : TypeId} : DrI W1 B s N H o c1 h mo (some V.heap.size) (V.alloc (.cells #[.int .i64 0, .slice none 0 0] t)) := by
  have k2 := k.on ((Below.refl _ _).alloc (Nat.le_refl _) (.cells #[.int .i64 0, .slice none 0 0] t))
  refine ⟨k2.below, k2.b0, k2.b1, k2.src, k2.len, k2.row, fun Q e => ?_, fun M cap Q e e2 => ?_⟩
  · simp only [Option.some.injEq] at e
    subst e
    exact ⟨k.below.size, by go_simp, by go_simp, fun j => by go_simp⟩
  · simp only [Option.some.injEq] at e2
    subst e2
    exact Nat.ne_of_lt ((k.row M cap e).2.lt k.len.2.1)
theorem DrI.app {W1 V : World} {B s N H o c1 : Nat} {h : List Bool} {qo : Option Nat} (k : DrI W1 B s N H o c1 h none qo V) (Z : Nat) : ∃ cap w6, (Builtin.append_ #[22, 22] 22 #[.slice (some ⟨Z, 0, none⟩) 0 0, .slice (some ⟨H, o, none⟩) N c1]).run Try.prog V = .ok (.slice (some ⟨V.heap.size, 0, none⟩) N cap) w6 ∧ DrI W1 B s N H o c1 h (some (V.heap.size, cap)) qo w6 := by
  obtain ⟨cap, w6, hrun, hm, hb, hz⟩ := run_app0 V Z H o c1 h (by have := k.len; omega) (by have := k.len; omega) k.src
  rw [k.len.1] at hrun hm
  have k2 := k.on hb
  refine ⟨cap, w6, hrun, k2.below, k2.b0, k2.b1, k2.src, k2.len, fun M c e => ?_, k2.box, fun M c Q e e2 => ?_⟩
  · simp only [Option.some.injEq, Prod.mk.injEq] at e
    obtain ⟨rfl, rfl⟩ := e
    exact ⟨k.below.size, hm⟩
  · simp only [Option.some.injEq, Prod.mk.injEq] at e
    obtain ⟨rfl, rfl⟩ := e
    have := World.block_lt_of_cell? _ _ (k.box Q e2).2.1
    simp only at this
    omega
/-- The world of the loop: the block's side, the row of marks, the block that is made, the result's cells. -/
structure DlI (w : World) (B M cap Q s N : Nat) (L : List Bool) (W : World) : Prop where
  below : Below w.heap.size w W
  mr : MR M N cap L W
  b0 : W.cell? ⟨B, 0, none⟩ = some (.int .i64 s)
  c0 : W.cell? ⟨Q, 0, none⟩ = some (.int .i64 s)
  c1 : W.cell? ⟨Q, 1, none⟩ = some (.slice (some ⟨M, 0, none⟩) N cap)
  r0 : W.cell? ⟨B + 1, 0, none⟩ = some (.int .i64 0)
  r1 : W.cell? ⟨B + 1, 1, none⟩ = some (.slice none 0 0)
  rz : ∀ j, W.frozen? ⟨B + 1, j, none⟩ = false
theorem DlI.on {w W V : World} {B M cap Q s N : Nat} {L : List Bool} (k : DlI w B M cap Q s N L W) (hN : 0 < N) (hb : Below W.heap.size W V) : DlI w B M cap Q s N L V := by
  have l : ∀ {b i : Nat} {v : Value}, W.cell? ⟨b, i, none⟩ = some v → V.cell? ⟨b, i, none⟩ = some v := fun hv => (hb.cell (p := ⟨_, _, none⟩) (World.block_lt_of_cell? _ _ hv)).trans hv
  exact ⟨k.below.trans (hb.mono k.below.size), k.mr.on hN hb, l k.b0, l k.c0, l k.c1, l k.r0, l k.r1, fun j => (hb.frozen (p := ⟨B + 1, j, none⟩) (World.block_lt_of_cell? _ ⟨B + 1, 0, none⟩ k.r0)).trans (k.rz j)⟩
theorem DlI.set_ {w W : World} {B M cap Q s N j : Nat} {L L' : List Bool} (k : DlI w B M cap Q s N L W) (hj : j < N) (hL : L' = L.set j false) (hMQ : M ≠ Q) (hM : B + 1 < M) (hB : w.heap.size = B) : DlI w B M cap Q s N L' (W.setCell ⟨M, j, none⟩ (.bool false)) := by
  have o : ∀ b i, b ≠ M → (W.setCell ⟨M, j, none⟩ (.bool false)).cell? ⟨b, i, none⟩ = W.cell? ⟨b, i, none⟩ := fun b i hb => World.cell?_setCell_other _ _ _ _ (by intro he; simp only [Addr.mk.injEq] at he; exact hb he.1.symm)
  exact ⟨k.below.setCell (by simp only; omega) _, hL ▸ k.mr.set_ hj false, (o _ _ (by omega)).trans k.b0, (o _ _ (Ne.symm hMQ)).trans k.c0, (o _ _ (Ne.symm hMQ)).trans k.c1, (o _ _ (by omega)).trans k.r0, (o _ _ (by omega)).trans k.r1, fun i => by simp [go_sem, k.rz]⟩
/-- The begin of the loop, behind the drawn statement. -/
theorem DlI.start {w W1 V : World} {B s N H o c1 M cap Q : Nat} {h : List Bool} (k : DrI W1 B s N H o c1 h (some (M, cap)) (some Q) V) (hB : w.heap.size = B) (hb : Below w.heap.size w W1) (hz : B + 1 < W1.heap.size) (r0 : W1.cell? ⟨B + 1, 0, none⟩ = some (.int .i64 0)) (r1 : W1.cell? ⟨B + 1, 1, none⟩ = some (.slice none 0 0)) (rz : ∀ j, W1.frozen? ⟨B + 1, j, none⟩ = false) :
    DlI w B M cap Q s N h ((V.setCell ⟨Q, 0, none⟩ (.int .i64 s)).setCell ⟨Q, 1, none⟩ (.slice (some ⟨M, 0, none⟩) N cap)) ∧ M ≠ Q ∧ B + 1 < M := by
  obtain ⟨q1, q2, q3, -⟩ := k.box Q rfl
  obtain ⟨m1, m2⟩ := k.row M cap rfl
  have hne := k.ne M cap Q rfl rfl
  have o : ∀ b i, b ≠ Q → ((V.setCell ⟨Q, 0, none⟩ (.int .i64 s)).setCell ⟨Q, 1, none⟩ (.slice (some ⟨M, 0, none⟩) N cap)).cell? ⟨b, i, none⟩ = V.cell? ⟨b, i, none⟩ := fun b i hb => (World.cell?_setCell_other _ _ _ _ (by intro he; simp only [Addr.mk.injEq] at he; exact hb he.1.symm)).trans (World.cell?_setCell_other _ _ _ _ (by intro he; simp only [Addr.mk.injEq] at he; exact hb he.1.symm))
  have g1 := setCell_grown V Q 0 (.int .i64 s)
  have g2 := setCell_grown (V.setCell ⟨Q, 0, none⟩ (.int .i64 s)) Q 1 (.slice (some ⟨M, 0, none⟩) N cap)
  have hm : some M ≠ some Q := fun e => hne (Option.some.inj e)
  have hML := m2.lt k.len.2.1
  have rr : ∀ {i : Nat} {v : Value}, W1.cell? ⟨B + 1, i, none⟩ = some v → V.cell? ⟨B + 1, i, none⟩ = some v := fun hv => (k.below.cell (p := ⟨_, _, none⟩) (World.block_lt_of_cell? _ _ hv)).trans hv
  refine ⟨⟨?_, m2.same (Nat.le_trans g1.size g2.size) ((g2.block M (Nat.lt_of_lt_of_le hML g1.size) hm).trans (g1.block M hML hm)), (o _ _ (by omega)).trans k.b0, ?_, ?_, (o _ _ (by omega)).trans (rr r0), (o _ _ (by omega)).trans (rr r1), fun j => ?_⟩, hne, by omega⟩
  · have := hb.size
    exact ((hb.trans (k.below.mono hb.size)).setCell (by simp only; omega) _).setCell (by simp only; omega) _
  · simp [go_sem, q2]
  · simp [go_sem, q3]
  · have h1 := (k.below.frozen (p := ⟨B + 1, j, none⟩) hz).trans (rz j)
    simp [go_sem, h1]
theorem rCar_bad {n : Int} {h : List Bool} {l : List Gr} {w w' : World} {r : Int} (g : carE n h l = r) (hr : r ≠ 0) (hb : Below w.heap.size w w') : ∃ u, Ending.returned (.tuple #[.agg #[.int .i64 0, .slice none 0 0], .int .i64 r]) = .returned (.tuple #[u, .int .i64 (carE n h l)]) ∧ VF w.heap.size w' u (carS n h l) (carL n h l) ∧ Below w.heap.size w w' := by
  obtain ⟨e1, e2⟩ := car_bad g hr
  rw [g, e1, e2]
  exact ⟨_, rfl, VF.nil _ _, hb⟩
theorem rCarved_inv (n : Int) (g1 : Option Addr) (m c1 : Nat) (v : Value) (l : List Gr) (w : World) (hv : GS w v l) (h : blockB n m = false) : Calls Try.prog 35 #[.agg #[.int .i64 n, .slice g1 m c1], v] w (OfNo w 1) := by
  have HB : Kp (∀ W, Calls Try.prog 18 #[.agg #[.int .i64 n, .slice g1 m c1]] W fun e w' => e = .returned (.bool false) ∧ Below W.heap.size W w') := ⟨fun W => h ▸ rValidBlock_any n g1 m c1 W⟩
  obtain ⟨gv, cv, rfl⟩ := hv.shape
  clear hv h
  go_enter Try.func35, Try.ntmps35
  go_wp2_with fail
  refine (HB.out _).mono ?_
  rintro en w1 ⟨rfl, hb1⟩
  have HB1 : Kp (Below w.heap.size w w1) := ⟨Below.trans (by repeat (first | refine Below.alloc ?_ (by (try simp) <;> omega) _ | refine bDrewN ?_ _ | refine Below.drew ?_ | refine Below.setCell ?_ (by (try simp) <;> omega) _ | exact Below.refl _ _)) (hb1.mono (by (try simp) <;> omega))⟩
  have hz1_0 : w.heap.size < w1.heap.size := by have := hb1.size; (try simp at this); omega
  have hz1_1 : w.heap.size + 1 < w1.heap.size := by have := hb1.size; (try simp at this); omega
  obtain ⟨hc, hf⟩ := bcell hb1
  have c1_0_0 : w1.cell? ⟨w.heap.size, 0, none⟩ = some (.int .i64 n) := (hc _ _ (by (try simp) <;> omega)).trans (by go_simp)
  have c1_0_1 : w1.cell? ⟨w.heap.size, 1, none⟩ = some ((.slice g1 m c1)) := (hc _ _ (by (try simp) <;> omega)).trans (by go_simp)
  have z1_0 : ∀ j, w1.frozen? ⟨w.heap.size, j, none⟩ = false := fun j => (hf _ _ (by (try simp) <;> omega)).trans (by go_simp)
  have c1_1_0 : w1.cell? ⟨w.heap.size + 1, 0, none⟩ = some (.int .i64 0) := (hc _ _ (by (try simp) <;> omega)).trans (by go_simp)
  have c1_1_1 : w1.cell? ⟨w.heap.size + 1, 1, none⟩ = some ((.slice none 0 0)) := (hc _ _ (by (try simp) <;> omega)).trans (by go_simp)
  have z1_1 : ∀ j, w1.frozen? ⟨w.heap.size + 1, j, none⟩ = false := fun j => (hf _ _ (by (try simp) <;> omega)).trans (by go_simp)
  clear hc hf hb1
  go_wp2
  exact bodyPost_ret (v := .tuple #[.agg #[.int .i64 0, .slice none 0 0], .int .i64 1]) (by simp [results, Try.results35, go_sem, c1_1_0, c1_1_1]) rfl ⟨rfl, by (have hzS := HB1.out.size; (repeat (with_reducible first | exact HB1.out | refine Below.setCell ?_ ?_ _ | refine Below.alloc ?_ ?_ _ | refine Below.drew ?_ | refine bDrewN ?_ _)); all_goals ((try simp) <;> omega))⟩
attribute [-go_sem] Builtin.append_
set_option maxRecDepth 100000 in
set_option maxHeartbeats 4000000 in
theorem rCarved_in (s N c1 : Nat) (g1 : Option Addr) (v : Value) (h : List Bool) (l : List Gr) (w : World) (hu : LB w (.slice g1 N c1) h) (hv : GS w v l) (hm : l.length ≤ 4611686018427387904) (hs1 : 1 ≤ s) (hs2 : s ≤ 10) (hl : h.length = N) (hN : s * s * s = N) (hb : blockB s N = true) :
    Calls Try.prog 35 #[.agg #[.int .i64 s, .slice g1 N c1], v] w fun en w' => ∃ r, en = .returned (.tuple #[r, .int .i64 (carE s h l)]) ∧ VF w.heap.size w' r (carS s h l) (carL s h l) ∧ Below w.heap.size w w' := by
  have HBV : Kp (blockB s h.length = true) := ⟨by rw [hl]; exact hb⟩
  have HB : Kp (∀ W, Calls Try.prog 18 #[.agg #[.int .i64 s, .slice g1 N c1]] W fun e w' => e = .returned (.bool true) ∧ Below W.heap.size W w') := ⟨fun W => hb ▸ rValidBlock_any s g1 N c1 W⟩
  have HNN : Kp (h.length = N ∧ 0 < N ∧ N ≤ 1000) := ⟨hl, by rw [← hN]; exact Nat.mul_pos (Nat.mul_pos hs1 hs1) hs1, by rw [← hN]; exact (cube_bd hs2).2⟩
  obtain ⟨H, o, rfl⟩ : ∃ H o, g1 = some ⟨H, o, none⟩ := by
    obtain ⟨g, c, e, -, hi⟩ := hu
    obtain ⟨b, o, hg, -⟩ := hi 0 _ (List.getElem?_eq_getElem (by have := HNN.out; omega))
    simp only [Value.slice.injEq] at e
    exact ⟨b, o, by rw [e.1, hg]⟩
  have HSRC : Kp (∀ j x, h[j]? = some x → H < w.heap.size ∧ w.cell? ⟨H, o + j, none⟩ = some (.bool x)) := ⟨by
    obtain ⟨g, c, e, -, hi⟩ := hu
    intro j x hx
    obtain ⟨b, o', rfl, hbl, hc⟩ := hi j x hx
    simp only [Value.slice.injEq, Option.some.injEq, Addr.mk.injEq, and_true] at e
    obtain ⟨⟨rfl, rfl⟩, -, -⟩ := e
    exact ⟨hbl, hc⟩⟩
  have H10 := Kp.mk hs2
  have H1 := Kp.mk hs1
  have HNS := Kp.mk hN
  obtain ⟨g2, c2, rfl, -, hi⟩ := hv
  have HL := Kp.mk hm
  have HS := Kp.mk hi
  obtain ⟨K, hK⟩ : ∃ K, l.length = K := ⟨_, rfl⟩
  have HK := Kp.mk hK
  rw [hK]
  clear hi hm hs1 hs2 hl hN hb hu hK
  obtain ⟨B, hB⟩ : ∃ B, w.heap.size = B := ⟨_, rfl⟩
  have HBB := Kp.mk hB
  go_enter Try.func35, Try.ntmps35
  go_wp2_with fail
  refine (HB.out _).mono ?_
  rintro en w1 ⟨rfl, hb1⟩
  have HB1 : Kp (Below w.heap.size w w1) := ⟨Below.trans (by repeat (first | refine Below.alloc ?_ (by (try simp) <;> omega) _ | refine bDrewN ?_ _ | refine Below.drew ?_ | refine Below.setCell ?_ (by (try simp) <;> omega) _ | exact Below.refl _ _)) (hb1.mono (by (try simp) <;> omega))⟩
  have hz1_0 : w.heap.size < w1.heap.size := by have := hb1.size; (try simp at this); omega
  have hz1_1 : w.heap.size + 1 < w1.heap.size := by have := hb1.size; (try simp at this); omega
  obtain ⟨hc, hf⟩ := bcell hb1
  have c1_0_0 : w1.cell? ⟨w.heap.size, 0, none⟩ = some (.int .i64 s) := (hc _ _ (by (try simp) <;> omega)).trans (by go_simp)
  have c1_0_1 : w1.cell? ⟨w.heap.size, 1, none⟩ = some ((.slice (some ⟨H, o, none⟩) N c1)) := (hc _ _ (by (try simp) <;> omega)).trans (by go_simp)
  have z1_0 : ∀ j, w1.frozen? ⟨w.heap.size, j, none⟩ = false := fun j => (hf _ _ (by (try simp) <;> omega)).trans (by go_simp)
  have c1_1_0 : w1.cell? ⟨w.heap.size + 1, 0, none⟩ = some (.int .i64 0) := (hc _ _ (by (try simp) <;> omega)).trans (by go_simp)
  have c1_1_1 : w1.cell? ⟨w.heap.size + 1, 1, none⟩ = some ((.slice none 0 0)) := (hc _ _ (by (try simp) <;> omega)).trans (by go_simp)
  have z1_1 : ∀ j, w1.frozen? ⟨w.heap.size + 1, j, none⟩ = false := fun j => (hf _ _ (by (try simp) <;> omega)).trans (by go_simp)
  clear hc hf hb1
  go_wp2
  rw [hB] at c1_0_0 c1_0_1 c1_1_0 c1_1_1 z1_1 hz1_1
  have HCI : Kp (DrI w1 B s N H o c1 h none none w1.drew) := ⟨DrI.on ⟨Below.refl _ _, c1_0_0, c1_0_1, fun j x hx => (HB1.out.cell (p := ⟨H, _, none⟩) (HSRC.out j x hx).1).trans (HSRC.out j x hx).2, HNN.out, fun M cap e => (by cases e), fun Q e => (by cases e), fun M cap Q e => (by cases e)⟩ (Below.refl _ _).drew⟩
  have HST : Kp (B + 1 < w1.heap.size ∧ w1.cell? ⟨B + 1, 0, none⟩ = some (.int .i64 0) ∧ w1.cell? ⟨B + 1, 1, none⟩ = some (.slice none 0 0) ∧ ∀ j, w1.frozen? ⟨B + 1, j, none⟩ = false) := ⟨hz1_1, c1_1_0, c1_1_1, z1_1⟩
  clear c1_0_0 c1_0_1 z1_0 hz1_0 c1_1_0 c1_1_1 z1_1 hz1_1 HB hB
  refine region_name0 ?_
  intro ops Qp hops hQp
  have HFIN : ∀ (w' : World) (Z M cap Q : Nat), DrI w1 B s N H o c1 h (some (M, cap)) (some Q) w' → wpAny Try.prog .any ops Qp 1 #[true, true, true, true, true, true, true, true, false] { tmps := #[.agg #[.int .i64 s, .slice (some ⟨H, o, none⟩) N c1], .slice g2 K c2, .pointer (some ⟨B, 0, none⟩), undef, .pointer (some ⟨B + 1, 0, none⟩), .int .i64 0, .pointer (some ⟨Q, 0, none⟩), undef, undef, .agg #[.int .i64 s, .slice (some ⟨H, o, none⟩) N c1], .bool true, .bool false, undef, .pointer (some ⟨B, 0, none⟩), .int .i64 s, .slice (some ⟨Z, 0, none⟩) 0 0, .pointer (some ⟨B, 1, none⟩), .slice (some ⟨H, o, none⟩) N c1, .slice (some ⟨M, 0, none⟩) N cap, .agg #[.int .i64 s, .slice (some ⟨M, 0, none⟩) N cap], undef, undef, undef, undef, undef, undef, undef, undef, undef, undef, undef, undef, undef, undef, undef, undef, undef, undef, undef, undef, undef], defers := [] } w' := by
    intro w' Z M cap Q hI
    obtain ⟨hdi, hne, hBM⟩ := DlI.start hI HBB.out HB1.out HST.out.1 HST.out.2.1 HST.out.2.2.1 HST.out.2.2.2
    obtain ⟨-, x0, x1, xz⟩ := hI.box Q rfl
    have HDI : Kp (DlI w B M cap Q s N (lessL s h (l.take 0)) ((w'.setCell ⟨Q, 0, none⟩ (.int .i64 s)).setCell ⟨Q, 1, none⟩ (.slice (some ⟨M, 0, none⟩) N cap))) := ⟨by rw [List.take_zero, less_none (by rw [HNN.out.1, HNS.out])]; exact hdi⟩
    have HNE := Kp.mk hne
    have HMl := Kp.mk hBM
    clear hdi hne hBM hI HCI HST HSRC
    subst hops
    refine wpAny_ready (rs := [8]) (by kernel_rfl) (by simp) ?_
    refine AllReady.cons rfl (fun KK hKK => ?_) AllReady.nil
    go_simp
    refine hKK _ _ ?_
    clear hKK
    refine wpAny_done (by kernel_rfl) ?_ _
    subst hQp
    clear x0 x1 xz
    obtain ⟨W3, hW3⟩ : ∃ W3, (w'.setCell ⟨Q, 0, none⟩ (.int .i64 s)).setCell ⟨Q, 1, none⟩ (.slice (some ⟨M, 0, none⟩) N cap) = W3 := ⟨_, rfl⟩
    rw [hW3] at HDI ⊢
    clear hW3
    go_wp2
    go_loopw [22] (fun i wr => ∃ k : Nat, k ≤ K ∧ i = .int .i64 k ∧ Kp (allB s (l.take k) = true) ∧ Kp (DlI w B M cap Q s N (lessL s h (l.take k)) wr)) (fun i _ => K - (intOf i).toNat)
    case atStart => exact ⟨0, Nat.zero_le _, rfl, ⟨rfl⟩, HDI⟩
    case round =>
      clear HDI
      obtain ⟨k, hk, rfl, HA, HD⟩ := hrel
      by_cases hlt : k < K
      · obtain ⟨x, hx⟩ : ∃ x, l[k]? = some x := ⟨_, List.getElem?_eq_getElem (by rw [HK.out]; exact hlt)⟩
        obtain ⟨b, oo, hg, hbl, hc1, hc2, hc3⟩ := HS.out k x hx
        subst hg
        have hbw := HD.out.below
        have hbr : b < wr.heap.size := Nat.lt_of_lt_of_le hbl hbw.size
        have d1 : wr.cell? ⟨b, oo + k * 3, none⟩ = some (.int .i64 x.x) := (hbw.cell (p := ⟨b, _, none⟩) hbl).trans hc1
        have d2 : wr.cell? ⟨b, oo + k * 3 + 1, none⟩ = some (.int .i64 x.y) := (hbw.cell (p := ⟨b, _, none⟩) hbl).trans hc2
        have d3 : wr.cell? ⟨b, oo + k * 3 + 2, none⟩ = some (.int .i64 x.z) := (hbw.cell (p := ⟨b, _, none⟩) hbl).trans hc3
        have o1 : (k : Int) < (K : Int) := by omega
        have o4 : k ≤ 4611686018427387904 := by have := HL.out; have := HK.out; omega
        have HX := Kp.mk hx
        have hbz : Below wr.heap.size wr (wr.alloc (.cells #[.int .i64 x.x, .int .i64 x.y, .int .i64 x.z] 71)) := by repeat (first | exact Below.refl _ _ | refine Below.alloc ?_ (by simp <;> omega) _ | refine bDrewN ?_ _ | refine Below.drew ?_)
        have HD2 := Kp.mk (HD.out.on HNN.out.2.1 hbz)
        have b0 := HD.out.b0
        have hBl := World.block_lt_of_cell? _ _ b0
        have HIN : Kp (∀ W, Calls Try.prog 91 #[.int .i64 s, .agg #[.int .i64 x.x, .int .i64 x.y, .int .i64 x.z]] W fun e w' => e = .returned (.bool (inB s x)) ∧ Below W.heap.size W w') := ⟨fun W => rinside_any s H10.out x W⟩
        clear hx hc1 hc2 hc3 hbl hbw hbz
        cases h1 : inB s x with
        | false =>
          have HE : Kp (carE s h l = 7) := ⟨by unfold carE; rw [HBV.out, all_no HX.out h1, if_pos rfl, if_neg (by decide)]⟩
          rw [h1] at HIN
          clear h1
          go_wp2_with fail
          refine (HIN.out _).mono ?_
          rintro en w5 ⟨rfl, hb5⟩
          have hO := HD2.out.on HNN.out.2.1 hb5
          have p0 := hO.r0
          have p1 := hO.r1
          have pz := hO.rz
          have HB5 := Kp.mk hO.below
          clear hb5 hO
          go_wp2
          refine bodyPost_ret (v := .tuple #[.agg #[.int .i64 0, .slice none 0 0], .int .i64 7]) ?_ rfl ?_
          · simp [results, Try.results35, go_sem, p0, p1]
          exact rCar_bad HE.out (by decide) ((HB5.out.setCell (by have := HBB.out; simp only; omega) _).setCell (by have := HBB.out; simp only; omega) _)
        | true =>
          have HA2 : Kp (allB s (l.take (k + 1)) = true) := ⟨all_more HX.out HA.out h1⟩
          have hIX : insB s x = true := (inB_ins s x).symm.trans h1
          have hpl := mem_places hIX
          obtain ⟨j, hj1, hj2, hj3⟩ := less_at (h := h) (l := l.take k) hpl
          have HTK : Kp (lessL s h (l.take (k + 1)) = (lessL s h (l.take k)).set j false ∧ j < N) := ⟨by
            have hk' := (List.getElem?_eq_some_iff.1 HX.out).1
            have e : l[k] = x := (List.getElem?_eq_some_iff.1 HX.out).2
            rw [List.take_succ_eq_append_getElem hk', e]
            exact ⟨hj3, HNS.out ▸ hj2⟩⟩
          have HX2 : Kp (∀ W, Calls Try.prog 93 #[.int .i64 s, .agg #[.int .i64 x.x, .int .i64 x.y, .int .i64 x.z]] W fun e w' => e = .returned (.int .i64 j) ∧ Below W.heap.size W w') := ⟨fun W => hj1 ▸ rplace_any H10.out x hIX W⟩
          obtain ⟨y, hy⟩ : ∃ y, (lessL s h (l.take k))[j]? = some y := ⟨_, List.getElem?_eq_getElem (by rw [less_len]; exact hj2)⟩
          have HY := Kp.mk hy
          rw [h1] at HIN
          clear h1 hIX hpl hj1 hj2 hj3 hy
          go_wp2_with fail
          refine (HIN.out _).mono ?_
          rintro en w5 ⟨rfl, hb5⟩
          have hO := HD2.out.on HNN.out.2.1 hb5
          obtain ⟨G, hG⟩ : ∃ G, wr.heap.size = G := ⟨_, rfl⟩
          have e0 : w5.cell? ⟨G, 0, none⟩ = some (.int .i64 x.x) := (hb5.cell (p := ⟨G, 0, none⟩) (by rw [← hG]; simp)).trans (by subst hG; go_simp)
          have e1 : w5.cell? ⟨G, 1, none⟩ = some (.int .i64 x.y) := (hb5.cell (p := ⟨G, 1, none⟩) (by rw [← hG]; simp)).trans (by subst hG; go_simp)
          have e2 : w5.cell? ⟨G, 2, none⟩ = some (.int .i64 x.z) := (hb5.cell (p := ⟨G, 2, none⟩) (by rw [← hG]; simp)).trans (by subst hG; go_simp)
          have q0 := hO.b0
          have q1 := hO.c1
          have q3 := hO.mr.cell HY.out
          have q4 := hO.mr.z j
          have hQl := World.block_lt_of_cell? _ _ q1
          have hMl := World.block_lt_of_cell? _ _ q3
          have hBl5 := World.block_lt_of_cell? _ _ q0
          have HO5 := Kp.mk hO
          have o5 : (j : Int) < (N : Int) := by have := HTK.out.2; omega
          clear hb5 hO b0 hBl d1 d2 d3
          rw [hG]
          go_wp2
          go_region_with (go_at_call 93; refine (HX2.out _).mono ?_; rintro en w6 ⟨rfl, hb6⟩; have hbw : Below w5.heap.size w5 w6 := (by (repeat (with_reducible first | exact Below.refl _ _ | refine Below.drew ?_ | refine bDrewN ?_ _)) : Below w5.heap.size w5 _).trans hb6; have n1 := (hbw.cell (p := ⟨Q, 1, none⟩) hQl).trans q1; have n3 := (hbw.cell (p := ⟨M, j, none⟩) hMl).trans q3; have n4 := (hbw.frozen (p := ⟨M, j, none⟩) hMl).trans q4; clear hb6)
          all_goals
            go_wp2
            go_roundw
            case rel =>
              exact ⟨k + 1, by omega, by go_num, HA2, ⟨(HO5.out.on HNN.out.2.1 hbw).set_ HTK.out.2 HTK.out.1 HNE.out HMl.out HBB.out⟩⟩
            case measure => simp [intOf]; omega
      · have hkn : k = K := by omega
        subst hkn
        have hA := HA.out
        have hD := HD.out
        rw [← HK.out, List.take_length] at hA hD
        have HEE : Kp (carE s h l = 0) := ⟨by unfold carE; rw [HBV.out, hA, if_pos rfl, if_pos rfl]⟩
        have HO := Kp.mk hD
        have q0 := hD.c0
        have q1 := hD.c1
        have p0 := hD.r0
        have p1 := hD.r1
        have pz := hD.rz
        have o2 : ¬ (k : Int) < (k : Int) := by omega
        clear hA hD HA HD
        go_wp2
        refine bodyPost_ret (v := .tuple #[.agg #[.int .i64 s, .slice (some ⟨M, 0, none⟩) N cap], .int .i64 0]) ?_ rfl ?_
        · simp [results, Try.results35, go_sem, p0, p1]
        rw [HEE.out, show carS s h l = s by unfold carS; rw [HEE.out]; rfl, show carL s h l = lessL s h l by unfold carL; rw [HEE.out]; rfl]
        have hb : Below w.heap.size w ((wr.setCell ⟨B + 1, 0, none⟩ (.int .i64 s)).setCell ⟨B + 1, 1, none⟩ (.slice (some ⟨M, 0, none⟩) N cap)) := (HO.out.below.setCell (by have := HBB.out; simp only; omega) _).setCell (by have := HBB.out; simp only; omega) _
        have g1 := setCell_grown wr (B + 1) 0 (.int .i64 s)
        have g2 := setCell_grown (wr.setCell ⟨B + 1, 0, none⟩ (.int .i64 s)) (B + 1) 1 (.slice (some ⟨M, 0, none⟩) N cap)
        have hne : some M ≠ some (B + 1) := fun e => Nat.ne_of_gt HMl.out (Option.some.inj e)
        have hM := HO.out.mr.lt HNN.out.2.1
        exact ⟨_, rfl, ⟨_, rfl, (HO.out.mr.same (Nat.le_trans g1.size g2.size) ((g2.block M (Nat.lt_of_lt_of_le hM g1.size) hne).trans (g1.block M hM hne))).fb (by have := HBB.out; have := HMl.out; omega)⟩, hb⟩
  have S01234567 : ∀ (w' : World) (Z M cap Q : Nat), DrI w1 B s N H o c1 h (some (M, cap)) (some Q) w' → wpAny Try.prog .any ops Qp 1 #[true, true, true, true, true, true, true, true, false] { tmps := #[.agg #[.int .i64 s, .slice (some ⟨H, o, none⟩) N c1], .slice g2 K c2, .pointer (some ⟨B, 0, none⟩), undef, .pointer (some ⟨B + 1, 0, none⟩), .int .i64 0, .pointer (some ⟨Q, 0, none⟩), undef, undef, .agg #[.int .i64 s, .slice (some ⟨H, o, none⟩) N c1], .bool true, .bool false, undef, .pointer (some ⟨B, 0, none⟩), .int .i64 s, .slice (some ⟨Z, 0, none⟩) 0 0, .pointer (some ⟨B, 1, none⟩), .slice (some ⟨H, o, none⟩) N c1, .slice (some ⟨M, 0, none⟩) N cap, .agg #[.int .i64 s, .slice (some ⟨M, 0, none⟩) N cap], undef, undef, undef, undef, undef, undef, undef, undef, undef, undef, undef, undef, undef, undef, undef, undef, undef, undef, undef, undef, undef], defers := [] } w' := by
    intro w' Z M cap Q hI
    exact HFIN w' Z M cap Q hI
  have S0123456 : ∀ (w' : World) (Z M cap : Nat), DrI w1 B s N H o c1 h (some (M, cap)) none w' → wpAny Try.prog .any ops Qp 2 #[true, true, true, true, true, true, true, false, false] { tmps := #[.agg #[.int .i64 s, .slice (some ⟨H, o, none⟩) N c1], .slice g2 K c2, .pointer (some ⟨B, 0, none⟩), undef, .pointer (some ⟨B + 1, 0, none⟩), .int .i64 0, undef, undef, undef, .agg #[.int .i64 s, .slice (some ⟨H, o, none⟩) N c1], .bool true, .bool false, undef, .pointer (some ⟨B, 0, none⟩), .int .i64 s, .slice (some ⟨Z, 0, none⟩) 0 0, .pointer (some ⟨B, 1, none⟩), .slice (some ⟨H, o, none⟩) N c1, .slice (some ⟨M, 0, none⟩) N cap, .agg #[.int .i64 s, .slice (some ⟨M, 0, none⟩) N cap], undef, undef, undef, undef, undef, undef, undef, undef, undef, undef, undef, undef, undef, undef, undef, undef, undef, undef, undef, undef, undef], defers := [] } w' := by
    intro w' Z M cap hI
    obtain ⟨b0, b1⟩ := hI.cells
    subst hops
    refine wpAny_ready (rs := [7]) (by kernel_rfl) (by simp) ?_
    refine AllReady.cons rfl (fun K hK => ?_) ?_
    · go_simp
      exact hK _ _ (S01234567 _ Z M cap _ hI.boxed)
    exact AllReady.nil
  have S0123457 : ∀ (w' : World) (Z M cap Q : Nat), DrI w1 B s N H o c1 h (some (M, cap)) (some Q) w' → wpAny Try.prog .any ops Qp 2 #[true, true, true, true, true, true, false, true, false] { tmps := #[.agg #[.int .i64 s, .slice (some ⟨H, o, none⟩) N c1], .slice g2 K c2, .pointer (some ⟨B, 0, none⟩), undef, .pointer (some ⟨B + 1, 0, none⟩), .int .i64 0, .pointer (some ⟨Q, 0, none⟩), undef, undef, .agg #[.int .i64 s, .slice (some ⟨H, o, none⟩) N c1], .bool true, .bool false, undef, .pointer (some ⟨B, 0, none⟩), .int .i64 s, .slice (some ⟨Z, 0, none⟩) 0 0, .pointer (some ⟨B, 1, none⟩), .slice (some ⟨H, o, none⟩) N c1, .slice (some ⟨M, 0, none⟩) N cap, undef, undef, undef, undef, undef, undef, undef, undef, undef, undef, undef, undef, undef, undef, undef, undef, undef, undef, undef, undef, undef, undef], defers := [] } w' := by
    intro w' Z M cap Q hI
    obtain ⟨b0, b1⟩ := hI.cells
    subst hops
    refine wpAny_ready (rs := [6]) (by kernel_rfl) (by simp) ?_
    refine AllReady.cons rfl (fun K hK => ?_) ?_
    · go_simp
      exact hK _ _ (S01234567 _ Z M cap Q hI)
    exact AllReady.nil
  have S012345 : ∀ (w' : World) (Z M cap : Nat), DrI w1 B s N H o c1 h (some (M, cap)) none w' → wpAny Try.prog .any ops Qp 3 #[true, true, true, true, true, true, false, false, false] { tmps := #[.agg #[.int .i64 s, .slice (some ⟨H, o, none⟩) N c1], .slice g2 K c2, .pointer (some ⟨B, 0, none⟩), undef, .pointer (some ⟨B + 1, 0, none⟩), .int .i64 0, undef, undef, undef, .agg #[.int .i64 s, .slice (some ⟨H, o, none⟩) N c1], .bool true, .bool false, undef, .pointer (some ⟨B, 0, none⟩), .int .i64 s, .slice (some ⟨Z, 0, none⟩) 0 0, .pointer (some ⟨B, 1, none⟩), .slice (some ⟨H, o, none⟩) N c1, .slice (some ⟨M, 0, none⟩) N cap, undef, undef, undef, undef, undef, undef, undef, undef, undef, undef, undef, undef, undef, undef, undef, undef, undef, undef, undef, undef, undef, undef], defers := [] } w' := by
    intro w' Z M cap hI
    obtain ⟨b0, b1⟩ := hI.cells
    subst hops
    refine wpAny_ready (rs := [6, 7]) (by kernel_rfl) (by simp) ?_
    refine AllReady.cons rfl (fun K hK => ?_) ?_
    · go_simp
      exact hK _ _ (S0123456 _ Z M cap hI)
    refine AllReady.cons rfl (fun K hK => ?_) ?_
    · go_simp
      exact hK _ _ (S0123457 _ Z M cap _ hI.boxed)
    exact AllReady.nil
  have S012347 : ∀ (w' : World) (Z Q : Nat), DrI w1 B s N H o c1 h none (some Q) w' → wpAny Try.prog .any ops Qp 3 #[true, true, true, true, true, false, false, true, false] { tmps := #[.agg #[.int .i64 s, .slice (some ⟨H, o, none⟩) N c1], .slice g2 K c2, .pointer (some ⟨B, 0, none⟩), undef, .pointer (some ⟨B + 1, 0, none⟩), .int .i64 0, .pointer (some ⟨Q, 0, none⟩), undef, undef, .agg #[.int .i64 s, .slice (some ⟨H, o, none⟩) N c1], .bool true, .bool false, undef, .pointer (some ⟨B, 0, none⟩), .int .i64 s, .slice (some ⟨Z, 0, none⟩) 0 0, .pointer (some ⟨B, 1, none⟩), .slice (some ⟨H, o, none⟩) N c1, undef, undef, undef, undef, undef, undef, undef, undef, undef, undef, undef, undef, undef, undef, undef, undef, undef, undef, undef, undef, undef, undef, undef], defers := [] } w' := by
    intro w' Z Q hI
    obtain ⟨b0, b1⟩ := hI.cells
    obtain ⟨cap, w6, hrun, hI6⟩ := hI.app Z
    subst hops
    refine wpAny_ready (rs := [5]) (by kernel_rfl) (by simp) ?_
    refine AllReady.cons rfl (fun K hK => ?_) ?_
    · go_simp
      exact hK _ _ (S0123457 _ Z _ _ Q hI6)
    exact AllReady.nil
  have S01234 : ∀ (w' : World) (Z : Nat), DrI w1 B s N H o c1 h none none w' → wpAny Try.prog .any ops Qp 4 #[true, true, true, true, true, false, false, false, false] { tmps := #[.agg #[.int .i64 s, .slice (some ⟨H, o, none⟩) N c1], .slice g2 K c2, .pointer (some ⟨B, 0, none⟩), undef, .pointer (some ⟨B + 1, 0, none⟩), .int .i64 0, undef, undef, undef, .agg #[.int .i64 s, .slice (some ⟨H, o, none⟩) N c1], .bool true, .bool false, undef, .pointer (some ⟨B, 0, none⟩), .int .i64 s, .slice (some ⟨Z, 0, none⟩) 0 0, .pointer (some ⟨B, 1, none⟩), .slice (some ⟨H, o, none⟩) N c1, undef, undef, undef, undef, undef, undef, undef, undef, undef, undef, undef, undef, undef, undef, undef, undef, undef, undef, undef, undef, undef, undef, undef], defers := [] } w' := by
    intro w' Z hI
    obtain ⟨b0, b1⟩ := hI.cells
    obtain ⟨cap, w6, hrun, hI6⟩ := hI.app Z
    subst hops
    refine wpAny_ready (rs := [5, 7]) (by kernel_rfl) (by simp) ?_
    refine AllReady.cons rfl (fun K hK => ?_) ?_
    · go_simp
      exact hK _ _ (S012345 _ Z _ _ hI6)
    refine AllReady.cons rfl (fun K hK => ?_) ?_
    · go_simp
      exact hK _ _ (S012347 _ Z _ hI.boxed)
    exact AllReady.nil
  have S01237 : ∀ (w' : World) (Z Q : Nat), DrI w1 B s N H o c1 h none (some Q) w' → wpAny Try.prog .any ops Qp 4 #[true, true, true, true, false, false, false, true, false] { tmps := #[.agg #[.int .i64 s, .slice (some ⟨H, o, none⟩) N c1], .slice g2 K c2, .pointer (some ⟨B, 0, none⟩), undef, .pointer (some ⟨B + 1, 0, none⟩), .int .i64 0, .pointer (some ⟨Q, 0, none⟩), undef, undef, .agg #[.int .i64 s, .slice (some ⟨H, o, none⟩) N c1], .bool true, .bool false, undef, .pointer (some ⟨B, 0, none⟩), .int .i64 s, .slice (some ⟨Z, 0, none⟩) 0 0, .pointer (some ⟨B, 1, none⟩), undef, undef, undef, undef, undef, undef, undef, undef, undef, undef, undef, undef, undef, undef, undef, undef, undef, undef, undef, undef, undef, undef, undef, undef], defers := [] } w' := by
    intro w' Z Q hI
    obtain ⟨b0, b1⟩ := hI.cells
    subst hops
    refine wpAny_ready (rs := [4]) (by kernel_rfl) (by simp) ?_
    refine AllReady.cons rfl (fun K hK => ?_) ?_
    · go_simp
      exact hK _ _ (S012347 _ Z Q hI)
    exact AllReady.nil
  have S0123 : ∀ (w' : World) (Z : Nat), DrI w1 B s N H o c1 h none none w' → wpAny Try.prog .any ops Qp 5 #[true, true, true, true, false, false, false, false, false] { tmps := #[.agg #[.int .i64 s, .slice (some ⟨H, o, none⟩) N c1], .slice g2 K c2, .pointer (some ⟨B, 0, none⟩), undef, .pointer (some ⟨B + 1, 0, none⟩), .int .i64 0, undef, undef, undef, .agg #[.int .i64 s, .slice (some ⟨H, o, none⟩) N c1], .bool true, .bool false, undef, .pointer (some ⟨B, 0, none⟩), .int .i64 s, .slice (some ⟨Z, 0, none⟩) 0 0, .pointer (some ⟨B, 1, none⟩), undef, undef, undef, undef, undef, undef, undef, undef, undef, undef, undef, undef, undef, undef, undef, undef, undef, undef, undef, undef, undef, undef, undef, undef], defers := [] } w' := by
    intro w' Z hI
    obtain ⟨b0, b1⟩ := hI.cells
    subst hops
    refine wpAny_ready (rs := [4, 7]) (by kernel_rfl) (by simp) ?_
    refine AllReady.cons rfl (fun K hK => ?_) ?_
    · go_simp
      exact hK _ _ (S01234 _ Z hI)
    refine AllReady.cons rfl (fun K hK => ?_) ?_
    · go_simp
      exact hK _ _ (S01237 _ Z _ hI.boxed)
    exact AllReady.nil
  have S0127 : ∀ (w' : World) (Z Q : Nat), DrI w1 B s N H o c1 h none (some Q) w' → wpAny Try.prog .any ops Qp 5 #[true, true, true, false, false, false, false, true, false] { tmps := #[.agg #[.int .i64 s, .slice (some ⟨H, o, none⟩) N c1], .slice g2 K c2, .pointer (some ⟨B, 0, none⟩), undef, .pointer (some ⟨B + 1, 0, none⟩), .int .i64 0, .pointer (some ⟨Q, 0, none⟩), undef, undef, .agg #[.int .i64 s, .slice (some ⟨H, o, none⟩) N c1], .bool true, .bool false, undef, .pointer (some ⟨B, 0, none⟩), .int .i64 s, .slice (some ⟨Z, 0, none⟩) 0 0, undef, undef, undef, undef, undef, undef, undef, undef, undef, undef, undef, undef, undef, undef, undef, undef, undef, undef, undef, undef, undef, undef, undef, undef, undef], defers := [] } w' := by
    intro w' Z Q hI
    obtain ⟨b0, b1⟩ := hI.cells
    subst hops
    refine wpAny_ready (rs := [3]) (by kernel_rfl) (by simp) ?_
    refine AllReady.cons rfl (fun K hK => ?_) ?_
    · go_simp
      exact hK _ _ (S01237 _ Z Q hI)
    exact AllReady.nil
  have S012 : ∀ (w' : World) (Z : Nat), DrI w1 B s N H o c1 h none none w' → wpAny Try.prog .any ops Qp 6 #[true, true, true, false, false, false, false, false, false] { tmps := #[.agg #[.int .i64 s, .slice (some ⟨H, o, none⟩) N c1], .slice g2 K c2, .pointer (some ⟨B, 0, none⟩), undef, .pointer (some ⟨B + 1, 0, none⟩), .int .i64 0, undef, undef, undef, .agg #[.int .i64 s, .slice (some ⟨H, o, none⟩) N c1], .bool true, .bool false, undef, .pointer (some ⟨B, 0, none⟩), .int .i64 s, .slice (some ⟨Z, 0, none⟩) 0 0, undef, undef, undef, undef, undef, undef, undef, undef, undef, undef, undef, undef, undef, undef, undef, undef, undef, undef, undef, undef, undef, undef, undef, undef, undef], defers := [] } w' := by
    intro w' Z hI
    obtain ⟨b0, b1⟩ := hI.cells
    subst hops
    refine wpAny_ready (rs := [3, 7]) (by kernel_rfl) (by simp) ?_
    refine AllReady.cons rfl (fun K hK => ?_) ?_
    · go_simp
      exact hK _ _ (S0123 _ Z hI)
    refine AllReady.cons rfl (fun K hK => ?_) ?_
    · go_simp
      exact hK _ _ (S0127 _ Z _ hI.boxed)
    exact AllReady.nil
  have S01347 : ∀ (w' : World) (Q : Nat), DrI w1 B s N H o c1 h none (some Q) w' → wpAny Try.prog .any ops Qp 4 #[true, true, false, true, true, false, false, true, false] { tmps := #[.agg #[.int .i64 s, .slice (some ⟨H, o, none⟩) N c1], .slice g2 K c2, .pointer (some ⟨B, 0, none⟩), undef, .pointer (some ⟨B + 1, 0, none⟩), .int .i64 0, .pointer (some ⟨Q, 0, none⟩), undef, undef, .agg #[.int .i64 s, .slice (some ⟨H, o, none⟩) N c1], .bool true, .bool false, undef, .pointer (some ⟨B, 0, none⟩), .int .i64 s, undef, .pointer (some ⟨B, 1, none⟩), .slice (some ⟨H, o, none⟩) N c1, undef, undef, undef, undef, undef, undef, undef, undef, undef, undef, undef, undef, undef, undef, undef, undef, undef, undef, undef, undef, undef, undef, undef], defers := [] } w' := by
    intro w' Q hI
    obtain ⟨b0, b1⟩ := hI.cells
    subst hops
    refine wpAny_ready (rs := [2]) (by kernel_rfl) (by simp) ?_
    refine AllReady.cons rfl (fun K hK => ?_) ?_
    · go_simp
      exact hK _ _ (S012347 _ _ Q hI.empty)
    exact AllReady.nil
  have S0134 : ∀ (w' : World), DrI w1 B s N H o c1 h none none w' → wpAny Try.prog .any ops Qp 5 #[true, true, false, true, true, false, false, false, false] { tmps := #[.agg #[.int .i64 s, .slice (some ⟨H, o, none⟩) N c1], .slice g2 K c2, .pointer (some ⟨B, 0, none⟩), undef, .pointer (some ⟨B + 1, 0, none⟩), .int .i64 0, undef, undef, undef, .agg #[.int .i64 s, .slice (some ⟨H, o, none⟩) N c1], .bool true, .bool false, undef, .pointer (some ⟨B, 0, none⟩), .int .i64 s, undef, .pointer (some ⟨B, 1, none⟩), .slice (some ⟨H, o, none⟩) N c1, undef, undef, undef, undef, undef, undef, undef, undef, undef, undef, undef, undef, undef, undef, undef, undef, undef, undef, undef, undef, undef, undef, undef], defers := [] } w' := by
    intro w'  hI
    obtain ⟨b0, b1⟩ := hI.cells
    subst hops
    refine wpAny_ready (rs := [2, 7]) (by kernel_rfl) (by simp) ?_
    refine AllReady.cons rfl (fun K hK => ?_) ?_
    · go_simp
      exact hK _ _ (S01234 _ _ hI.empty)
    refine AllReady.cons rfl (fun K hK => ?_) ?_
    · go_simp
      exact hK _ _ (S01347 _ _ hI.boxed)
    exact AllReady.nil
  have S0137 : ∀ (w' : World) (Q : Nat), DrI w1 B s N H o c1 h none (some Q) w' → wpAny Try.prog .any ops Qp 5 #[true, true, false, true, false, false, false, true, false] { tmps := #[.agg #[.int .i64 s, .slice (some ⟨H, o, none⟩) N c1], .slice g2 K c2, .pointer (some ⟨B, 0, none⟩), undef, .pointer (some ⟨B + 1, 0, none⟩), .int .i64 0, .pointer (some ⟨Q, 0, none⟩), undef, undef, .agg #[.int .i64 s, .slice (some ⟨H, o, none⟩) N c1], .bool true, .bool false, undef, .pointer (some ⟨B, 0, none⟩), .int .i64 s, undef, .pointer (some ⟨B, 1, none⟩), undef, undef, undef, undef, undef, undef, undef, undef, undef, undef, undef, undef, undef, undef, undef, undef, undef, undef, undef, undef, undef, undef, undef, undef], defers := [] } w' := by
    intro w' Q hI
    obtain ⟨b0, b1⟩ := hI.cells
    subst hops
    refine wpAny_ready (rs := [2, 4]) (by kernel_rfl) (by simp) ?_
    refine AllReady.cons rfl (fun K hK => ?_) ?_
    · go_simp
      exact hK _ _ (S01237 _ _ Q hI.empty)
    refine AllReady.cons rfl (fun K hK => ?_) ?_
    · go_simp
      exact hK _ _ (S01347 _ Q hI)
    exact AllReady.nil
  have S013 : ∀ (w' : World), DrI w1 B s N H o c1 h none none w' → wpAny Try.prog .any ops Qp 6 #[true, true, false, true, false, false, false, false, false] { tmps := #[.agg #[.int .i64 s, .slice (some ⟨H, o, none⟩) N c1], .slice g2 K c2, .pointer (some ⟨B, 0, none⟩), undef, .pointer (some ⟨B + 1, 0, none⟩), .int .i64 0, undef, undef, undef, .agg #[.int .i64 s, .slice (some ⟨H, o, none⟩) N c1], .bool true, .bool false, undef, .pointer (some ⟨B, 0, none⟩), .int .i64 s, undef, .pointer (some ⟨B, 1, none⟩), undef, undef, undef, undef, undef, undef, undef, undef, undef, undef, undef, undef, undef, undef, undef, undef, undef, undef, undef, undef, undef, undef, undef, undef], defers := [] } w' := by
    intro w'  hI
    obtain ⟨b0, b1⟩ := hI.cells
    subst hops
    refine wpAny_ready (rs := [2, 4, 7]) (by kernel_rfl) (by simp) ?_
    refine AllReady.cons rfl (fun K hK => ?_) ?_
    · go_simp
      exact hK _ _ (S0123 _ _ hI.empty)
    refine AllReady.cons rfl (fun K hK => ?_) ?_
    · go_simp
      exact hK _ _ (S0134 _ hI)
    refine AllReady.cons rfl (fun K hK => ?_) ?_
    · go_simp
      exact hK _ _ (S0137 _ _ hI.boxed)
    exact AllReady.nil
  have S017 : ∀ (w' : World) (Q : Nat), DrI w1 B s N H o c1 h none (some Q) w' → wpAny Try.prog .any ops Qp 6 #[true, true, false, false, false, false, false, true, false] { tmps := #[.agg #[.int .i64 s, .slice (some ⟨H, o, none⟩) N c1], .slice g2 K c2, .pointer (some ⟨B, 0, none⟩), undef, .pointer (some ⟨B + 1, 0, none⟩), .int .i64 0, .pointer (some ⟨Q, 0, none⟩), undef, undef, .agg #[.int .i64 s, .slice (some ⟨H, o, none⟩) N c1], .bool true, .bool false, undef, .pointer (some ⟨B, 0, none⟩), .int .i64 s, undef, undef, undef, undef, undef, undef, undef, undef, undef, undef, undef, undef, undef, undef, undef, undef, undef, undef, undef, undef, undef, undef, undef, undef, undef, undef], defers := [] } w' := by
    intro w' Q hI
    obtain ⟨b0, b1⟩ := hI.cells
    subst hops
    refine wpAny_ready (rs := [2, 3]) (by kernel_rfl) (by simp) ?_
    refine AllReady.cons rfl (fun K hK => ?_) ?_
    · go_simp
      exact hK _ _ (S0127 _ _ Q hI.empty)
    refine AllReady.cons rfl (fun K hK => ?_) ?_
    · go_simp
      exact hK _ _ (S0137 _ Q hI)
    exact AllReady.nil
  have S01 : ∀ (w' : World), DrI w1 B s N H o c1 h none none w' → wpAny Try.prog .any ops Qp 7 #[true, true, false, false, false, false, false, false, false] { tmps := #[.agg #[.int .i64 s, .slice (some ⟨H, o, none⟩) N c1], .slice g2 K c2, .pointer (some ⟨B, 0, none⟩), undef, .pointer (some ⟨B + 1, 0, none⟩), .int .i64 0, undef, undef, undef, .agg #[.int .i64 s, .slice (some ⟨H, o, none⟩) N c1], .bool true, .bool false, undef, .pointer (some ⟨B, 0, none⟩), .int .i64 s, undef, undef, undef, undef, undef, undef, undef, undef, undef, undef, undef, undef, undef, undef, undef, undef, undef, undef, undef, undef, undef, undef, undef, undef, undef, undef], defers := [] } w' := by
    intro w'  hI
    obtain ⟨b0, b1⟩ := hI.cells
    subst hops
    refine wpAny_ready (rs := [2, 3, 7]) (by kernel_rfl) (by simp) ?_
    refine AllReady.cons rfl (fun K hK => ?_) ?_
    · go_simp
      exact hK _ _ (S012 _ _ hI.empty)
    refine AllReady.cons rfl (fun K hK => ?_) ?_
    · go_simp
      exact hK _ _ (S013 _ hI)
    refine AllReady.cons rfl (fun K hK => ?_) ?_
    · go_simp
      exact hK _ _ (S017 _ _ hI.boxed)
    exact AllReady.nil
  have S023457 : ∀ (w' : World) (Z M cap Q : Nat), DrI w1 B s N H o c1 h (some (M, cap)) (some Q) w' → wpAny Try.prog .any ops Qp 3 #[true, false, true, true, true, true, false, true, false] { tmps := #[.agg #[.int .i64 s, .slice (some ⟨H, o, none⟩) N c1], .slice g2 K c2, .pointer (some ⟨B, 0, none⟩), undef, .pointer (some ⟨B + 1, 0, none⟩), .int .i64 0, .pointer (some ⟨Q, 0, none⟩), undef, undef, .agg #[.int .i64 s, .slice (some ⟨H, o, none⟩) N c1], .bool true, .bool false, undef, .pointer (some ⟨B, 0, none⟩), undef, .slice (some ⟨Z, 0, none⟩) 0 0, .pointer (some ⟨B, 1, none⟩), .slice (some ⟨H, o, none⟩) N c1, .slice (some ⟨M, 0, none⟩) N cap, undef, undef, undef, undef, undef, undef, undef, undef, undef, undef, undef, undef, undef, undef, undef, undef, undef, undef, undef, undef, undef, undef], defers := [] } w' := by
    intro w' Z M cap Q hI
    obtain ⟨b0, b1⟩ := hI.cells
    subst hops
    refine wpAny_ready (rs := [1]) (by kernel_rfl) (by simp) ?_
    refine AllReady.cons rfl (fun K hK => ?_) ?_
    · go_simp
      exact hK _ _ (S0123457 _ Z M cap Q hI)
    exact AllReady.nil
  have S02345 : ∀ (w' : World) (Z M cap : Nat), DrI w1 B s N H o c1 h (some (M, cap)) none w' → wpAny Try.prog .any ops Qp 4 #[true, false, true, true, true, true, false, false, false] { tmps := #[.agg #[.int .i64 s, .slice (some ⟨H, o, none⟩) N c1], .slice g2 K c2, .pointer (some ⟨B, 0, none⟩), undef, .pointer (some ⟨B + 1, 0, none⟩), .int .i64 0, undef, undef, undef, .agg #[.int .i64 s, .slice (some ⟨H, o, none⟩) N c1], .bool true, .bool false, undef, .pointer (some ⟨B, 0, none⟩), undef, .slice (some ⟨Z, 0, none⟩) 0 0, .pointer (some ⟨B, 1, none⟩), .slice (some ⟨H, o, none⟩) N c1, .slice (some ⟨M, 0, none⟩) N cap, undef, undef, undef, undef, undef, undef, undef, undef, undef, undef, undef, undef, undef, undef, undef, undef, undef, undef, undef, undef, undef, undef], defers := [] } w' := by
    intro w' Z M cap hI
    obtain ⟨b0, b1⟩ := hI.cells
    subst hops
    refine wpAny_ready (rs := [1, 7]) (by kernel_rfl) (by simp) ?_
    refine AllReady.cons rfl (fun K hK => ?_) ?_
    · go_simp
      exact hK _ _ (S012345 _ Z M cap hI)
    refine AllReady.cons rfl (fun K hK => ?_) ?_
    · go_simp
      exact hK _ _ (S023457 _ Z M cap _ hI.boxed)
    exact AllReady.nil
  have S02347 : ∀ (w' : World) (Z Q : Nat), DrI w1 B s N H o c1 h none (some Q) w' → wpAny Try.prog .any ops Qp 4 #[true, false, true, true, true, false, false, true, false] { tmps := #[.agg #[.int .i64 s, .slice (some ⟨H, o, none⟩) N c1], .slice g2 K c2, .pointer (some ⟨B, 0, none⟩), undef, .pointer (some ⟨B + 1, 0, none⟩), .int .i64 0, .pointer (some ⟨Q, 0, none⟩), undef, undef, .agg #[.int .i64 s, .slice (some ⟨H, o, none⟩) N c1], .bool true, .bool false, undef, .pointer (some ⟨B, 0, none⟩), undef, .slice (some ⟨Z, 0, none⟩) 0 0, .pointer (some ⟨B, 1, none⟩), .slice (some ⟨H, o, none⟩) N c1, undef, undef, undef, undef, undef, undef, undef, undef, undef, undef, undef, undef, undef, undef, undef, undef, undef, undef, undef, undef, undef, undef, undef], defers := [] } w' := by
    intro w' Z Q hI
    obtain ⟨b0, b1⟩ := hI.cells
    obtain ⟨cap, w6, hrun, hI6⟩ := hI.app Z
    subst hops
    refine wpAny_ready (rs := [1, 5]) (by kernel_rfl) (by simp) ?_
    refine AllReady.cons rfl (fun K hK => ?_) ?_
    · go_simp
      exact hK _ _ (S012347 _ Z Q hI)
    refine AllReady.cons rfl (fun K hK => ?_) ?_
    · go_simp
      exact hK _ _ (S023457 _ Z _ _ Q hI6)
    exact AllReady.nil
  have S0234 : ∀ (w' : World) (Z : Nat), DrI w1 B s N H o c1 h none none w' → wpAny Try.prog .any ops Qp 5 #[true, false, true, true, true, false, false, false, false] { tmps := #[.agg #[.int .i64 s, .slice (some ⟨H, o, none⟩) N c1], .slice g2 K c2, .pointer (some ⟨B, 0, none⟩), undef, .pointer (some ⟨B + 1, 0, none⟩), .int .i64 0, undef, undef, undef, .agg #[.int .i64 s, .slice (some ⟨H, o, none⟩) N c1], .bool true, .bool false, undef, .pointer (some ⟨B, 0, none⟩), undef, .slice (some ⟨Z, 0, none⟩) 0 0, .pointer (some ⟨B, 1, none⟩), .slice (some ⟨H, o, none⟩) N c1, undef, undef, undef, undef, undef, undef, undef, undef, undef, undef, undef, undef, undef, undef, undef, undef, undef, undef, undef, undef, undef, undef, undef], defers := [] } w' := by
    intro w' Z hI
    obtain ⟨b0, b1⟩ := hI.cells
    obtain ⟨cap, w6, hrun, hI6⟩ := hI.app Z
    subst hops
    refine wpAny_ready (rs := [1, 5, 7]) (by kernel_rfl) (by simp) ?_
    refine AllReady.cons rfl (fun K hK => ?_) ?_
    · go_simp
      exact hK _ _ (S01234 _ Z hI)
    refine AllReady.cons rfl (fun K hK => ?_) ?_
    · go_simp
      exact hK _ _ (S02345 _ Z _ _ hI6)
    refine AllReady.cons rfl (fun K hK => ?_) ?_
    · go_simp
      exact hK _ _ (S02347 _ Z _ hI.boxed)
    exact AllReady.nil
  have S0237 : ∀ (w' : World) (Z Q : Nat), DrI w1 B s N H o c1 h none (some Q) w' → wpAny Try.prog .any ops Qp 5 #[true, false, true, true, false, false, false, true, false] { tmps := #[.agg #[.int .i64 s, .slice (some ⟨H, o, none⟩) N c1], .slice g2 K c2, .pointer (some ⟨B, 0, none⟩), undef, .pointer (some ⟨B + 1, 0, none⟩), .int .i64 0, .pointer (some ⟨Q, 0, none⟩), undef, undef, .agg #[.int .i64 s, .slice (some ⟨H, o, none⟩) N c1], .bool true, .bool false, undef, .pointer (some ⟨B, 0, none⟩), undef, .slice (some ⟨Z, 0, none⟩) 0 0, .pointer (some ⟨B, 1, none⟩), undef, undef, undef, undef, undef, undef, undef, undef, undef, undef, undef, undef, undef, undef, undef, undef, undef, undef, undef, undef, undef, undef, undef, undef], defers := [] } w' := by
    intro w' Z Q hI
    obtain ⟨b0, b1⟩ := hI.cells
    subst hops
    refine wpAny_ready (rs := [1, 4]) (by kernel_rfl) (by simp) ?_
    refine AllReady.cons rfl (fun K hK => ?_) ?_
    · go_simp
      exact hK _ _ (S01237 _ Z Q hI)
    refine AllReady.cons rfl (fun K hK => ?_) ?_
    · go_simp
      exact hK _ _ (S02347 _ Z Q hI)
    exact AllReady.nil
  have S023 : ∀ (w' : World) (Z : Nat), DrI w1 B s N H o c1 h none none w' → wpAny Try.prog .any ops Qp 6 #[true, false, true, true, false, false, false, false, false] { tmps := #[.agg #[.int .i64 s, .slice (some ⟨H, o, none⟩) N c1], .slice g2 K c2, .pointer (some ⟨B, 0, none⟩), undef, .pointer (some ⟨B + 1, 0, none⟩), .int .i64 0, undef, undef, undef, .agg #[.int .i64 s, .slice (some ⟨H, o, none⟩) N c1], .bool true, .bool false, undef, .pointer (some ⟨B, 0, none⟩), undef, .slice (some ⟨Z, 0, none⟩) 0 0, .pointer (some ⟨B, 1, none⟩), undef, undef, undef, undef, undef, undef, undef, undef, undef, undef, undef, undef, undef, undef, undef, undef, undef, undef, undef, undef, undef, undef, undef, undef], defers := [] } w' := by
    intro w' Z hI
    obtain ⟨b0, b1⟩ := hI.cells
    subst hops
    refine wpAny_ready (rs := [1, 4, 7]) (by kernel_rfl) (by simp) ?_
    refine AllReady.cons rfl (fun K hK => ?_) ?_
    · go_simp
      exact hK _ _ (S0123 _ Z hI)
    refine AllReady.cons rfl (fun K hK => ?_) ?_
    · go_simp
      exact hK _ _ (S0234 _ Z hI)
    refine AllReady.cons rfl (fun K hK => ?_) ?_
    · go_simp
      exact hK _ _ (S0237 _ Z _ hI.boxed)
    exact AllReady.nil
  have S027 : ∀ (w' : World) (Z Q : Nat), DrI w1 B s N H o c1 h none (some Q) w' → wpAny Try.prog .any ops Qp 6 #[true, false, true, false, false, false, false, true, false] { tmps := #[.agg #[.int .i64 s, .slice (some ⟨H, o, none⟩) N c1], .slice g2 K c2, .pointer (some ⟨B, 0, none⟩), undef, .pointer (some ⟨B + 1, 0, none⟩), .int .i64 0, .pointer (some ⟨Q, 0, none⟩), undef, undef, .agg #[.int .i64 s, .slice (some ⟨H, o, none⟩) N c1], .bool true, .bool false, undef, .pointer (some ⟨B, 0, none⟩), undef, .slice (some ⟨Z, 0, none⟩) 0 0, undef, undef, undef, undef, undef, undef, undef, undef, undef, undef, undef, undef, undef, undef, undef, undef, undef, undef, undef, undef, undef, undef, undef, undef, undef], defers := [] } w' := by
    intro w' Z Q hI
    obtain ⟨b0, b1⟩ := hI.cells
    subst hops
    refine wpAny_ready (rs := [1, 3]) (by kernel_rfl) (by simp) ?_
    refine AllReady.cons rfl (fun K hK => ?_) ?_
    · go_simp
      exact hK _ _ (S0127 _ Z Q hI)
    refine AllReady.cons rfl (fun K hK => ?_) ?_
    · go_simp
      exact hK _ _ (S0237 _ Z Q hI)
    exact AllReady.nil
  have S02 : ∀ (w' : World) (Z : Nat), DrI w1 B s N H o c1 h none none w' → wpAny Try.prog .any ops Qp 7 #[true, false, true, false, false, false, false, false, false] { tmps := #[.agg #[.int .i64 s, .slice (some ⟨H, o, none⟩) N c1], .slice g2 K c2, .pointer (some ⟨B, 0, none⟩), undef, .pointer (some ⟨B + 1, 0, none⟩), .int .i64 0, undef, undef, undef, .agg #[.int .i64 s, .slice (some ⟨H, o, none⟩) N c1], .bool true, .bool false, undef, .pointer (some ⟨B, 0, none⟩), undef, .slice (some ⟨Z, 0, none⟩) 0 0, undef, undef, undef, undef, undef, undef, undef, undef, undef, undef, undef, undef, undef, undef, undef, undef, undef, undef, undef, undef, undef, undef, undef, undef, undef], defers := [] } w' := by
    intro w' Z hI
    obtain ⟨b0, b1⟩ := hI.cells
    subst hops
    refine wpAny_ready (rs := [1, 3, 7]) (by kernel_rfl) (by simp) ?_
    refine AllReady.cons rfl (fun K hK => ?_) ?_
    · go_simp
      exact hK _ _ (S012 _ Z hI)
    refine AllReady.cons rfl (fun K hK => ?_) ?_
    · go_simp
      exact hK _ _ (S023 _ Z hI)
    refine AllReady.cons rfl (fun K hK => ?_) ?_
    · go_simp
      exact hK _ _ (S027 _ Z _ hI.boxed)
    exact AllReady.nil
  have S0347 : ∀ (w' : World) (Q : Nat), DrI w1 B s N H o c1 h none (some Q) w' → wpAny Try.prog .any ops Qp 5 #[true, false, false, true, true, false, false, true, false] { tmps := #[.agg #[.int .i64 s, .slice (some ⟨H, o, none⟩) N c1], .slice g2 K c2, .pointer (some ⟨B, 0, none⟩), undef, .pointer (some ⟨B + 1, 0, none⟩), .int .i64 0, .pointer (some ⟨Q, 0, none⟩), undef, undef, .agg #[.int .i64 s, .slice (some ⟨H, o, none⟩) N c1], .bool true, .bool false, undef, .pointer (some ⟨B, 0, none⟩), undef, undef, .pointer (some ⟨B, 1, none⟩), .slice (some ⟨H, o, none⟩) N c1, undef, undef, undef, undef, undef, undef, undef, undef, undef, undef, undef, undef, undef, undef, undef, undef, undef, undef, undef, undef, undef, undef, undef], defers := [] } w' := by
    intro w' Q hI
    obtain ⟨b0, b1⟩ := hI.cells
    subst hops
    refine wpAny_ready (rs := [1, 2]) (by kernel_rfl) (by simp) ?_
    refine AllReady.cons rfl (fun K hK => ?_) ?_
    · go_simp
      exact hK _ _ (S01347 _ Q hI)
    refine AllReady.cons rfl (fun K hK => ?_) ?_
    · go_simp
      exact hK _ _ (S02347 _ _ Q hI.empty)
    exact AllReady.nil
  have S034 : ∀ (w' : World), DrI w1 B s N H o c1 h none none w' → wpAny Try.prog .any ops Qp 6 #[true, false, false, true, true, false, false, false, false] { tmps := #[.agg #[.int .i64 s, .slice (some ⟨H, o, none⟩) N c1], .slice g2 K c2, .pointer (some ⟨B, 0, none⟩), undef, .pointer (some ⟨B + 1, 0, none⟩), .int .i64 0, undef, undef, undef, .agg #[.int .i64 s, .slice (some ⟨H, o, none⟩) N c1], .bool true, .bool false, undef, .pointer (some ⟨B, 0, none⟩), undef, undef, .pointer (some ⟨B, 1, none⟩), .slice (some ⟨H, o, none⟩) N c1, undef, undef, undef, undef, undef, undef, undef, undef, undef, undef, undef, undef, undef, undef, undef, undef, undef, undef, undef, undef, undef, undef, undef], defers := [] } w' := by
    intro w'  hI
    obtain ⟨b0, b1⟩ := hI.cells
    subst hops
    refine wpAny_ready (rs := [1, 2, 7]) (by kernel_rfl) (by simp) ?_
    refine AllReady.cons rfl (fun K hK => ?_) ?_
    · go_simp
      exact hK _ _ (S0134 _ hI)
    refine AllReady.cons rfl (fun K hK => ?_) ?_
    · go_simp
      exact hK _ _ (S0234 _ _ hI.empty)
    refine AllReady.cons rfl (fun K hK => ?_) ?_
    · go_simp
      exact hK _ _ (S0347 _ _ hI.boxed)
    exact AllReady.nil
  have S037 : ∀ (w' : World) (Q : Nat), DrI w1 B s N H o c1 h none (some Q) w' → wpAny Try.prog .any ops Qp 6 #[true, false, false, true, false, false, false, true, false] { tmps := #[.agg #[.int .i64 s, .slice (some ⟨H, o, none⟩) N c1], .slice g2 K c2, .pointer (some ⟨B, 0, none⟩), undef, .pointer (some ⟨B + 1, 0, none⟩), .int .i64 0, .pointer (some ⟨Q, 0, none⟩), undef, undef, .agg #[.int .i64 s, .slice (some ⟨H, o, none⟩) N c1], .bool true, .bool false, undef, .pointer (some ⟨B, 0, none⟩), undef, undef, .pointer (some ⟨B, 1, none⟩), undef, undef, undef, undef, undef, undef, undef, undef, undef, undef, undef, undef, undef, undef, undef, undef, undef, undef, undef, undef, undef, undef, undef, undef], defers := [] } w' := by
    intro w' Q hI
    obtain ⟨b0, b1⟩ := hI.cells
    subst hops
    refine wpAny_ready (rs := [1, 2, 4]) (by kernel_rfl) (by simp) ?_
    refine AllReady.cons rfl (fun K hK => ?_) ?_
    · go_simp
      exact hK _ _ (S0137 _ Q hI)
    refine AllReady.cons rfl (fun K hK => ?_) ?_
    · go_simp
      exact hK _ _ (S0237 _ _ Q hI.empty)
    refine AllReady.cons rfl (fun K hK => ?_) ?_
    · go_simp
      exact hK _ _ (S0347 _ Q hI)
    exact AllReady.nil
  have S03 : ∀ (w' : World), DrI w1 B s N H o c1 h none none w' → wpAny Try.prog .any ops Qp 7 #[true, false, false, true, false, false, false, false, false] { tmps := #[.agg #[.int .i64 s, .slice (some ⟨H, o, none⟩) N c1], .slice g2 K c2, .pointer (some ⟨B, 0, none⟩), undef, .pointer (some ⟨B + 1, 0, none⟩), .int .i64 0, undef, undef, undef, .agg #[.int .i64 s, .slice (some ⟨H, o, none⟩) N c1], .bool true, .bool false, undef, .pointer (some ⟨B, 0, none⟩), undef, undef, .pointer (some ⟨B, 1, none⟩), undef, undef, undef, undef, undef, undef, undef, undef, undef, undef, undef, undef, undef, undef, undef, undef, undef, undef, undef, undef, undef, undef, undef, undef], defers := [] } w' := by
    intro w'  hI
    obtain ⟨b0, b1⟩ := hI.cells
    subst hops
    refine wpAny_ready (rs := [1, 2, 4, 7]) (by kernel_rfl) (by simp) ?_
    refine AllReady.cons rfl (fun K hK => ?_) ?_
    · go_simp
      exact hK _ _ (S013 _ hI)
    refine AllReady.cons rfl (fun K hK => ?_) ?_
    · go_simp
      exact hK _ _ (S023 _ _ hI.empty)
    refine AllReady.cons rfl (fun K hK => ?_) ?_
    · go_simp
      exact hK _ _ (S034 _ hI)
    refine AllReady.cons rfl (fun K hK => ?_) ?_
    · go_simp
      exact hK _ _ (S037 _ _ hI.boxed)
    exact AllReady.nil
  have S07 : ∀ (w' : World) (Q : Nat), DrI w1 B s N H o c1 h none (some Q) w' → wpAny Try.prog .any ops Qp 7 #[true, false, false, false, false, false, false, true, false] { tmps := #[.agg #[.int .i64 s, .slice (some ⟨H, o, none⟩) N c1], .slice g2 K c2, .pointer (some ⟨B, 0, none⟩), undef, .pointer (some ⟨B + 1, 0, none⟩), .int .i64 0, .pointer (some ⟨Q, 0, none⟩), undef, undef, .agg #[.int .i64 s, .slice (some ⟨H, o, none⟩) N c1], .bool true, .bool false, undef, .pointer (some ⟨B, 0, none⟩), undef, undef, undef, undef, undef, undef, undef, undef, undef, undef, undef, undef, undef, undef, undef, undef, undef, undef, undef, undef, undef, undef, undef, undef, undef, undef, undef], defers := [] } w' := by
    intro w' Q hI
    obtain ⟨b0, b1⟩ := hI.cells
    subst hops
    refine wpAny_ready (rs := [1, 2, 3]) (by kernel_rfl) (by simp) ?_
    refine AllReady.cons rfl (fun K hK => ?_) ?_
    · go_simp
      exact hK _ _ (S017 _ Q hI)
    refine AllReady.cons rfl (fun K hK => ?_) ?_
    · go_simp
      exact hK _ _ (S027 _ _ Q hI.empty)
    refine AllReady.cons rfl (fun K hK => ?_) ?_
    · go_simp
      exact hK _ _ (S037 _ Q hI)
    exact AllReady.nil
  have S0 : ∀ (w' : World), DrI w1 B s N H o c1 h none none w' → wpAny Try.prog .any ops Qp 8 #[true, false, false, false, false, false, false, false, false] { tmps := #[.agg #[.int .i64 s, .slice (some ⟨H, o, none⟩) N c1], .slice g2 K c2, .pointer (some ⟨B, 0, none⟩), undef, .pointer (some ⟨B + 1, 0, none⟩), .int .i64 0, undef, undef, undef, .agg #[.int .i64 s, .slice (some ⟨H, o, none⟩) N c1], .bool true, .bool false, undef, .pointer (some ⟨B, 0, none⟩), undef, undef, undef, undef, undef, undef, undef, undef, undef, undef, undef, undef, undef, undef, undef, undef, undef, undef, undef, undef, undef, undef, undef, undef, undef, undef, undef], defers := [] } w' := by
    intro w'  hI
    obtain ⟨b0, b1⟩ := hI.cells
    subst hops
    refine wpAny_ready (rs := [1, 2, 3, 7]) (by kernel_rfl) (by simp) ?_
    refine AllReady.cons rfl (fun K hK => ?_) ?_
    · go_simp
      exact hK _ _ (S01 _ hI)
    refine AllReady.cons rfl (fun K hK => ?_) ?_
    · go_simp
      exact hK _ _ (S02 _ _ hI.empty)
    refine AllReady.cons rfl (fun K hK => ?_) ?_
    · go_simp
      exact hK _ _ (S03 _ hI)
    refine AllReady.cons rfl (fun K hK => ?_) ?_
    · go_simp
      exact hK _ _ (S07 _ _ hI.boxed)
    exact AllReady.nil
  have S23457 : ∀ (w' : World) (Z M cap Q : Nat), DrI w1 B s N H o c1 h (some (M, cap)) (some Q) w' → wpAny Try.prog .any ops Qp 4 #[false, false, true, true, true, true, false, true, false] { tmps := #[.agg #[.int .i64 s, .slice (some ⟨H, o, none⟩) N c1], .slice g2 K c2, .pointer (some ⟨B, 0, none⟩), undef, .pointer (some ⟨B + 1, 0, none⟩), .int .i64 0, .pointer (some ⟨Q, 0, none⟩), undef, undef, .agg #[.int .i64 s, .slice (some ⟨H, o, none⟩) N c1], .bool true, .bool false, undef, undef, undef, .slice (some ⟨Z, 0, none⟩) 0 0, .pointer (some ⟨B, 1, none⟩), .slice (some ⟨H, o, none⟩) N c1, .slice (some ⟨M, 0, none⟩) N cap, undef, undef, undef, undef, undef, undef, undef, undef, undef, undef, undef, undef, undef, undef, undef, undef, undef, undef, undef, undef, undef, undef], defers := [] } w' := by
    intro w' Z M cap Q hI
    obtain ⟨b0, b1⟩ := hI.cells
    subst hops
    refine wpAny_ready (rs := [0]) (by kernel_rfl) (by simp) ?_
    refine AllReady.cons rfl (fun K hK => ?_) ?_
    · go_simp
      exact hK _ _ (S023457 _ Z M cap Q hI)
    exact AllReady.nil
  have S2345 : ∀ (w' : World) (Z M cap : Nat), DrI w1 B s N H o c1 h (some (M, cap)) none w' → wpAny Try.prog .any ops Qp 5 #[false, false, true, true, true, true, false, false, false] { tmps := #[.agg #[.int .i64 s, .slice (some ⟨H, o, none⟩) N c1], .slice g2 K c2, .pointer (some ⟨B, 0, none⟩), undef, .pointer (some ⟨B + 1, 0, none⟩), .int .i64 0, undef, undef, undef, .agg #[.int .i64 s, .slice (some ⟨H, o, none⟩) N c1], .bool true, .bool false, undef, undef, undef, .slice (some ⟨Z, 0, none⟩) 0 0, .pointer (some ⟨B, 1, none⟩), .slice (some ⟨H, o, none⟩) N c1, .slice (some ⟨M, 0, none⟩) N cap, undef, undef, undef, undef, undef, undef, undef, undef, undef, undef, undef, undef, undef, undef, undef, undef, undef, undef, undef, undef, undef, undef], defers := [] } w' := by
    intro w' Z M cap hI
    obtain ⟨b0, b1⟩ := hI.cells
    subst hops
    refine wpAny_ready (rs := [0, 7]) (by kernel_rfl) (by simp) ?_
    refine AllReady.cons rfl (fun K hK => ?_) ?_
    · go_simp
      exact hK _ _ (S02345 _ Z M cap hI)
    refine AllReady.cons rfl (fun K hK => ?_) ?_
    · go_simp
      exact hK _ _ (S23457 _ Z M cap _ hI.boxed)
    exact AllReady.nil
  have S2347 : ∀ (w' : World) (Z Q : Nat), DrI w1 B s N H o c1 h none (some Q) w' → wpAny Try.prog .any ops Qp 5 #[false, false, true, true, true, false, false, true, false] { tmps := #[.agg #[.int .i64 s, .slice (some ⟨H, o, none⟩) N c1], .slice g2 K c2, .pointer (some ⟨B, 0, none⟩), undef, .pointer (some ⟨B + 1, 0, none⟩), .int .i64 0, .pointer (some ⟨Q, 0, none⟩), undef, undef, .agg #[.int .i64 s, .slice (some ⟨H, o, none⟩) N c1], .bool true, .bool false, undef, undef, undef, .slice (some ⟨Z, 0, none⟩) 0 0, .pointer (some ⟨B, 1, none⟩), .slice (some ⟨H, o, none⟩) N c1, undef, undef, undef, undef, undef, undef, undef, undef, undef, undef, undef, undef, undef, undef, undef, undef, undef, undef, undef, undef, undef, undef, undef], defers := [] } w' := by
    intro w' Z Q hI
    obtain ⟨b0, b1⟩ := hI.cells
    obtain ⟨cap, w6, hrun, hI6⟩ := hI.app Z
    subst hops
    refine wpAny_ready (rs := [0, 5]) (by kernel_rfl) (by simp) ?_
    refine AllReady.cons rfl (fun K hK => ?_) ?_
    · go_simp
      exact hK _ _ (S02347 _ Z Q hI)
    refine AllReady.cons rfl (fun K hK => ?_) ?_
    · go_simp
      exact hK _ _ (S23457 _ Z _ _ Q hI6)
    exact AllReady.nil
  have S234 : ∀ (w' : World) (Z : Nat), DrI w1 B s N H o c1 h none none w' → wpAny Try.prog .any ops Qp 6 #[false, false, true, true, true, false, false, false, false] { tmps := #[.agg #[.int .i64 s, .slice (some ⟨H, o, none⟩) N c1], .slice g2 K c2, .pointer (some ⟨B, 0, none⟩), undef, .pointer (some ⟨B + 1, 0, none⟩), .int .i64 0, undef, undef, undef, .agg #[.int .i64 s, .slice (some ⟨H, o, none⟩) N c1], .bool true, .bool false, undef, undef, undef, .slice (some ⟨Z, 0, none⟩) 0 0, .pointer (some ⟨B, 1, none⟩), .slice (some ⟨H, o, none⟩) N c1, undef, undef, undef, undef, undef, undef, undef, undef, undef, undef, undef, undef, undef, undef, undef, undef, undef, undef, undef, undef, undef, undef, undef], defers := [] } w' := by
    intro w' Z hI
    obtain ⟨b0, b1⟩ := hI.cells
    obtain ⟨cap, w6, hrun, hI6⟩ := hI.app Z
    subst hops
    refine wpAny_ready (rs := [0, 5, 7]) (by kernel_rfl) (by simp) ?_
    refine AllReady.cons rfl (fun K hK => ?_) ?_
    · go_simp
      exact hK _ _ (S0234 _ Z hI)
    refine AllReady.cons rfl (fun K hK => ?_) ?_
    · go_simp
      exact hK _ _ (S2345 _ Z _ _ hI6)
    refine AllReady.cons rfl (fun K hK => ?_) ?_
    · go_simp
      exact hK _ _ (S2347 _ Z _ hI.boxed)
    exact AllReady.nil
  have S237 : ∀ (w' : World) (Z Q : Nat), DrI w1 B s N H o c1 h none (some Q) w' → wpAny Try.prog .any ops Qp 6 #[false, false, true, true, false, false, false, true, false] { tmps := #[.agg #[.int .i64 s, .slice (some ⟨H, o, none⟩) N c1], .slice g2 K c2, .pointer (some ⟨B, 0, none⟩), undef, .pointer (some ⟨B + 1, 0, none⟩), .int .i64 0, .pointer (some ⟨Q, 0, none⟩), undef, undef, .agg #[.int .i64 s, .slice (some ⟨H, o, none⟩) N c1], .bool true, .bool false, undef, undef, undef, .slice (some ⟨Z, 0, none⟩) 0 0, .pointer (some ⟨B, 1, none⟩), undef, undef, undef, undef, undef, undef, undef, undef, undef, undef, undef, undef, undef, undef, undef, undef, undef, undef, undef, undef, undef, undef, undef, undef], defers := [] } w' := by
    intro w' Z Q hI
    obtain ⟨b0, b1⟩ := hI.cells
    subst hops
    refine wpAny_ready (rs := [0, 4]) (by kernel_rfl) (by simp) ?_
    refine AllReady.cons rfl (fun K hK => ?_) ?_
    · go_simp
      exact hK _ _ (S0237 _ Z Q hI)
    refine AllReady.cons rfl (fun K hK => ?_) ?_
    · go_simp
      exact hK _ _ (S2347 _ Z Q hI)
    exact AllReady.nil
  have S23 : ∀ (w' : World) (Z : Nat), DrI w1 B s N H o c1 h none none w' → wpAny Try.prog .any ops Qp 7 #[false, false, true, true, false, false, false, false, false] { tmps := #[.agg #[.int .i64 s, .slice (some ⟨H, o, none⟩) N c1], .slice g2 K c2, .pointer (some ⟨B, 0, none⟩), undef, .pointer (some ⟨B + 1, 0, none⟩), .int .i64 0, undef, undef, undef, .agg #[.int .i64 s, .slice (some ⟨H, o, none⟩) N c1], .bool true, .bool false, undef, undef, undef, .slice (some ⟨Z, 0, none⟩) 0 0, .pointer (some ⟨B, 1, none⟩), undef, undef, undef, undef, undef, undef, undef, undef, undef, undef, undef, undef, undef, undef, undef, undef, undef, undef, undef, undef, undef, undef, undef, undef], defers := [] } w' := by
    intro w' Z hI
    obtain ⟨b0, b1⟩ := hI.cells
    subst hops
    refine wpAny_ready (rs := [0, 4, 7]) (by kernel_rfl) (by simp) ?_
    refine AllReady.cons rfl (fun K hK => ?_) ?_
    · go_simp
      exact hK _ _ (S023 _ Z hI)
    refine AllReady.cons rfl (fun K hK => ?_) ?_
    · go_simp
      exact hK _ _ (S234 _ Z hI)
    refine AllReady.cons rfl (fun K hK => ?_) ?_
    · go_simp
      exact hK _ _ (S237 _ Z _ hI.boxed)
    exact AllReady.nil
  have S27 : ∀ (w' : World) (Z Q : Nat), DrI w1 B s N H o c1 h none (some Q) w' → wpAny Try.prog .any ops Qp 7 #[false, false, true, false, false, false, false, true, false] { tmps := #[.agg #[.int .i64 s, .slice (some ⟨H, o, none⟩) N c1], .slice g2 K c2, .pointer (some ⟨B, 0, none⟩), undef, .pointer (some ⟨B + 1, 0, none⟩), .int .i64 0, .pointer (some ⟨Q, 0, none⟩), undef, undef, .agg #[.int .i64 s, .slice (some ⟨H, o, none⟩) N c1], .bool true, .bool false, undef, undef, undef, .slice (some ⟨Z, 0, none⟩) 0 0, undef, undef, undef, undef, undef, undef, undef, undef, undef, undef, undef, undef, undef, undef, undef, undef, undef, undef, undef, undef, undef, undef, undef, undef, undef], defers := [] } w' := by
    intro w' Z Q hI
    obtain ⟨b0, b1⟩ := hI.cells
    subst hops
    refine wpAny_ready (rs := [0, 3]) (by kernel_rfl) (by simp) ?_
    refine AllReady.cons rfl (fun K hK => ?_) ?_
    · go_simp
      exact hK _ _ (S027 _ Z Q hI)
    refine AllReady.cons rfl (fun K hK => ?_) ?_
    · go_simp
      exact hK _ _ (S237 _ Z Q hI)
    exact AllReady.nil
  have S2 : ∀ (w' : World) (Z : Nat), DrI w1 B s N H o c1 h none none w' → wpAny Try.prog .any ops Qp 8 #[false, false, true, false, false, false, false, false, false] { tmps := #[.agg #[.int .i64 s, .slice (some ⟨H, o, none⟩) N c1], .slice g2 K c2, .pointer (some ⟨B, 0, none⟩), undef, .pointer (some ⟨B + 1, 0, none⟩), .int .i64 0, undef, undef, undef, .agg #[.int .i64 s, .slice (some ⟨H, o, none⟩) N c1], .bool true, .bool false, undef, undef, undef, .slice (some ⟨Z, 0, none⟩) 0 0, undef, undef, undef, undef, undef, undef, undef, undef, undef, undef, undef, undef, undef, undef, undef, undef, undef, undef, undef, undef, undef, undef, undef, undef, undef], defers := [] } w' := by
    intro w' Z hI
    obtain ⟨b0, b1⟩ := hI.cells
    subst hops
    refine wpAny_ready (rs := [0, 3, 7]) (by kernel_rfl) (by simp) ?_
    refine AllReady.cons rfl (fun K hK => ?_) ?_
    · go_simp
      exact hK _ _ (S02 _ Z hI)
    refine AllReady.cons rfl (fun K hK => ?_) ?_
    · go_simp
      exact hK _ _ (S23 _ Z hI)
    refine AllReady.cons rfl (fun K hK => ?_) ?_
    · go_simp
      exact hK _ _ (S27 _ Z _ hI.boxed)
    exact AllReady.nil
  have S347 : ∀ (w' : World) (Q : Nat), DrI w1 B s N H o c1 h none (some Q) w' → wpAny Try.prog .any ops Qp 6 #[false, false, false, true, true, false, false, true, false] { tmps := #[.agg #[.int .i64 s, .slice (some ⟨H, o, none⟩) N c1], .slice g2 K c2, .pointer (some ⟨B, 0, none⟩), undef, .pointer (some ⟨B + 1, 0, none⟩), .int .i64 0, .pointer (some ⟨Q, 0, none⟩), undef, undef, .agg #[.int .i64 s, .slice (some ⟨H, o, none⟩) N c1], .bool true, .bool false, undef, undef, undef, undef, .pointer (some ⟨B, 1, none⟩), .slice (some ⟨H, o, none⟩) N c1, undef, undef, undef, undef, undef, undef, undef, undef, undef, undef, undef, undef, undef, undef, undef, undef, undef, undef, undef, undef, undef, undef, undef], defers := [] } w' := by
    intro w' Q hI
    obtain ⟨b0, b1⟩ := hI.cells
    subst hops
    refine wpAny_ready (rs := [0, 2]) (by kernel_rfl) (by simp) ?_
    refine AllReady.cons rfl (fun K hK => ?_) ?_
    · go_simp
      exact hK _ _ (S0347 _ Q hI)
    refine AllReady.cons rfl (fun K hK => ?_) ?_
    · go_simp
      exact hK _ _ (S2347 _ _ Q hI.empty)
    exact AllReady.nil
  have S34 : ∀ (w' : World), DrI w1 B s N H o c1 h none none w' → wpAny Try.prog .any ops Qp 7 #[false, false, false, true, true, false, false, false, false] { tmps := #[.agg #[.int .i64 s, .slice (some ⟨H, o, none⟩) N c1], .slice g2 K c2, .pointer (some ⟨B, 0, none⟩), undef, .pointer (some ⟨B + 1, 0, none⟩), .int .i64 0, undef, undef, undef, .agg #[.int .i64 s, .slice (some ⟨H, o, none⟩) N c1], .bool true, .bool false, undef, undef, undef, undef, .pointer (some ⟨B, 1, none⟩), .slice (some ⟨H, o, none⟩) N c1, undef, undef, undef, undef, undef, undef, undef, undef, undef, undef, undef, undef, undef, undef, undef, undef, undef, undef, undef, undef, undef, undef, undef], defers := [] } w' := by
    intro w'  hI
    obtain ⟨b0, b1⟩ := hI.cells
    subst hops
    refine wpAny_ready (rs := [0, 2, 7]) (by kernel_rfl) (by simp) ?_
    refine AllReady.cons rfl (fun K hK => ?_) ?_
    · go_simp
      exact hK _ _ (S034 _ hI)
    refine AllReady.cons rfl (fun K hK => ?_) ?_
    · go_simp
      exact hK _ _ (S234 _ _ hI.empty)
    refine AllReady.cons rfl (fun K hK => ?_) ?_
    · go_simp
      exact hK _ _ (S347 _ _ hI.boxed)
    exact AllReady.nil
  have S37 : ∀ (w' : World) (Q : Nat), DrI w1 B s N H o c1 h none (some Q) w' → wpAny Try.prog .any ops Qp 7 #[false, false, false, true, false, false, false, true, false] { tmps := #[.agg #[.int .i64 s, .slice (some ⟨H, o, none⟩) N c1], .slice g2 K c2, .pointer (some ⟨B, 0, none⟩), undef, .pointer (some ⟨B + 1, 0, none⟩), .int .i64 0, .pointer (some ⟨Q, 0, none⟩), undef, undef, .agg #[.int .i64 s, .slice (some ⟨H, o, none⟩) N c1], .bool true, .bool false, undef, undef, undef, undef, .pointer (some ⟨B, 1, none⟩), undef, undef, undef, undef, undef, undef, undef, undef, undef, undef, undef, undef, undef, undef, undef, undef, undef, undef, undef, undef, undef, undef, undef, undef], defers := [] } w' := by
    intro w' Q hI
    obtain ⟨b0, b1⟩ := hI.cells
    subst hops
    refine wpAny_ready (rs := [0, 2, 4]) (by kernel_rfl) (by simp) ?_
    refine AllReady.cons rfl (fun K hK => ?_) ?_
    · go_simp
      exact hK _ _ (S037 _ Q hI)
    refine AllReady.cons rfl (fun K hK => ?_) ?_
    · go_simp
      exact hK _ _ (S237 _ _ Q hI.empty)
    refine AllReady.cons rfl (fun K hK => ?_) ?_
    · go_simp
      exact hK _ _ (S347 _ Q hI)
    exact AllReady.nil
  have S3 : ∀ (w' : World), DrI w1 B s N H o c1 h none none w' → wpAny Try.prog .any ops Qp 8 #[false, false, false, true, false, false, false, false, false] { tmps := #[.agg #[.int .i64 s, .slice (some ⟨H, o, none⟩) N c1], .slice g2 K c2, .pointer (some ⟨B, 0, none⟩), undef, .pointer (some ⟨B + 1, 0, none⟩), .int .i64 0, undef, undef, undef, .agg #[.int .i64 s, .slice (some ⟨H, o, none⟩) N c1], .bool true, .bool false, undef, undef, undef, undef, .pointer (some ⟨B, 1, none⟩), undef, undef, undef, undef, undef, undef, undef, undef, undef, undef, undef, undef, undef, undef, undef, undef, undef, undef, undef, undef, undef, undef, undef, undef], defers := [] } w' := by
    intro w'  hI
    obtain ⟨b0, b1⟩ := hI.cells
    subst hops
    refine wpAny_ready (rs := [0, 2, 4, 7]) (by kernel_rfl) (by simp) ?_
    refine AllReady.cons rfl (fun K hK => ?_) ?_
    · go_simp
      exact hK _ _ (S03 _ hI)
    refine AllReady.cons rfl (fun K hK => ?_) ?_
    · go_simp
      exact hK _ _ (S23 _ _ hI.empty)
    refine AllReady.cons rfl (fun K hK => ?_) ?_
    · go_simp
      exact hK _ _ (S34 _ hI)
    refine AllReady.cons rfl (fun K hK => ?_) ?_
    · go_simp
      exact hK _ _ (S37 _ _ hI.boxed)
    exact AllReady.nil
  have S7 : ∀ (w' : World) (Q : Nat), DrI w1 B s N H o c1 h none (some Q) w' → wpAny Try.prog .any ops Qp 8 #[false, false, false, false, false, false, false, true, false] { tmps := #[.agg #[.int .i64 s, .slice (some ⟨H, o, none⟩) N c1], .slice g2 K c2, .pointer (some ⟨B, 0, none⟩), undef, .pointer (some ⟨B + 1, 0, none⟩), .int .i64 0, .pointer (some ⟨Q, 0, none⟩), undef, undef, .agg #[.int .i64 s, .slice (some ⟨H, o, none⟩) N c1], .bool true, .bool false, undef, undef, undef, undef, undef, undef, undef, undef, undef, undef, undef, undef, undef, undef, undef, undef, undef, undef, undef, undef, undef, undef, undef, undef, undef, undef, undef, undef, undef], defers := [] } w' := by
    intro w' Q hI
    obtain ⟨b0, b1⟩ := hI.cells
    subst hops
    refine wpAny_ready (rs := [0, 2, 3]) (by kernel_rfl) (by simp) ?_
    refine AllReady.cons rfl (fun K hK => ?_) ?_
    · go_simp
      exact hK _ _ (S07 _ Q hI)
    refine AllReady.cons rfl (fun K hK => ?_) ?_
    · go_simp
      exact hK _ _ (S27 _ _ Q hI.empty)
    refine AllReady.cons rfl (fun K hK => ?_) ?_
    · go_simp
      exact hK _ _ (S37 _ Q hI)
    exact AllReady.nil
  have S : ∀ (w' : World), DrI w1 B s N H o c1 h none none w' → wpAny Try.prog .any ops Qp 9 #[false, false, false, false, false, false, false, false, false] { tmps := #[.agg #[.int .i64 s, .slice (some ⟨H, o, none⟩) N c1], .slice g2 K c2, .pointer (some ⟨B, 0, none⟩), undef, .pointer (some ⟨B + 1, 0, none⟩), .int .i64 0, undef, undef, undef, .agg #[.int .i64 s, .slice (some ⟨H, o, none⟩) N c1], .bool true, .bool false, undef, undef, undef, undef, undef, undef, undef, undef, undef, undef, undef, undef, undef, undef, undef, undef, undef, undef, undef, undef, undef, undef, undef, undef, undef, undef, undef, undef, undef], defers := [] } w' := by
    intro w'  hI
    obtain ⟨b0, b1⟩ := hI.cells
    subst hops
    refine wpAny_ready (rs := [0, 2, 3, 7]) (by kernel_rfl) (by simp) ?_
    refine AllReady.cons rfl (fun K hK => ?_) ?_
    · go_simp
      exact hK _ _ (S0 _ hI)
    refine AllReady.cons rfl (fun K hK => ?_) ?_
    · go_simp
      exact hK _ _ (S2 _ _ hI.empty)
    refine AllReady.cons rfl (fun K hK => ?_) ?_
    · go_simp
      exact hK _ _ (S3 _ hI)
    refine AllReady.cons rfl (fun K hK => ?_) ?_
    · go_simp
      exact hK _ _ (S7 _ _ hI.boxed)
    exact AllReady.nil
  subst hops
  refine wp_region_any (by kernel_rfl) ?_
  exact S _ HCI.out
theorem rCarved_any (n : Int) (u v : Value) (h : List Bool) (l : List Gr) (w : World) (hu : LB w u h) (hv : GS w v l) (hm : l.length ≤ 4611686018427387904) :
    Calls Try.prog 35 #[.agg #[.int .i64 n, u], v] w fun en w' => ∃ r, en = .returned (.tuple #[r, .int .i64 (carE n h l)]) ∧ VF w.heap.size w' r (carS n h l) (carL n h l) ∧ Below w.heap.size w w' := by
  obtain ⟨g1, c1, rfl⟩ := hu.shape
  cases hb : blockB n h.length with
  | false =>
    exact (rCarved_inv n g1 h.length c1 v l w hv hb).mono fun en w' ⟨ha, hbb⟩ => by
      subst ha
      exact rCar_bad (by unfold carE; rw [hb]; rfl) (by decide) hbb
  | true =>
    have hb2 := hb
    unfold blockB at hb2
    rw [Bool.and_eq_true, decide_eq_true_eq] at hb2
    have hs := side_iff.1 hb2.1
    obtain ⟨s, rfl⟩ : ∃ s : Nat, n = s := ⟨n.toNat, by omega⟩
    have hl : h.length = s * s * s := by have := hb2.2; rw [← Int.natCast_mul, ← Int.natCast_mul] at this; exact Int.ofNat.inj this
    exact rCarved_in s h.length c1 g1 v h l w hu hv hm (by omega) (by omega) rfl hl.symm hb
end Go.Proofs.Yticcafjogmjkiaa.Cv
