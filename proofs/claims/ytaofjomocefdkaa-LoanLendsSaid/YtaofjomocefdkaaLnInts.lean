/-
  WALKS (layer 9, loan): rows of numbers of the call's own, and a cell that holds one.
-/
import Derived.Test.YtaofjomocefdkaaLnNamed
namespace Go.Proofs.Ytaofjomocefdkaa.Ln
open Go Go.RowKit Go.Sort

/-- A row of numbers of the call's own. -/
def OwnI (W : World) (B0 : Nat) (v : Value) (hs : List Int) : Prop := W.ownsRow B0 3 1 v hs.length (hs.map (.int .i64 ·))
theorem OwnI.nil (w : World) (B0 : Nat) : OwnI w B0 (.slice none 0 0) [] := ⟨rfl, .inl ⟨rfl, rfl⟩⟩
theorem OwnI.on {w W : World} {B0 : Nat} {v : Value} {l : List Int} (h : OwnI w B0 v l) (hb : Below w.heap.size w W) : OwnI W B0 v l := h.kept (grown_below hb none) (by cases hv : v.ownBlock <;> simp)
theorem OwnI.shape {w : World} {base : Nat} {v : Value} {l : List Int} (h : OwnI w base v l) : ∃ g c, v = .slice g l.length c := by
  rcases h.2 with ⟨hv, h0⟩ | ⟨g, cap, cur, hv, -⟩
  · exact ⟨none, 0, by rw [hv, h0]⟩
  · exact ⟨_, _, hv⟩
theorem OwnI.block {W : World} {B0 : Nat} {v : Value} {l : List Int} (h : OwnI W B0 v l) {j : Nat} (e : v.ownBlock = some j) : B0 ≤ j ∧ j < W.heap.size ∧ ∃ o : Obj, W.heap[j]? = some o ∧ o.isCells = true := by
  rcases h.2 with ⟨hv, -⟩ | ⟨g, cap, cur, hv, hgB, hh, -⟩
  · subst hv; cases e
  · subst hv
    simp [Value.ownBlock] at e
    subst e
    exact ⟨hgB, (Array.getElem?_eq_some_iff.1 hh).1, _, hh, rfl⟩
theorem OwnI.ri {w : World} {B0 : Nat} {v : Value} {l : List Int} (h : OwnI w B0 v l) : RI w v l := by
  rcases h.2 with ⟨hv, h0⟩ | ⟨g, cap, cur, hv, hgB, hh, hnc, hcm, hcs, htake⟩
  · have hq : l = [] := List.eq_nil_of_length_eq_zero h0
    subst hq
    exact ⟨none, 0, hv, fun i s hs => by simp at hs⟩
  · refine ⟨some ⟨g, 0, none⟩, cap, hv, fun i x hx => ⟨g, rfl, ?_⟩⟩
    have hi := (List.getElem?_eq_some_iff.1 hx).1
    have e : (l.map (Value.int .i64 ·))[i]? = some (.int .i64 x) := by rw [List.getElem?_map, hx]; rfl
    rw [← htake, List.getElem?_take, if_pos (by omega), Array.getElem?_toList] at e
    simp only [World.cell?, hh]
    simpa using e
theorem newsI_one {W : World} {Y : Nat} {r : Int} (h0 : W.cell? ⟨Y, 0, none⟩ = some (.int .i64 r)) :
    ∀ j u, ([Value.int .i64 r] : List Value)[j]? = some u → W.cell? ((⟨Y, 0, none⟩ : Addr).add j) = some u := by
  intro j u hu
  match j with
  | 0 => simp at hu; subst hu; exact h0
  | j + 1 => simp at hu
theorem info_int2 : (Try.prog.info? 3).map (fun i => (i.zero, i.size, i.bytes)) = some (some (.int .i64 0), 1, 8) := by kernel_rfl
/-- One number more: the run of the append, with what it leaves. -/
theorem OwnI.next {w : World} {base Y : Nat} {v : Value} {l : List Int} {x : Int} (h : OwnI w base v l) (hx : w.cell? ⟨Y, 0, none⟩ = some (.int .i64 x)) (hn : l.length ≤ 100000) (hb : base ≤ w.heap.size) :
    ∃ g c w', (Builtin.append_ #[35, 35] 35 #[v, .slice (some ⟨Y, 0, none⟩) 1 1]).run Try.prog w = .ok (.slice g (l.length + 1) c) w' ∧ OwnI w' base (.slice g (l.length + 1) c) (l ++ [x]) ∧ w.grownBy w' v.ownBlock ∧ ((Value.slice g (l.length + 1) c).ownBlock = v.ownBlock ∨ (Value.slice g (l.length + 1) c).ownBlock = some w.heap.size) := by
  obtain ⟨i0, hi, hz0, hz1, hz2⟩ := info_parts info_int2
  obtain ⟨v', w', hrun, hown, hg, -, hat⟩ := run_append_own_at (P := Try.prog) (w := w) base 35 35 3 i0 (.int .i64 0) 1 8 Try.underlying35 hi hz0 hz1 hz2 rfl (by decide)
    v l.length (l.map (.int .i64 ·)) h ⟨Y, 0, none⟩ 1 1 [.int .i64 x] rfl (newsI_one hx) (fun u hu => by rw [List.mem_singleton.1 hu]; rfl) (by unfold maxLen; omega) (by omega) hb
  have ho : OwnI w' base v' (l ++ [x]) := by
    unfold OwnI
    rw [List.length_append, List.map_append]
    exact hown
  obtain ⟨g, c, hv⟩ := ho.shape
  rw [List.length_append, List.length_singleton] at hv
  subst hv
  exact ⟨g, c, w', hrun, ho, hg, hat⟩
/-- The cell at Z holds a row of numbers, which lies from B0 on. -/
def CII (w : World) (Z B0 : Nat) (l : List Int) (V : World) : Prop := Below w.heap.size w V ∧ ∃ u, V.cell? ⟨Z, 0, none⟩ = some u ∧ (∀ j, V.frozen? ⟨Z, j, none⟩ = false) ∧ OwnI V B0 u l
theorem CII.on {w V X : World} {Z B0 : Nat} {l : List Int} (h : CII w Z B0 l V) (hb : Below V.heap.size V X) : CII w Z B0 l X := by
  obtain ⟨h1, u, h2, h3, h4⟩ := h
  have hz := World.block_lt_of_cell? _ _ h2
  exact ⟨h1.trans (hb.mono h1.size), u, (hb.cell (p := ⟨Z, 0, none⟩) hz).trans h2, fun j => (World.frozen?_of_block (a := ⟨Z, j, none⟩) (hb.block _ hz)).trans (h3 j), h4.on hb⟩
theorem CII.turns {w : World} {Z B0 C : Nat} {l : List Int} (hC : w.heap.size ≤ C) (hz : Z < C) : Turns 0 C (CII w Z B0 l) := by
  intro X Y row ⟨h1, u, h2, h3, h4⟩ g hr
  have eZ : Y.heap[Z]? = X.heap[Z]? := g.block Z (World.block_lt_of_cell? _ _ h2) (fun e => by have := (hr Z e.symm).1; omega)
  refine ⟨⟨g.os.trans h1.os, g.tape.trans h1.tape, g.output.trans h1.output, Nat.le_trans h1.size g.size, fun j hj => ?_⟩, u, (World.cell?_of_block (a := ⟨Z, 0, none⟩) eZ).trans h2, fun j => (World.frozen?_of_block (a := ⟨Z, j, none⟩) eZ).trans (h3 j), ?_⟩
  · exact (g.block j (Nat.lt_of_lt_of_le hj h1.size) (fun e => by have := (hr j e.symm).1; omega)).trans (h1.block j hj)
  · refine World.ownsRow.kept h4 g ?_
    cases e : u.ownBlock with
    | none => exact .inl rfl
    | some j =>
      refine .inr (fun e2 => ?_)
      obtain ⟨-, -, o, ho, hc⟩ := h4.block e
      obtain ⟨-, h5 | ⟨p, hp, hpc⟩⟩ := hr j e2.symm
      · have := (hr j e2.symm).1
        omega
      · rw [ho] at hp
        cases hp
        rw [hc] at hpc
        cases hpc
/-- A round: one number more. -/
theorem cii_next {w V : World} {Z B0 : Nat} {l : List Int} {x : Int} (h : CII w Z B0 l V) (hw : w.heap.size ≤ Z) (hZB : Z < B0) (hn : l.length ≤ 100000) (hV : B0 ≤ V.heap.size) :
    ∃ g0 c0 g c W', V.cell? ⟨Z, 0, none⟩ = some (.slice g0 l.length c0) ∧ (Builtin.append_ #[35, 35] 35 #[.slice g0 l.length c0, .slice (some ⟨V.heap.size, 0, none⟩) 1 1]).run Try.prog (V.alloc (.cells #[.int .i64 x] 3)) = .ok (.slice g (l.length + 1) c) W' ∧ (∃ v, W'.cell? ⟨Z, 0, none⟩ = some v) ∧ (∀ j, W'.frozen? ⟨Z, j, none⟩ = false) ∧
    CII w Z B0 (l ++ [x]) (W'.setCell ⟨Z, 0, none⟩ (.slice g (l.length + 1) c)) ∧ (∀ (S : Nat → Prop) m n, n + m ≤ B0 → Z < n → (∀ k, S k → k < B0 ∧ k ≠ Z) → Keep S m n V (W'.setCell ⟨Z, 0, none⟩ (.slice g (l.length + 1) c))) := by
  obtain ⟨h1, u, h2, h3, h4⟩ := h
  obtain ⟨g0, c0, rfl⟩ := h4.shape
  have hzV := World.block_lt_of_cell? _ _ h2
  have hb : Below V.heap.size V (V.alloc (.cells #[.int .i64 x] 3)) := (Below.refl _ _).alloc (Nat.le_refl _) _
  have hX : (V.alloc (.cells #[.int .i64 x] 3)).cell? ⟨V.heap.size, 0, none⟩ = some (.int .i64 x) := by go_simp
  have ho := h4.on hb
  obtain ⟨g, c, W', hrun, hown, hgr, hat⟩ := ho.next hX hn (by rw [World.size_alloc]; omega)
  have eZ : W'.heap[Z]? = V.heap[Z]? := (hgr.block Z (by rw [World.size_alloc]; omega) (fun e => by have := (ho.block e.symm).1; omega)).trans (hb.block Z hzV)
  have hc : W'.cell? ⟨Z, 0, none⟩ = some (.slice g0 l.length c0) := (World.cell?_of_block (a := ⟨Z, 0, none⟩) eZ).trans h2
  have hf : ∀ j, W'.frozen? ⟨Z, j, none⟩ = false := fun j => (World.frozen?_of_block (a := ⟨Z, j, none⟩) eZ).trans (h3 j)
  have hB : Below w.heap.size w W' := (h1.trans (hb.mono h1.size)).grown hgr (by have := h1.size; rw [World.size_alloc]; omega) (fun j hj => by have := (ho.block hj).1; omega)
  refine ⟨g0, c0, g, c, W', h2, hrun, ⟨_, hc⟩, hf, ⟨hB.setCell (by simp only; omega) _, .slice g (l.length + 1) c, by simp [go_sem, hc], fun j => by simp [go_sem, hf], ?_⟩, ?_⟩
  · refine World.ownsRow.kept (row := some Z) hown (setCell_grown _ _ _ _) ?_
    cases e : (Value.slice g (l.length + 1) c).ownBlock with
    | none => exact .inl rfl
    | some j => exact .inr (fun e2 => by have := (hown.block e).1; simp only [Option.some.injEq] at e2; omega)
  · intro S m n hm hZn hS
    have k1 : Keep S m n V (V.alloc (.cells #[.int .i64 x] 3)) := Keep.below hb (fun k hk => by have := (hS k hk).1; omega)
    have k2 : Keep S m n (V.alloc (.cells #[.int .i64 x] 3)) W' := Keep.of_row hgr (fun k hk => by have := (hS k hk).1; rw [World.size_alloc]; omega) (fun r e => by
      obtain ⟨a1, -, a3⟩ := ho.block e
      exact ⟨by omega, fun hSr => by have := (hS r hSr).1; omega, a3⟩)
    have k3 : Keep S m n W' (W'.setCell ⟨Z, 0, none⟩ (.slice g (l.length + 1) c)) := Keep.of_grown (setCell_grown W' Z 0 _) (fun k hk => by have := (hS k hk).1; have := hgr.size; rw [World.size_alloc] at this; omega) (fun r e => by
      simp only [Option.some.injEq] at e
      subst e
      exact ⟨hZn, fun hk => (hS _ hk).2 rfl⟩)
    exact (k1.trans k2).trans k3
end Go.Proofs.Ytaofjomocefdkaa.Ln
