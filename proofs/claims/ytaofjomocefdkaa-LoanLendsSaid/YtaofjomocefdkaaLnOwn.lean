/-
  WALKS (layer 9, loan): rows of loans of the call's own, and a cell that holds one.
-/
import Derived.Test.YtaofjomocefdkaaLnCharge
namespace Go.Proofs.Ytaofjomocefdkaa.Ln
open Go Go.RowKit Go.Sort

def flatL : List Loan → List Value
  | [] => []
  | x :: xs => .string x.p :: .string x.t :: .int .i64 x.out :: .int .i64 x.due :: .int .i64 x.back :: flatL xs
theorem flatL_append (a b : List Loan) : flatL (a ++ b) = flatL a ++ flatL b := by
  induction a with
  | nil => rfl
  | cons q a ih => simp [flatL, ih]
theorem flatL_at : ∀ {l : List Loan} {i : Nat} {x : Loan}, l[i]? = some x → (flatL l)[i * 5]? = some (.string x.p) ∧ (flatL l)[i * 5 + 1]? = some (.string x.t) ∧ (flatL l)[i * 5 + 2]? = some (.int .i64 x.out) ∧ (flatL l)[i * 5 + 3]? = some (.int .i64 x.due) ∧ (flatL l)[i * 5 + 4]? = some (.int .i64 x.back)
  | [], i, x, h => by simp at h
  | q :: l, 0, x, h => by
    simp at h
    subst h
    exact ⟨rfl, rfl, rfl, rfl, rfl⟩
  | q :: l, i + 1, x, h => by
    have h2 : l[i]? = some x := by simpa using h
    obtain ⟨a, b, c, d, e⟩ := flatL_at h2
    refine ⟨?_, ?_, ?_, ?_, ?_⟩
    · rw [show (i + 1) * 5 = i * 5 + 1 + 1 + 1 + 1 + 1 by omega]; exact a
    · rw [show (i + 1) * 5 + 1 = (i * 5 + 1) + 1 + 1 + 1 + 1 + 1 by omega]; exact b
    · rw [show (i + 1) * 5 + 2 = (i * 5 + 2) + 1 + 1 + 1 + 1 + 1 by omega]; exact c
    · rw [show (i + 1) * 5 + 3 = (i * 5 + 3) + 1 + 1 + 1 + 1 + 1 by omega]; exact d
    · rw [show (i + 1) * 5 + 4 = (i * 5 + 4) + 1 + 1 + 1 + 1 + 1 by omega]; exact e
theorem flatL_one (l : List Loan) : ∀ u ∈ flatL l, u.oneCell' = true := by
  induction l with
  | nil => intro u h; cases h
  | cons q a ih =>
    intro u h
    simp only [flatL, List.mem_cons] at h
    rcases h with rfl | rfl | rfl | rfl | rfl | h
    · rfl
    · rfl
    · rfl
    · rfl
    · rfl
    · exact ih u h
/-- A row of loans of the call's own. -/
def OwnL (W : World) (B0 : Nat) (v : Value) (l : List Loan) : Prop := W.ownsRow B0 26 5 v l.length (flatL l)
theorem OwnL.nil (w : World) (B0 : Nat) : OwnL w B0 (.slice none 0 0) [] := ⟨rfl, .inl ⟨rfl, rfl⟩⟩
theorem OwnL.on {w W : World} {B0 : Nat} {v : Value} {l : List Loan} (h : OwnL w B0 v l) (hb : Below w.heap.size w W) : OwnL W B0 v l := h.kept (grown_below hb none) (by cases hv : v.ownBlock <;> simp)
theorem OwnL.ls {w : World} {B0 : Nat} {v : Value} {l : List Loan} (h : OwnL w B0 v l) (hw : ∀ x ∈ l, x.wf) : LS w v l := by
  rcases h.2 with ⟨hv, h0⟩ | ⟨g, cap, cur, hv, hgB, hh, hnc, hcm, hcs, htake⟩
  · have hq : l = [] := List.eq_nil_of_length_eq_zero h0
    subst hq
    exact ⟨none, 0, hv, Nat.le_refl _, fun i s hs => by simp at hs⟩
  · refine ⟨some ⟨g, 0, none⟩, cap, hv, hnc, fun i s hs => ⟨g, 0, rfl, ?_, hw s (List.mem_of_getElem? hs)⟩⟩
    have hi := (List.getElem?_eq_some_iff.1 hs).1
    obtain ⟨h0, h1, h2, h3, h4⟩ := flatL_at hs
    rw [← htake, List.getElem?_take] at h0 h1 h2 h3 h4
    rw [if_pos (by omega), Array.getElem?_toList] at h0 h1 h2 h3 h4
    refine ⟨?_, ?_, ?_, ?_, ?_⟩
    · rw [Nat.zero_add]; simp only [World.cell?, hh]; simpa using h0
    · rw [Nat.zero_add]; simp only [World.cell?, hh]; simpa using h1
    · rw [Nat.zero_add]; simp only [World.cell?, hh]; simpa using h2
    · rw [Nat.zero_add]; simp only [World.cell?, hh]; simpa using h3
    · rw [Nat.zero_add]; simp only [World.cell?, hh]; simpa using h4
theorem OwnL.shape {w : World} {B0 : Nat} {v : Value} {l : List Loan} (h : OwnL w B0 v l) : ∃ g c, v = .slice g l.length c := by
  rcases h.2 with ⟨hv, h0⟩ | ⟨g, cap, cur, hv, -⟩
  · exact ⟨none, 0, by rw [h0]; exact hv⟩
  · exact ⟨_, _, hv⟩
theorem OwnL.block {W : World} {B0 : Nat} {v : Value} {l : List Loan} (h : OwnL W B0 v l) {j : Nat} (e : v.ownBlock = some j) : B0 ≤ j ∧ j < W.heap.size ∧ ∃ o : Obj, W.heap[j]? = some o ∧ o.isCells = true := by
  rcases h.2 with ⟨hv, -⟩ | ⟨g, cap, cur, hv, hgB, hh, -⟩
  · subst hv; cases e
  · subst hv
    simp [Value.ownBlock] at e
    subst e
    exact ⟨hgB, (Array.getElem?_eq_some_iff.1 hh).1, _, hh, rfl⟩
theorem info_ln : (Try.prog.info? 26).map (fun i => (i.zero, i.size, i.bytes)) = some (some (.agg #[.string ⟨#[]⟩, .string ⟨#[]⟩, .int .i64 0, .int .i64 0, .int .i64 0]), 5, 56) := by kernel_rfl
theorem newsL_one {W : World} {Y : Nat} {r : Loan} (h : LAt W Y 0 r) : ∀ j u, (flatL [r])[j]? = some u → W.cell? ((⟨Y, 0, none⟩ : Addr).add j) = some u := by
  intro j u hu
  obtain ⟨h0, h1, h2, h3, h4⟩ := h
  simp only [Nat.zero_add] at h0 h1 h2 h3 h4
  match j with
  | 0 => simp [flatL] at hu; subst hu; exact h0
  | 1 => simp [flatL] at hu; subst hu; exact h1
  | 2 => simp [flatL] at hu; subst hu; exact h2
  | 3 => simp [flatL] at hu; subst hu; exact h3
  | 4 => simp [flatL] at hu; subst hu; exact h4
  | j + 5 => simp [flatL] at hu
/-- One loan more: the run of the append, with what it leaves. -/
theorem OwnL.next {w : World} {base Y : Nat} {v : Value} {l : List Loan} {x : Loan} (h : OwnL w base v l) (hx : LAt w Y 0 x) (hn : l.length ≤ 100000) (hb : base ≤ w.heap.size) :
    ∃ g c w', (Builtin.append_ #[22, 22] 22 #[v, .slice (some ⟨Y, 0, none⟩) 1 1]).run Try.prog w = .ok (.slice g (l.length + 1) c) w' ∧ OwnL w' base (.slice g (l.length + 1) c) (l ++ [x]) ∧ w.grownBy w' v.ownBlock ∧ ((Value.slice g (l.length + 1) c).ownBlock = v.ownBlock ∨ (Value.slice g (l.length + 1) c).ownBlock = some w.heap.size) := by
  obtain ⟨i0, hi, hz0, hz1, hz2⟩ := info_parts info_ln
  obtain ⟨v', w', hrun, hown, hg, -, hat⟩ := run_append_own_at (P := Try.prog) (w := w) base 22 22 26 i0 (.agg #[.string ⟨#[]⟩, .string ⟨#[]⟩, .int .i64 0, .int .i64 0, .int .i64 0]) 5 56 Try.underlying22 hi hz0 hz1 hz2 rfl (by decide)
    v l.length (flatL l) h ⟨Y, 0, none⟩ 1 1 (flatL [x]) rfl (newsL_one hx) (flatL_one _) (by unfold maxLen; omega) (by omega) hb
  have ho : OwnL w' base v' (l ++ [x]) := by
    unfold OwnL
    rw [List.length_append, flatL_append]
    exact hown
  obtain ⟨g, c, hv⟩ := ho.shape
  rw [List.length_append, List.length_singleton] at hv
  subst hv
  exact ⟨g, c, w', hrun, ho, hg, hat⟩
/-- A turn of a block of cells behind the first m from n on. -/
theorem Keep.of_row {S : Nat → Prop} {m n : Nat} {A B : World} {row : Option Nat} (h : A.grownBy B row) (hA : ∀ k, S k → k < A.heap.size) (hr : ∀ r, row = some r → n + m ≤ r ∧ ¬ S r ∧ ∃ o : Obj, A.heap[r]? = some o ∧ o.isCells = true) : Keep S m n A B :=
  have hb : ∀ k o, row ≠ some k → A.heap[k]? = some o → B.heap[k]? = some o := fun k _ hk ho => (h.block k (Array.getElem?_eq_some_iff.1 ho).1 (fun e => hk e.symm)).trans ho
  ⟨h.size, fun k hk => h.block k (hA k hk) (fun e => (hr k e.symm).2.1 hk), fun k o _ ho hc => hb k o (fun e => by
    obtain ⟨-, -, p, hp, hpc⟩ := hr k e
    rw [hp] at ho
    cases ho
    rw [hpc] at hc
    cases hc) ho, fun k o _ hm ho => hb k o (fun e => by have := (hr k e).1; omega) ho⟩
/-- The cell at Z holds a row of loans, which lies from B0 on. -/
def CIL (w : World) (Z B0 : Nat) (l : List Loan) (V : World) : Prop := Below w.heap.size w V ∧ ∃ u, V.cell? ⟨Z, 0, none⟩ = some u ∧ (∀ j, V.frozen? ⟨Z, j, none⟩ = false) ∧ OwnL V B0 u l
theorem CIL.on {w V X : World} {Z B0 : Nat} {l : List Loan} (h : CIL w Z B0 l V) (hb : Below V.heap.size V X) : CIL w Z B0 l X := by
  obtain ⟨h1, u, h2, h3, h4⟩ := h
  have hz := World.block_lt_of_cell? _ _ h2
  exact ⟨h1.trans (hb.mono h1.size), u, (hb.cell (p := ⟨Z, 0, none⟩) hz).trans h2, fun j => (World.frozen?_of_block (a := ⟨Z, j, none⟩) (hb.block _ hz)).trans (h3 j), h4.on hb⟩
theorem CIL.turns {w : World} {Z B0 C : Nat} {l : List Loan} (hC : w.heap.size ≤ C) (hz : Z < C) : Turns 0 C (CIL w Z B0 l) := by
  intro X Y row ⟨h1, u, h2, h3, h4⟩ g hr
  have eZ : Y.heap[Z]? = X.heap[Z]? := g.block Z (World.block_lt_of_cell? _ _ h2) (fun e => by have := (hr Z e.symm).1; omega)
  refine ⟨⟨g.os.trans h1.os, g.tape.trans h1.tape, g.output.trans h1.output, Nat.le_trans h1.size g.size, fun j hj => ?_⟩, u, (World.cell?_of_block (a := ⟨Z, 0, none⟩) eZ).trans h2, fun j => (World.frozen?_of_block (a := ⟨Z, j, none⟩) eZ).trans (h3 j), ?_⟩
  · exact (g.block j (Nat.lt_of_lt_of_le hj h1.size) (fun e => by have := (hr j e.symm).1; omega)).trans (h1.block j hj)
  · refine World.ownsRow.kept h4 g ?_
    cases e : u.ownBlock with
    | none => exact .inl rfl
    | some j =>
      refine .inr (fun e2 => ?_)
      obtain ⟨-, -, o, ho, hc⟩ := h4.block e
      obtain ⟨-, h5 | ⟨p, hp, hpc⟩⟩ := hr j e2.symm
      · have := (hr j e2.symm).1
        omega
      · rw [ho] at hp
        cases hp
        rw [hc] at hpc
        cases hpc
/-- A round: one loan more. -/
theorem cil_next {w V : World} {Z B0 : Nat} {l : List Loan} {x : Loan} (h : CIL w Z B0 l V) (hw : w.heap.size ≤ Z) (hZB : Z < B0) (hn : l.length ≤ 100000) (hV : B0 ≤ V.heap.size) :
    ∃ g0 c0 g c W', V.cell? ⟨Z, 0, none⟩ = some (.slice g0 l.length c0) ∧ (Builtin.append_ #[22, 22] 22 #[.slice g0 l.length c0, .slice (some ⟨V.heap.size, 0, none⟩) 1 1]).run Try.prog (V.alloc (.cells #[.string x.p, .string x.t, .int .i64 x.out, .int .i64 x.due, .int .i64 x.back] 26)) = .ok (.slice g (l.length + 1) c) W' ∧ (∃ v, W'.cell? ⟨Z, 0, none⟩ = some v) ∧ (∀ j, W'.frozen? ⟨Z, j, none⟩ = false) ∧
    CIL w Z B0 (l ++ [x]) (W'.setCell ⟨Z, 0, none⟩ (.slice g (l.length + 1) c)) ∧ (∀ (S : Nat → Prop) m n, n + m ≤ B0 → Z < n → (∀ k, S k → k < B0 ∧ k ≠ Z) → Keep S m n V (W'.setCell ⟨Z, 0, none⟩ (.slice g (l.length + 1) c))) := by
  obtain ⟨h1, u, h2, h3, h4⟩ := h
  obtain ⟨g0, c0, rfl⟩ := h4.shape
  have hzV := World.block_lt_of_cell? _ _ h2
  have hb : Below V.heap.size V (V.alloc (.cells #[.string x.p, .string x.t, .int .i64 x.out, .int .i64 x.due, .int .i64 x.back] 26)) := (Below.refl _ _).alloc (Nat.le_refl _) _
  have hX : LAt (V.alloc (.cells #[.string x.p, .string x.t, .int .i64 x.out, .int .i64 x.due, .int .i64 x.back] 26)) V.heap.size 0 x := ⟨by go_simp, by go_simp, by go_simp, by go_simp, by go_simp⟩
  have ho := h4.on hb
  obtain ⟨g, c, W', hrun, hown, hgr, hat⟩ := ho.next hX hn (by rw [World.size_alloc]; omega)
  have eZ : W'.heap[Z]? = V.heap[Z]? := (hgr.block Z (by rw [World.size_alloc]; omega) (fun e => by have := (ho.block e.symm).1; omega)).trans (hb.block Z hzV)
  have hc : W'.cell? ⟨Z, 0, none⟩ = some (.slice g0 l.length c0) := (World.cell?_of_block (a := ⟨Z, 0, none⟩) eZ).trans h2
  have hf : ∀ j, W'.frozen? ⟨Z, j, none⟩ = false := fun j => (World.frozen?_of_block (a := ⟨Z, j, none⟩) eZ).trans (h3 j)
  have hB : Below w.heap.size w W' := (h1.trans (hb.mono h1.size)).grown hgr (by have := h1.size; rw [World.size_alloc]; omega) (fun j hj => by have := (ho.block hj).1; omega)
  refine ⟨g0, c0, g, c, W', h2, hrun, ⟨_, hc⟩, hf, ⟨hB.setCell (by simp only; omega) _, .slice g (l.length + 1) c, by simp [go_sem, hc], fun j => by simp [go_sem, hf], ?_⟩, ?_⟩
  · refine World.ownsRow.kept (row := some Z) hown (setCell_grown _ _ _ _) ?_
    cases e : (Value.slice g (l.length + 1) c).ownBlock with
    | none => exact .inl rfl
    | some j => exact .inr (fun e2 => by have := (hown.block e).1; simp only [Option.some.injEq] at e2; omega)
  · intro S m n hm hZn hS
    have k1 : Keep S m n V (V.alloc (.cells #[.string x.p, .string x.t, .int .i64 x.out, .int .i64 x.due, .int .i64 x.back] 26)) := Keep.below hb (fun k hk => by have := (hS k hk).1; omega)
    have k2 : Keep S m n (V.alloc (.cells #[.string x.p, .string x.t, .int .i64 x.out, .int .i64 x.due, .int .i64 x.back] 26)) W' := Keep.of_row hgr (fun k hk => by have := (hS k hk).1; rw [World.size_alloc]; omega) (fun r e => by
      obtain ⟨a1, -, a3⟩ := ho.block e
      exact ⟨by omega, fun hSr => by have := (hS r hSr).1; omega, a3⟩)
    have k3 : Keep S m n W' (W'.setCell ⟨Z, 0, none⟩ (.slice g (l.length + 1) c)) := Keep.of_grown (setCell_grown W' Z 0 _) (fun k hk => by have := (hS k hk).1; have := hgr.size; rw [World.size_alloc] at this; omega) (fun r e => by
      simp only [Option.some.injEq] at e
      subst e
      exact ⟨hZn, fun hk => (hS _ hk).2 rfl⟩)
    exact (k1.trans k2).trans k3
theorem LS.wfs {w : World} {v : Value} {l : List Loan} (h : LS w v l) : ∀ x ∈ l, x.wf := by
  obtain ⟨g, c, -, -, hi⟩ := h
  intro x hx
  obtain ⟨i, hi2, rfl⟩ := List.mem_iff_getElem.1 hx
  obtain ⟨-, -, -, -, hw⟩ := hi i _ (List.getElem?_eq_getElem hi2)
  exact hw
end Go.Proofs.Ytaofjomocefdkaa.Ln
