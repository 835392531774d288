/-
  Data's walk: the labels gathered so far, and one more of them.
-/
import Derived.Test.YtjdcdakedoljbaaDoorMkBelow
import Derived.RangeFuncBox
import Derived.Deep.AppendLies
namespace Go.Proofs.YtjdcdakedoljbaaDoor.Mk
open Go Go.RowKit Go.Maps Go.Sort
theorem cell_drew_some {w : World} {a : Addr} {v : Value} (h : w.cell? a = some v) : w.drew.cell? a = some v := h
/-- The labels gathered so far, in a row of the call's own that a box holds; the parts' slice in its own box. -/
structure LabI (w : World) (Bx : Nat) (pv : Value) (lvs : List Value) (U A : Nat) (W3 W : World) : Prop where
  row : ∃ g cap, Boxed W Bx 68 (.slice (some ⟨g, 0, none⟩) lvs.length cap) ∧ W.ownsRow (w.heap.size + 1) 35 1 (.slice (some ⟨g, 0, none⟩) lvs.length cap) lvs.length lvs ∧ g ≠ U ∧ (g < A ∨ A + 5 ≤ g)
  kept : ∀ k, A ≤ k → k < A + 5 → W.heap[k]? = W3.heap[k]?
  big : A + 5 ≤ W.heap.size
  bel : Below w.heap.size w W
  par : W.cell? ⟨w.heap.size, 0, none⟩ = some pv
theorem labI_abide {w : World} {Bx : Nat} {pv : Value} {lvs : List Value} {U B0 A0 : Nat} {W3 : World} {own : Bool} (hown : own = true → U = B0 + 2) (hB0 : w.heap.size < B0) (hA0 : A0 + 5 ≤ B0) (hBx : Bx < B0) {A B : World} {row : Option Nat} (h : LabI w Bx pv lvs U A0 W3 A) (hg : A.grownBy B row)
    (hr : ∀ r, row = some r → own = true ∧ r = B0 + 2 ∨ (B0 ≤ r ∧ ∃ o : Obj, A.heap[r]? = some o ∧ o.isCells = false)) : LabI w Bx pv lvs U A0 W3 B := by
  obtain ⟨⟨g, cap, hb, ho, hU, hgA⟩, hkept, hbig, hbel, hpar⟩ := h
  have hne : ∀ k, IsCells A k → k ≠ U ∨ own = false → some k ≠ row := fun k hc hk e => by
    rcases hr k e.symm with ⟨h1, h2⟩ | ⟨_, o, h2, h3⟩
    · rcases hk with h4 | h4
      · exact h4 (by rw [hown h1]; exact h2)
      · rw [h4] at h1; cases h1
    · obtain ⟨o', h5, h6⟩ := hc
      rw [h2] at h5
      simp only [Option.some.injEq] at h5
      rw [← h5, h3] at h6
      cases h6
  have hrow : ∀ r, row = some r → B0 ≤ r := fun r e => by
    rcases hr r e with ⟨_, h2⟩ | ⟨h2, _⟩
    · omega
    · exact h2
  refine ⟨⟨g, cap, hb.kept hg (fun e => ?_), ho.kept hg (.inr fun e => ?_), hU, hgA⟩, fun k h1 h2 => (hg.block k (by omega) (fun e => by have := hrow _ e.symm; omega)).trans (hkept k h1 h2), Nat.le_trans hbig hg.size, hbel.grown hg hbel.size (fun k e => by have := hrow k e; omega), ?_⟩
  · have := hrow Bx e.symm
    omega
  · have hcg : IsCells A g := by
      rcases ho.2 with ⟨h1, _⟩ | ⟨g', cap', cur, h1, _, h2, _⟩
      · simp at h1
      · simp only [Value.slice.injEq, Option.some.injEq, Addr.mk.injEq, and_true, true_and] at h1
        rw [← h1.1] at h2
        exact ⟨_, h2, rfl⟩
    exact hne g hcg (.inl hU) e
  · exact (World.cell?_of_block (w := A) (hg.block w.heap.size (World.block_lt_of_cell? _ _ hpar) (fun e => by have := hrow _ e.symm; omega))).trans hpar
/-- The values of the labels of the parts, as the parts' cells hold them. -/
structure LabV (w : World) (b o : Nat) (p : List PB) (lvF : Nat → Value) : Prop where
  at_ : ∀ k x, p[k]? = some x → w.cell? ⟨b, o + k * 3 + 2, none⟩ = some (lvF k) ∧ RL w (lvF k) x.label
theorem info_label : (Tryd.prog.info? 35).map (fun i => (i.zero, i.size, i.bytes)) = some (some (.slice none 0 0), 1, 24) := by kernel_rfl
theorem drew_grown (W : World) : W.grownBy W.drew none := ⟨rfl, rfl, rfl, Nat.le_refl _, fun _ _ _ => rfl⟩
/-- One label more. -/
theorem labI_step {w W W3 : World} {Bx U A : Nat} {pv : Value} {lvs : List Value} (h : LabI w Bx pv lvs U A W3 W) (hlen : lvs.length ≤ 1000) (hB1 : w.heap.size < Bx) (hB2 : Bx < A) (hU : U ≤ W.heap.size) (gx : Option Addr) (nx cx : Nat) :
    ∃ g cap g' cap' w1, Boxed W Bx 68 (.slice (some ⟨g, 0, none⟩) lvs.length cap) ∧
      (Builtin.append_ #[68, 68] 68 #[.slice (some ⟨g, 0, none⟩) lvs.length cap, .slice (some ⟨W.heap.size, 0, none⟩) 1 1]).run Tryd.prog (W.drew.alloc (.cells #[.slice gx nx cx] 35)) = .ok (.slice (some ⟨g', 0, none⟩) (lvs.length + 1) cap') w1 ∧
      Boxed w1 Bx 68 (.slice (some ⟨g, 0, none⟩) lvs.length cap) ∧
      KeepsOthers W (w1.setCell ⟨Bx, 0, none⟩ (.slice (some ⟨g', 0, none⟩) (lvs.length + 1) cap')) ∧
      Keep Bx W (w1.setCell ⟨Bx, 0, none⟩ (.slice (some ⟨g', 0, none⟩) (lvs.length + 1) cap')) ∧
      LabI w Bx pv (lvs ++ [.slice gx nx cx]) U A W3 (w1.setCell ⟨Bx, 0, none⟩ (.slice (some ⟨g', 0, none⟩) (lvs.length + 1) cap')) := by
  obtain ⟨⟨g, cap, hb, ho, hgU, hgA⟩, hkept, hbig, hbel, hpar⟩ := h
  obtain ⟨i0, hi0, hz0, hz1, hz2⟩ := info_parts info_label
  have hbz := hb.lt
  have hg0 : w.heap.size + 1 ≤ g ∧ g < W.heap.size := by
    have := (ho.lt g (by simp [Value.ownBlock]))
    exact this
  obtain ⟨W1, hW1⟩ : ∃ W1, W.drew.alloc (.cells #[.slice gx nx cx] 35) = W1 := ⟨_, rfl⟩
  have hg1 : W.grownBy W1 none := by
    rw [← hW1]
    exact ⟨rfl, rfl, rfl, by show _ ≤ (W.drew.heap.push _).size; rw [Array.size_push]; exact Nat.le_succ _, fun k hk _ => Below.heap_alloc W.drew _ k hk⟩
  have hz1' : W1.heap.size = W.heap.size + 1 := by rw [← hW1]; show (W.drew.heap.push _).size = _; rw [Array.size_push]; rfl
  have ho1 := ho.kept hg1 (.inr (by simp [Value.ownBlock]))
  have hb1 := hb.kept hg1 (by simp)
  have hnew : W1.heap[W.heap.size]? = some (.cells #[.slice gx nx cx] 35) := by rw [← hW1]; exact World.alloc_heap_new W.drew _
  obtain ⟨g', cap', w1, hrun, hown1, hgrow1, hat, hlt⟩ := run_append_lies (P := Tryd.prog) W1 68 68 (w.heap.size + 1) 35 i0 (.slice none 0 0) 1 24 Tryd.underlying68 hi0 hz0 hz1 hz2 rfl (by decide) _ _ _ ho1
    ⟨W.heap.size, 0, none⟩ 1 1 [.slice gx nx cx] rfl (World.news_of_block (cs := #[.slice gx nx cx]) hnew) (by simp [Value.oneCell']) (by decide) (by unfold maxLen; omega) (by omega) (by have := hbel.size; omega) _ hz1'
  rw [hW1]
  have hat' : g' = g ∨ g' = W.heap.size + 1 := by
    rcases hat with h1 | h1
    · exact .inl (by simpa [Value.ownBlock] using h1.symm)
    · exact .inr h1
  have hbw : Boxed w1 Bx 68 (.slice (some ⟨g, 0, none⟩) lvs.length cap) := hb1.kept hgrow1 (hb1.not_row (by decide) ho1)
  have hgBx : g ≠ Bx := fun e => hb.not_row (by decide) ho (by rw [e]; rfl)
  have hgBx' : g' ≠ Bx := fun e => by rcases hat' with h1 | h1 <;> omega
  have hblk : ∀ k, k < W.heap.size → k ≠ Bx → k ≠ g → (w1.setCell ⟨Bx, 0, none⟩ (.slice (some ⟨g', 0, none⟩) (lvs.length + 1) cap')).heap[k]? = W.heap[k]? := fun k h1 h2 h3 =>
    (Below.heap_setCell _ _ _ k h2).trans ((hgrow1.block k (by omega) (by simpa [Value.ownBlock] using h3)).trans (hg1.block k h1 (by simp)))
  have hsz : W.heap.size ≤ (w1.setCell ⟨Bx, 0, none⟩ (.slice (some ⟨g', 0, none⟩) (lvs.length + 1) cap')).heap.size := by
    have := hgrow1.size
    have := (KeepsWalks.setCell w1 ⟨Bx, 0, none⟩ (.slice (some ⟨g', 0, none⟩) (lvs.length + 1) cap')).size
    omega
  have hbox' := hbw.set (.slice (some ⟨g', 0, none⟩) (lvs.length + 1) cap')
  refine ⟨g, cap, g', cap', w1, hb, hrun, hbw, ?_, ⟨hsz, fun k hk _ hn => ?_, fun k hk hn => ⟨hn.1, fun v hv => ?_⟩⟩, ⟨⟨g', cap', by rw [List.length_append]; exact hbox', ?_, ?_, ?_⟩, fun k h1 h2 => (hblk k (by omega) (by omega) (by omega)).trans (hkept k h1 h2), by omega, ?_, ?_⟩⟩
  · refine ⟨hsz, fun k o hk ho2 => (hblk k (Array.getElem?_eq_some_iff.1 hk).1 (fun e => ?_) (fun e => ?_)).trans hk⟩
    · rw [e, show W.heap[Bx]? = _ from hb] at hk
      simp only [Option.some.injEq] at hk
      rw [← hk] at ho2
      cases ho2
    · rcases ho.2 with ⟨h1, _⟩ | ⟨g2, cap2, cur, h1, _, h2, _⟩
      · simp at h1
      · simp only [Value.slice.injEq, Option.some.injEq, Addr.mk.injEq, and_true, true_and] at h1
        rw [e, h1.1, h2] at hk
        simp only [Option.some.injEq] at hk
        rw [← hk] at ho2
        cases ho2
  · exact hblk k hk hn.1 (fun e => hn.2 _ hb.cell (by rw [e]; rfl))
  · have h1 := hbox'.cell
    rw [hv] at h1
    simp only [Option.some.injEq] at h1
    rw [h1]
    simp only [Value.ownBlock, ne_eq, Option.some.injEq]
    have h2 : k ≠ g := fun e => hn.2 _ hb.cell (by rw [e]; rfl)
    rcases hat' with h3 | h3 <;> omega
  · rw [List.length_append]
    exact hown1.kept (grownBy_setCell' w1 Bx _) (.inr (by simpa [Value.ownBlock] using hgBx'))
  · rcases hat' with h3 | h3 <;> omega
  · rcases hat' with h3 | h3 <;> omega
  · have hrow : ∀ k, (Value.slice (some ⟨g, 0, none⟩) lvs.length cap).ownBlock = some k → w.heap.size ≤ k := fun k e => by
      simp only [Value.ownBlock, Option.some.injEq] at e
      omega
    exact ((hbel.grown hg1 hbel.size (fun k e => by cases e)).grown hgrow1 (by have := hbel.size; omega) hrow).setCell (p := ⟨Bx, 0, none⟩) (by simp; omega) _
  · refine (World.cell?_of_block (w := W) (hblk w.heap.size (World.block_lt_of_cell? _ _ hpar) (by omega) (by omega))).trans hpar
/-! ### Which parts the functions give -/
theorem mem_bels {p : List PB} {i m x : Nat} (h : x ∈ bels p i m) : x < m ∧ i < x ∧ underB p i x = true := by
  unfold bels at h
  rw [List.mem_filter, List.mem_range] at h
  simp only [Bool.and_eq_true, decide_eq_true_eq] at h
  exact ⟨h.1, h.2.1, h.2.2⟩
theorem mem_bels_of {p : List PB} {i m x : Nat} (h : x < m) (h1 : i < x) (h2 : underB p i x = true) : x ∈ bels p i m := by
  unfold bels
  rw [List.mem_filter, List.mem_range]
  simp [h, h1, h2]
theorem mem_anc {p : List PB} (hv : validP p = true) : ∀ (n k x : Nat), k ≤ n → k < p.length → x ∈ anc p n k → x < k
  | 0, _, _, _, _, h => by simp [anc] at h
  | n + 1, k, x, hn, hk, h => by
    simp only [anc] at h
    by_cases h0 : k = 0
    · rw [if_pos h0] at h
      cases h
    · rw [if_neg h0] at h
      have hp := (par_lt hv hk (by omega)).1
      rcases List.mem_cons.1 h with rfl | h
      · exact hp
      · have := mem_anc hv n (par p k) x (by omega) (by omega) h
        omega
theorem mem_ancs {p : List PB} (hv : validP p = true) {k x : Nat} (hk : k < p.length) (h : x ∈ ancs p k) : x < k := mem_anc hv k k x (Nat.le_refl _) hk h
theorem ancs_len {p : List PB} (hv : validP p = true) : ∀ (n k : Nat), k ≤ n → k < p.length → (anc p n k).length ≤ k
  | 0, _, _, _ => by simp [anc]
  | n + 1, k, hn, hk => by
    simp only [anc]
    by_cases h0 : k = 0
    · rw [if_pos h0]
      simp
    · rw [if_neg h0]
      have hp := (par_lt hv hk (by omega)).1
      have := ancs_len hv n (par p k) (by omega) (by omega)
      simp only [List.length_cons]
      omega
theorem bels_len (p : List PB) (i m : Nat) : (bels p i m).length ≤ m := by
  unfold bels
  exact Nat.le_trans (List.length_filter_le _ _) (by simp)
end Go.Proofs.YtjdcdakedoljbaaDoor.Mk
