/-
  A label in a row of the call's own, read and changed; the reference's merged.
-/
import Derived.Test.YtjdcdakedoljbaaDoorMkRefC
import Derived.Deep.AppendSrc
namespace Go.Proofs.YtjdcdakedoljbaaDoor.Mk
open Go Go.RowKit Go.Maps Go.Deep Go.ChangeShapes Go.WideShapes

theorem cellsL_len (L : List FB) : (cellsL L).length = L.length * 2 := by
  induction L with
  | nil => rfl
  | cons f L ih => simp only [cellsL, List.length_cons, ih]; omega
theorem cellsL_set : ∀ (L : List FB) (i : Nat) (f : FB), cellsL (L.set i f) = ((cellsL L).set (i * 2) (.string f.1)).set (i * 2 + 1) (.string f.2)
  | [], i, f => by simp [cellsL]
  | x :: L, 0, f => rfl
  | x :: L, i + 1, f => by
    rw [List.set_cons_succ]
    simp only [cellsL]
    rw [cellsL_set L i f, show (i + 1) * 2 = i * 2 + 1 + 1 by omega, show i * 2 + 1 + 1 + 1 = (i * 2 + 1) + 1 + 1 by omega]
    simp [List.set_cons_succ]
theorem RowF.len {B : Nat} {w wr : World} {v : Value} {L : List FB} (h : RowF B w wr v L) (hp : 1 ≤ L.length) : ∃ g cap, v = .slice (some ⟨g, 0, none⟩) L.length cap ∧ B ≤ g ∧ g < wr.heap.size ∧ L.length ≤ cap ∧ cap ≤ maxLen := by
  rcases h.own.2 with ⟨_, h0⟩ | ⟨g, cap, cur, hv, hgB, hh, hnc, hcm, hcs, htake⟩
  · exact absurd h0 (by omega)
  · exact ⟨g, cap, hv, hgB, (Array.getElem?_eq_some_iff.1 hh).1, hnc, hcm⟩
theorem RowF.cell {B : Nat} {w wr : World} {g cap : Nat} {L : List FB} (h : RowF B w wr (.slice (some ⟨g, 0, none⟩) L.length cap) L) {i : Nat} {f : FB} (hf : L[i]? = some f) :
    wr.cell? ⟨g, i * 2, none⟩ = some (.string f.1) ∧ wr.cell? ⟨g, i * 2 + 1, none⟩ = some (.string f.2) := by
  have hil : i < L.length := (List.getElem?_eq_some_iff.1 hf).1
  obtain ⟨h1, h2⟩ := cellsL_at L i f hf
  exact ⟨(h.own.cellAt (i * 2) (by omega)).trans h1, (h.own.cellAt (i * 2 + 1) (by omega)).trans h2⟩
theorem RowF.froz {B : Nat} {w wr : World} {g cap : Nat} {L : List FB} (h : RowF B w wr (.slice (some ⟨g, 0, none⟩) L.length cap) L) (i : Nat) : wr.frozen? ⟨g, i, none⟩ = false := h.own.frozenAt i
theorem RowF.set_ {B : Nat} {w wr : World} {g cap : Nat} {L M : List FB} (h : RowF B w wr (.slice (some ⟨g, 0, none⟩) L.length cap) L) (hgB : B ≤ g) (hB : B ≤ wr.heap.size) (i : Nat) (f : FB) (hM : M = L.set i f) :
    RowF B w ((wr.setCell ⟨g, i * 2, none⟩ (.string f.1)).setCell ⟨g, i * 2 + 1, none⟩ (.string f.2)) (.slice (some ⟨g, 0, none⟩) M.length cap) M := by
  subst hM
  obtain ⟨h1, h2⟩ := h.own.stored (i * 2) (.string f.1)
  obtain ⟨h3, h4⟩ := h1.stored (i * 2 + 1) (.string f.2)
  refine ⟨?_, (h.bel.grown h2 hB (fun k hk => by cases hk; exact hgB)).grown h4 (by simpa [World.setCell] using hB) (fun k hk => by cases hk; exact hgB)⟩
  rw [List.length_set, cellsL_set]
  exact h3
theorem RowF.drew {B : Nat} {w wr : World} {v : Value} {L : List FB} (h : RowF B w wr v L) : RowF B w wr.drew v L := ⟨h.own, h.bel.drew⟩
theorem RowF.drewN {B : Nat} {w wr : World} {v : Value} {L : List FB} (h : RowF B w wr v L) (n : Nat) : RowF B w (wr.drewN n) v L := ⟨h.own, ⟨h.bel.os, h.bel.tape, h.bel.output, h.bel.size, h.bel.block⟩⟩
theorem swapF (P S : List FB) (y x : FB) : ((P ++ [y] ++ x :: S).set (P.length + 1) y).set P.length x = P ++ x :: y :: S := by
  simp
theorem midF (P S : List FB) (y x : FB) : (P ++ [y] ++ x :: S)[P.length]? = some y ∧ (P ++ [y] ++ x :: S)[P.length + 1]? = some x := by
  constructor <;> simp
theorem klt_less {a b : FB} : Op.bytesLess a.1.toList b.1.toList = true ↔ klt a b := by
  rw [bytesLess_eq, decide_eq_true_eq, Lib.toList_data, Lib.toList_data]
  exact Iff.rfl
theorem klt_less_no {a b : FB} (h : ¬ klt a b) : Op.bytesLess a.1.toList b.1.toList = false := by
  cases h2 : Op.bytesLess a.1.toList b.1.toList
  · rfl
  · exact absurd (klt_less.1 h2) h
theorem cells_of_label {w : World} {b o : Nat} {L : List FB} (hc : ∀ i f, L[i]? = some f → w.cell? ⟨b, o + i * 2, none⟩ = some (.string f.1) ∧ w.cell? ⟨b, o + i * 2 + 1, none⟩ = some (.string f.2)) :
    ∀ j u, (cellsL L)[j]? = some u → w.cell? ((⟨b, o, none⟩ : Addr).add j) = some u := by
  intro j u hu
  have hj : j < (cellsL L).length := (List.getElem?_eq_some_iff.1 hu).1
  rw [cellsL_len] at hj
  obtain ⟨f, hf⟩ : ∃ f, L[j / 2]? = some f := ⟨L[j / 2], List.getElem?_eq_getElem (by omega)⟩
  obtain ⟨h1, h2⟩ := hc _ _ hf
  obtain ⟨h3, h4⟩ := cellsL_at L _ f hf
  rcases Nat.mod_two_eq_zero_or_one j with h5 | h5
  · have e : j / 2 * 2 = j := by omega
    rw [e] at h1 h3
    rw [h3] at hu
    rw [add_plain, h1, hu]
  · have e : j / 2 * 2 + 1 = j := by omega
    rw [Nat.add_assoc, e] at h2
    rw [e] at h4
    rw [h4] at hu
    rw [add_plain, h2, hu]
theorem cellsL_one (L : List FB) : ∀ u ∈ cellsL L, u.oneCell' = true := by
  induction L with
  | nil => exact fun u hu => by cases hu
  | cons f L ih =>
    intro u hu
    simp only [cellsL, List.mem_cons] at hu
    rcases hu with h | h | h
    · rw [h]; rfl
    · rw [h]; rfl
    · exact ih u h
end Go.Proofs.YtjdcdakedoljbaaDoor.Mk
