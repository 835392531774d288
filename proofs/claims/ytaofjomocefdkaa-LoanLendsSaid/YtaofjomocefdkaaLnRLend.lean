/-
  WALKS (layer 9, loan): the reference's Lend.
-/
import Derived.Test.YtaofjomocefdkaaLnLendP
import Derived.Test.YtaofjomocefdkaaLnClone
import Derived.Test.YtaofjomocefdkaaLnRefO
namespace Go.Proofs.Ytaofjomocefdkaa.Ln
open Go Go.RowKit Go.Sort
attribute [-go_sem] Builtin.append_

theorem rmay_more {l : List Loan} {k : Nat} {x y : Loan} (hy : l[k]? = some y) : rmayB (l.take (k + 1)) x = (rmayB (l.take k) x && !(decide (x.out < y.out) || ovB y x)) := by
  have hk := (List.getElem?_eq_some_iff.1 hy).1
  have e : l[k] = y := (List.getElem?_eq_some_iff.1 hy).2
  unfold rmayB
  rw [List.take_succ_eq_append_getElem hk, e, List.all_append]
  simp
theorem rmay_no {l : List Loan} {k : Nat} {x y : Loan} (hy : l[k]? = some y) (h : (decide (x.out < y.out) || ovB y x) = true) : rmayB l x = false := by
  unfold rmayB
  rw [List.all_eq_false]
  exact ⟨y, List.mem_of_getElem? hy, by rw [h]; decide⟩
theorem lend_1 {l : List Loan} {x : Loan} (h : lndB l x = false) : lendE l x = 1 ∧ lendL l x = [] := by
  have e : lendE l x = 1 := by unfold lendE; rw [h]; rfl
  refine ⟨e, ?_⟩
  unfold lendL
  rw [e, if_neg (by decide)]
theorem lend_9 {l : List Loan} {x : Loan} (h : lndB l x = true) (h2 : mayB l x = false) : lendE l x = 9 ∧ lendL l x = [] := by
  have e : lendE l x = 9 := by unfold lendE; rw [h, h2]; rfl
  refine ⟨e, ?_⟩
  unfold lendL
  rw [e, if_neg (by decide)]
theorem lend_4 {l : List Loan} {x : Loan} (h : lndB l x = true) (h2 : mayB l x = true) (h3 : l.length = 200) : lendE l x = 4 ∧ lendL l x = [] := by
  have e : lendE l x = 4 := by unfold lendE; rw [h, h2, h3]; rfl
  refine ⟨e, ?_⟩
  unfold lendL
  rw [e, if_neg (by decide)]
theorem lend_0 {l : List Loan} {x : Loan} (h : lndB l x = true) (h2 : mayB l x = true) (h3 : l.length ≠ 200) : lendE l x = 0 ∧ lendL l x = l ++ [x] := by
  have e : lendE l x = 0 := by unfold lendE; rw [h, h2, if_pos rfl, if_pos rfl, if_neg h3]
  refine ⟨e, ?_⟩
  unfold lendL
  rw [e, if_pos rfl]
theorem lnd_may {l : List Loan} {x : Loan} (h : lndB l x = true) : mayB l x = rmayB l x := by
  unfold lndB at h
  simp only [Bool.and_eq_true] at h
  exact may_eq h.1.1 h.1.2
/-- Loans copied onto an empty row of the call's own, whatever they are. -/
theorem OwnL.copy {w : World} {base Z c0 : Nat} {l : List Loan} {g : Option Addr} {c : Nat} (h : OwnL w base (.slice (some ⟨Z, 0, none⟩) 0 c0) []) (hl : LS w (.slice g l.length c) l) (hm : l.length ≤ 1000) (hb : base ≤ w.heap.size) :
    ∃ g' c' w', (Builtin.append_ #[22, 22] 22 #[.slice (some ⟨Z, 0, none⟩) 0 c0, .slice g l.length c]).run Try.prog w = .ok (.slice (some ⟨g', 0, none⟩) l.length c') w' ∧ OwnL w' base (.slice (some ⟨g', 0, none⟩) l.length c') l ∧ w.grownBy w' (some Z) := by
  obtain ⟨i0, hi, hz0, hz1, hz2⟩ := info_parts info_ln
  rcases Nat.eq_zero_or_pos l.length with h0 | h0
  · have hl0 := List.eq_nil_of_length_eq_zero h0
    subst hl0
    have hsrc : Src Try.prog i0.size 22 (.slice g 0 c) 0 [] w := by
      cases g with
      | none => exact Src.ofNil w Try.underlying22 c
      | some a => exact Src.ofSlice w Try.underlying22 a 0 c [] (by simp) (fun j u hu => by simp at hu) (fun u hu => by simp at hu)
    have hrun := run_append_room_src (P := Try.prog) w 22 22 22 26 i0 Try.underlying22 hi Z 0 0 c0 _ 0 [] hsrc (Nat.zero_le _) (fun j hj => by simp at hj) (fun j hj => by simp at hj)
    exact ⟨Z, c0, w, hrun, h, ⟨rfl, rfl, rfl, Nat.le_refl _, fun _ _ _ => rfl⟩⟩
  · have hfl : ∃ b o, g = some ⟨b, o, none⟩ ∧ ∀ j u, (flatL l)[j]? = some u → w.cell? ⟨b, o + j, none⟩ = some u := by
      obtain ⟨g2, c2, e, hcc, hi2⟩ := hl
      simp only [Value.slice.injEq] at e
      obtain ⟨rfl, -, rfl⟩ := e
      obtain ⟨b, o, rfl, -, -⟩ := hi2 0 _ (List.getElem?_eq_getElem h0)
      exact ⟨b, o, rfl, flatL_ls ⟨_, _, rfl, hcc, hi2⟩⟩
    obtain ⟨b, o, rfl, hfl⟩ := hfl
    obtain ⟨v', w', hrun, hown, hg, hnil, hat⟩ := run_append_own_at (P := Try.prog) (w := w) base 22 22 26 i0 (.agg #[.string ⟨#[]⟩, .string ⟨#[]⟩, .int .i64 0, .int .i64 0, .int .i64 0]) 5 56 Try.underlying22 hi hz0 hz1 hz2 rfl (by decide)
      _ 0 [] h ⟨b, o, none⟩ l.length c (flatL l) (flatL_len l) (fun j u hu => by rw [Addr.add_lit]; exact hfl j u hu) (flatL_one _) (by unfold maxLen; omega) (by omega) hb
    rw [Nat.zero_add, List.nil_append] at hown
    rcases hown.2 with ⟨hv, hn⟩ | ⟨g2, cap, cur, rfl, hrest⟩
    · omega
    · exact ⟨g2, cap, w', hrun, ⟨hown.1, .inr ⟨g2, cap, cur, rfl, hrest⟩⟩, hg⟩
theorem OwnL.fresh (w : World) (base : Nat) (hb : base ≤ w.heap.size) : OwnL (w.alloc (.cells #[] 26)) base (.slice (some ⟨w.heap.size, 0, none⟩) 0 0) [] := World.ownsRow_made w #[] 0 hb (Nat.zero_le _) rfl
end Go.Proofs.Ytaofjomocefdkaa.Ln
