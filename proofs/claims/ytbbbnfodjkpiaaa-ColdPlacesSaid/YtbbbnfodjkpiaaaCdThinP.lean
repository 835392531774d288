/-
  Plain mathematics: thinned readings are valid, and have the same temperatures.
-/
import Derived.Test.YtbbbnfodjkpiaaaCdThin
import Derived.Test.YtbbbnfodjkpiaaaCdRAt
namespace Go.Proofs.Ytbbbnfodjkpiaaa.Cd
open Go Go.RowKit Go.Sort

def nowR (hour : Int) (xs : List Rd) : Int := xs.foldl (fun n x => if x.h ≤ hour then x.t else n) 0
theorem nowR_snoc (hour : Int) (xs : List Rd) (x : Rd) : nowR hour (xs ++ [x]) = if x.h ≤ hour then x.t else nowR hour xs := by
  unfold nowR; rw [List.foldl_append]; rfl
theorem now_take (l : List Rd) (e hour : Int) : ∀ k, k ≤ l.length → nowC hour (strs l e k) = nowR hour (l.take k) := by
  intro k
  induction k with
  | zero => intro _; rfl
  | succ k ih =>
    intro hk
    have hx : l[k]? = some l[k] := List.getElem?_eq_getElem (by omega)
    rw [strs_succ, nowC_snoc, sgAt_at hx, ih (by omega), List.take_succ_eq_append_getElem (by omega), nowR_snoc]
theorem thin_sub (l : List Rd) : ∀ k, k ≤ l.length → (thinU l k).Sublist (l.take k) := by
  intro k
  induction k with
  | zero => intro _; exact List.nil_sublist _
  | succ k ih =>
    intro hk
    have hx : l[k]? = some l[k] := List.getElem?_eq_getElem (by omega)
    have e1 : l.getD k ⟨0, 0⟩ = l[k] := by rw [List.getD_eq_getElem?_getD, hx]; rfl
    rw [List.take_succ_eq_append_getElem (by omega)]
    show (if _ then _ else _ : List Rd).Sublist _
    rw [e1]
    split
    · exact (ih (by omega)).append (List.Sublist.refl _)
    · exact (ih (by omega)).trans (List.sublist_append_left _ _)
theorem thin_now {l : List Rd} (h : readB l = true) (hour : Int) : ∀ k, k ≤ l.length → nowR hour (thinU l k) = nowR hour (l.take k) := by
  intro k
  induction k with
  | zero => intro _; rfl
  | succ k ih =>
    intro hk
    have hx : l[k]? = some l[k] := List.getElem?_eq_getElem (by omega)
    rw [List.take_succ_eq_append_getElem (by omega), nowR_snoc]
    by_cases h0 : k = 0
    · rw [thinU_new hx (.inl h0), nowR_snoc, ih (by omega)]
    · have hy : l[k - 1]? = some l[k - 1] := List.getElem?_eq_getElem (by omega)
      by_cases ht : l[k - 1].t = l[k].t
      · rw [thinU_old hx h0 hy ht, ih (by omega)]
        split
        · rename_i hh
          have ha := read_asc' h (show k - 1 < k by omega) hy hx
          have : l.take k = l.take (k - 1) ++ [l[k - 1]] := by
            have := List.take_succ_eq_append_getElem (show k - 1 < l.length by omega)
            rwa [show k - 1 + 1 = k by omega] at this
          rw [this, nowR_snoc, if_pos (by omega), ht]
        · rfl
      · rw [thinU_new hx (.inr ⟨_, hy, ht⟩), nowR_snoc, ih (by omega)]
theorem thin_first {l : List Rd} (h : 1 ≤ l.length) : ∀ k, (thinU l (k + 1))[0]? = l[0]? := by
  intro k
  induction k with
  | zero =>
    have hx : l[0]? = some l[0] := List.getElem?_eq_getElem (by omega)
    rw [thinU_new hx (.inl rfl), hx]; rfl
  | succ k ih =>
    have hx : l[0]? = some l[0] := List.getElem?_eq_getElem (by omega)
    show (if _ then _ else _ : List Rd)[0]? = _
    split
    · rw [hx] at ih
      obtain ⟨hl, e⟩ := List.getElem?_eq_some_iff.1 ih
      rw [List.getElem?_append_left hl, ih, hx]
    · exact ih
theorem read_pair {T : List Rd} (h1 : 1 ≤ T.length) (h2 : T.length ≤ 200) (hp : T.Pairwise (fun a b => a.h < b.h)) (hb : ∀ x ∈ T, (0 ≤ x.h ∧ x.h ≤ 1000000) ∧ -1000 ≤ x.t ∧ x.t ≤ 1000) : readB T = true := by
  refine read_yes h1 h2 ?_
  unfold okUp
  rw [List.all_eq_true]
  intro i hi
  have hi := List.mem_range.1 hi
  have hx : T[i]? = some T[i] := List.getElem?_eq_getElem hi
  rw [okAt_at hx]
  obtain ⟨⟨b1, b2⟩, b3, b4⟩ := hb T[i] (List.getElem_mem hi)
  unfold folB
  rw [in_yes b1 b2, in_yes b3 b4]
  cases i with
  | zero => rfl
  | succ j =>
    have hy : T[j]? = some T[j] := List.getElem?_eq_getElem (by omega)
    rw [show prev T (j + 1) = T[j]? from rfl, hy]
    have := List.pairwise_iff_getElem.1 hp j (j + 1) (by omega) hi (by omega)
    simp [precB, this]
theorem read_pairwise {l : List Rd} (h : readB l = true) : l.Pairwise (fun a b => a.h < b.h) :=
  List.pairwise_iff_getElem.2 fun _ _ hi hj hij => read_asc' h hij (List.getElem?_eq_getElem hi) (List.getElem?_eq_getElem hj)
theorem thin_read {l : List Rd} (h : readB l = true) : readB (thinU l l.length) = true := by
  have hl := read_len h
  have hs := thin_sub l l.length (Nat.le_refl _)
  rw [List.take_length] at hs
  have hf := thin_first hl.1 (l.length - 1)
  rw [show l.length - 1 + 1 = l.length by omega, List.getElem?_eq_getElem (show 0 < l.length by omega)] at hf
  have h1 := (List.getElem?_eq_some_iff.1 hf).1
  refine read_pair h1 (Nat.le_trans hs.length_le hl.2) ((read_pairwise h).sublist hs) fun x hx => ?_
  obtain ⟨i, hi, e⟩ := List.mem_iff_getElem.1 (hs.subset hx)
  exact read_bd h (by rw [List.getElem?_eq_getElem hi, e])
theorem thin_end {l : List Rd} {e : Int} (h : Good l e) : endB (thinU l l.length) e = true := by
  have hl := h.len
  have hr := read_len (thin_read h.read)
  have hs := thin_sub l l.length (Nat.le_refl _)
  rw [List.take_length] at hs
  have hk : (thinU l l.length).length - 1 < (thinU l l.length).length := by omega
  have hx : (thinU l l.length)[(thinU l l.length).length - 1]? = some (thinU l l.length)[(thinU l l.length).length - 1] := List.getElem?_eq_getElem hk
  obtain ⟨i, hi, e1⟩ := List.mem_iff_getElem.1 (hs.subset (List.getElem_mem hk))
  have := h.end_ (i := i) (by rw [List.getElem?_eq_getElem hi, e1])
  unfold endB
  rw [List.getD_eq_getElem?_getD, hx]
  exact in_yes this.1 this.2
theorem good_of_at {l : List Rd} {e hour : Int} (h : atE l e hour = 0) : Good l e := by
  unfold atE chkE at h
  cases hr : readB l with
  | false => rw [hr] at h; simp at h
  | true =>
    cases he : endB l e with
    | true => exact ⟨hr, he⟩
    | false => rw [hr, he] at h; simp at h
theorem thin_at {l : List Rd} {e hour : Int} (h : atE l e hour = 0) : atE (thinU l l.length) e hour = 0 ∧ atV (thinU l l.length) e hour = atV l e hour := by
  have hg := good_of_at h
  have hl := hg.len
  have hf := thin_first hl.1 (l.length - 1)
  rw [show l.length - 1 + 1 = l.length by omega] at hf
  have hF : firstH (thinU l l.length) = firstH l := by
    unfold firstH
    rw [List.getD_eq_getElem?_getD, hf, ← List.getD_eq_getElem?_getD]
  have hT : Good (thinU l l.length) e := ⟨thin_read hg.read, thin_end hg⟩
  have hE : atE (thinU l l.length) e hour = 0 := by
    unfold atE at h ⊢
    rw [if_pos (good_chk hg rfl)] at h
    rw [if_pos (good_chk hT rfl), hF]
    exact h
  refine ⟨hE, ?_⟩
  unfold atV
  rw [if_pos hE, if_pos h, now_take _ _ _ _ (Nat.le_refl _), now_take _ _ _ _ (Nat.le_refl _), List.take_length, List.take_length, thin_now hg.read hour l.length (Nat.le_refl _), List.take_length]
end Go.Proofs.Ytbbbnfodjkpiaaa.Cd
