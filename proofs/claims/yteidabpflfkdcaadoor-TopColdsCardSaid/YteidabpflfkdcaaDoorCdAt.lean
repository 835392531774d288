/-
  WALKS (layer 4, cold): the temperature in an hour, by the program.
-/
import Derived.Test.YteidabpflfkdcaaDoorCdHours
import Derived.Deep.RegionHeld3
namespace Go.Proofs.YteidabpflfkdcaaDoor.Cd
open Go Go.RowKit Go.Sort
attribute [local go_sem] Oper.semAt_some

/-- The temperature of the last stretch that has begun. -/
def nowC (hour : Int) (xs : List Sg) : Int := xs.foldl (fun n x => if x.f ≤ hour then x.c else n) 0
theorem nowC_snoc (hour : Int) (xs : List Sg) (x : Sg) : nowC hour (xs ++ [x]) = if x.f ≤ hour then x.c else nowC hour xs := by
  unfold nowC; rw [List.foldl_append]; rfl
theorem nowC_late {hour : Int} {xs ys : List Sg} (h : ∀ y ∈ ys, hour < y.f) : nowC hour (xs ++ ys) = nowC hour xs := by
  unfold nowC
  rw [List.foldl_append]
  generalize xs.foldl (fun n x => if x.f ≤ hour then x.c else n) (0 : Int) = n
  induction ys generalizing n with
  | nil => rfl
  | cons y ys ih =>
    have := h y (by simp)
    rw [List.foldl_cons, if_neg (by omega)]
    exact ih (fun z hz => h z (by simp [hz])) n
theorem sg_mono {l : List Rd} {e : Int} (h : Good l e) {i j : Nat} (hij : i ≤ j) (hj : j < l.length) : (sgAt l e i).f ≤ (sgAt l e j).f := by
  by_cases e1 : i = j
  · subst e1; exact Int.le_refl _
  · have hx : l[i]? = some l[i] := List.getElem?_eq_getElem (by omega)
    have hy : l[j]? = some l[j] := List.getElem?_eq_getElem hj
    rw [sgAt_at hx, sgAt_at hy]
    exact Int.le_of_lt (read_asc' h.read (by omega) hx hy)
theorem strs_split (l : List Rd) (e : Int) {k m : Nat} (h : k ≤ m) : ∃ ys, strs l e m = strs l e k ++ ys ∧ ∀ y ∈ ys, ∃ j, k ≤ j ∧ j < m ∧ y = sgAt l e j := by
  induction m with
  | zero =>
    obtain rfl : k = 0 := by omega
    exact ⟨[], by simp, fun y hy => by cases hy⟩
  | succ m ih =>
    by_cases hk : k = m + 1
    · subst hk
      exact ⟨[], by simp, fun y hy => by cases hy⟩
    · obtain ⟨ys, h1, h2⟩ := ih (by omega)
      refine ⟨ys ++ [sgAt l e m], by rw [strs_succ, h1, List.append_assoc], fun y hy => ?_⟩
      rcases List.mem_append.1 hy with h3 | h3
      · obtain ⟨j, a, b, c⟩ := h2 y h3
        exact ⟨j, a, by omega, c⟩
      · exact ⟨m, by omega, by omega, List.mem_singleton.1 h3⟩
/-- Behind a stretch that begins too late nothing counts. -/
theorem now_at {l : List Rd} {e hour : Int} (h : Good l e) {k : Nat} (hk : k < l.length) (hx : hour < (sgAt l e k).f) : nowC hour (strs l e l.length) = nowC hour (strs l e k) := by
  obtain ⟨ys, h1, h2⟩ := strs_split l e (Nat.le_of_lt hk)
  rw [h1]
  refine nowC_late fun y hy => ?_
  obtain ⟨j, a, b, rfl⟩ := h2 y hy
  have := sg_mono h a b
  omega
def firstH (l : List Rd) : Int := (l.getD 0 ⟨0, 0⟩).h
def atE (l : List Rd) (e hour : Int) : Int := if chkE l e [] = 0 then if inB (firstH l) (e - 1) hour then 0 else 7 else chkE l e []
def atV (l : List Rd) (e hour : Int) : Int := if atE l e hour = 0 then nowC hour (strs l e l.length) else 0
/-- How the search is left early. -/
def AtX (w : World) (Z V : Nat) (hour : Int) (cd : Code) (ys : List Sg) (W : World) : Prop := ∃ pre x, Hd w [(Z, 0, .int .i64 hour), (V + 1, 0, .int .i64 (nowC hour pre))] W ∧ cd = .exit 0 ∧ ys = pre ++ [x] ∧ hour < x.f
end Go.Proofs.YteidabpflfkdcaaDoor.Cd
