/-
  PLAIN (layer 7, scene): what hides a point.
-/
import Derived.Test.YtjnggchljilooaaScCross
namespace Go.Proofs.Ytjnggchljilooaa.Sc

/-- The line to a point goes under a ground in a row. -/
def undB (e : Ey) (y h g r : Int) : Bool := decide ((h - e.h) * (r + e.b) < (g - e.h) * (y + e.b))
/-- The cells of a row over which the line goes. -/
def colL (e : Ey) (x y r : Int) : List Int := (List.range (lst e x y r - fst e x y r + 1).toNat).map fun (i : Nat) => fst e x y r + (i : Int)
def gAt (wd : Int) (L : List Int) (c r : Int) : Int := L.getD (c + wd * r).toNat 0
def hidC (wd : Int) (L : List Int) (e : Ey) (x y h r : Int) : Option Int := (colL e x y r).find? fun c => undB e y h (gAt wd L c r) r
/-- The first cell that hides a point, by row and then by column. -/
def hid (wd : Int) (L : List Int) (e : Ey) (x : Int) (y : Nat) (h : Int) : Option (Int × Int) := (List.range y).findSome? fun (r : Nat) => (hidC wd L e x y h r).map fun c => (c, (r : Int))
theorem colL_at {e : Ey} {x y r : Int} {k : Nat} (hk : k < (lst e x y r - fst e x y r + 1).toNat) : (colL e x y r)[k]? = some (fst e x y r + (k : Int)) := by
  unfold colL
  rw [List.getElem?_map, List.getElem?_range hk]
  rfl
theorem colL_len (e : Ey) (x y r : Int) : (colL e x y r).length = (lst e x y r - fst e x y r + 1).toNat := by simp [colL]
theorem find_step {α : Type} {p : α → Bool} {l : List α} {k : Nat} {x : α} (hx : l[k]? = some x) (h : (l.take k).find? p = none) : (l.take (k + 1)).find? p = if p x = true then some x else none := by
  have hk := (List.getElem?_eq_some_iff.1 hx).1
  rw [List.take_succ_eq_append_getElem hk, (List.getElem?_eq_some_iff.1 hx).2, List.find?_append, h]
  cases hp : p x <;> simp [hp]
theorem find_all {α : Type} {p : α → Bool} {l : List α} {k : Nat} {x : α} (h : (l.take k).find? p = some x) : l.find? p = some x := by
  have := List.find?_append (xs := l.take k) (ys := l.drop k) (p := p)
  rw [List.take_append_drop, h] at this
  simpa using this
theorem hid_none {wd : Int} {L : List Int} {e : Ey} {x : Int} {y : Nat} {h : Int} (hn : ∀ r : Nat, r < y → hidC wd L e x y h r = none) : hid wd L e x y h = none := by
  unfold hid
  rw [List.findSome?_eq_none_iff]
  intro r hr
  rw [hn r (List.mem_range.1 hr)]
  rfl
theorem hid_some {wd : Int} {L : List Int} {e : Ey} {x : Int} {y : Nat} {h c : Int} {r : Nat} (hr : r < y) (hn : ∀ k : Nat, k < r → hidC wd L e x y h k = none) (hc : hidC wd L e x y h r = some c) : hid wd L e x y h = some (c, (r : Int)) := by
  unfold hid
  have e1 : List.range y = List.range r ++ (r :: (List.range (y - r - 1)).map (fun i => r + 1 + i)) := by
    apply List.ext_getElem?
    intro i
    by_cases h1 : i < r
    · rw [List.getElem?_append_left (by simpa using h1), List.getElem?_range h1, List.getElem?_range (by omega)]
    · rw [List.getElem?_append_right (by simpa using Nat.le_of_not_lt h1), List.length_range]
      by_cases h2 : i = r
      · subst h2; simp [hr]
      · obtain ⟨j, rfl⟩ : ∃ j, i = r + 1 + j := ⟨i - r - 1, by omega⟩
        rw [show r + 1 + j - r = j + 1 by omega, List.getElem?_cons_succ, List.getElem?_map]
        by_cases h3 : j < y - r - 1
        · rw [List.getElem?_range h3, List.getElem?_range (by omega)]; rfl
        · rw [List.getElem?_eq_none (by simp; omega), List.getElem?_eq_none (by simp; omega)]; rfl
  rw [e1, List.findSome?_append]
  have e2 : (List.range r).findSome? (fun (r : Nat) => (hidC wd L e x y h r).map fun c => (c, (r : Int))) = none := by
    rw [List.findSome?_eq_none_iff]
    intro k hk
    rw [hn k (List.mem_range.1 hk)]
    rfl
  rw [e2, List.findSome?_cons, hc]
  rfl
end Go.Proofs.Ytjnggchljilooaa.Sc
