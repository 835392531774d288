/-
  Plain mathematics of blocks: their places, in their order.
-/
import Derived.WalkKit
namespace Go.Proofs.YtknggeofilfiaaaGreatDoor.Cv
open Go

/-- A grain. -/
structure Gr where
  x : Int
  y : Int
  z : Int
deriving DecidableEq
/-- The grain at a place of a block's list. -/
def grAt (s i : Nat) : Gr := ⟨((i % s : Nat) : Int), ((i / s % s : Nat) : Int), ((i / s / s : Nat) : Int)⟩
def placesL (s : Nat) : List Gr := (List.range (s * s * s)).map (grAt s)
theorem places_len (s : Nat) : (placesL s).length = s * s * s := by simp [placesL]
theorem places_at {s i : Nat} (h : i < s * s * s) : (placesL s)[i]? = some (grAt s i) := by
  unfold placesL; rw [List.getElem?_map, List.getElem?_range h]; rfl
theorem places_succ {s k : Nat} (h : k < s * s * s) : (placesL s).take (k + 1) = (placesL s).take k ++ [grAt s k] := by
  have hk : k < (placesL s).length := by rw [places_len]; exact h
  rw [List.take_succ_eq_append_getElem hk]
  congr 1
  have := places_at h
  rw [List.getElem?_eq_getElem hk] at this
  rw [Option.some.inj this]
/-- It lies in a block. -/
def insB (s : Nat) (g : Gr) : Bool := (decide (0 ≤ g.x) && decide (g.x < s)) && ((decide (0 ≤ g.y) && decide (g.y < s)) && (decide (0 ≤ g.z) && decide (g.z < s)))
def idx (s : Nat) (g : Gr) : Int := g.x + s * (g.y + s * g.z)
theorem ins_iff {s : Nat} {g : Gr} : insB s g = true ↔ (0 ≤ g.x ∧ g.x < s) ∧ (0 ≤ g.y ∧ g.y < s) ∧ 0 ≤ g.z ∧ g.z < s := by
  simp [insB]
theorem grAt_ins {s i : Nat} (h : i < s * s * s) : insB s (grAt s i) = true := by
  have hs : 0 < s := by
    rcases Nat.eq_zero_or_pos s with e | e
    · subst e; simp at h
    · exact e
  have h1 := Nat.mod_lt i hs
  have h2 := Nat.mod_lt (i / s) hs
  have h3 : i / s / s < s := by
    rw [Nat.div_div_eq_div_mul]
    exact Nat.div_lt_of_lt_mul (by rwa [Nat.mul_assoc] at h ⊢)
  rw [ins_iff]
  simp only [grAt]
  generalize i % s = a at *
  generalize i / s / s = c at *
  generalize i / s % s = b at *
  omega
theorem grAt_idx (s i : Nat) : idx s (grAt s i) = i := by
  simp only [idx, grAt]
  have h1 := Nat.mod_add_div i s
  have h2 := Nat.mod_add_div (i / s) s
  have : ((i / s % s : Nat) : Int) + s * ((i / s / s : Nat) : Int) = ((i / s : Nat) : Int) := by exact_mod_cast h2
  rw [this]
  exact_mod_cast h1
theorem idx_ins {s : Nat} {g : Gr} (h : insB s g = true) : 0 ≤ idx s g ∧ idx s g < s * s * s := by
  obtain ⟨⟨a, b⟩, ⟨c, d⟩, e, f⟩ := ins_iff.1 h
  obtain ⟨x, y, z⟩ := g
  simp only [idx] at *
  obtain ⟨X, rfl⟩ := Int.eq_ofNat_of_zero_le a
  obtain ⟨Y, rfl⟩ := Int.eq_ofNat_of_zero_le c
  obtain ⟨Z, rfl⟩ := Int.eq_ofNat_of_zero_le e
  have b' : X + 1 ≤ s := by omega
  have d' : Y + 1 ≤ s := by omega
  have f' : Z + 1 ≤ s := by omega
  have h1 : Y + s * Z + 1 ≤ s * s := by
    have := Nat.mul_le_mul_left s f'
    rw [Nat.mul_add, Nat.mul_one] at this
    omega
  have h2 : X + s * (Y + s * Z) + 1 ≤ s * s * s := by
    have := Nat.mul_le_mul_left s h1
    rw [Nat.mul_add, Nat.mul_one, ← Nat.mul_assoc] at this
    omega
  constructor
  · have : (0 : Int) ≤ ((X + s * (Y + s * Z) : Nat) : Int) := Int.natCast_nonneg _
    push_cast at this; exact this
  · have : ((X + s * (Y + s * Z) + 1 : Nat) : Int) ≤ ((s * s * s : Nat) : Int) := by exact_mod_cast h2
    push_cast at this; omega
def hasB (s : Nat) (h : List Bool) (g : Gr) : Bool := insB s g && h.getD (idx s g).toNat false
/-- The grains that are there. -/
def grainsL (s : Nat) (h : List Bool) : List Gr := (placesL s).filter (hasB s h)
end Go.Proofs.YtknggeofilfiaaaGreatDoor.Cv
