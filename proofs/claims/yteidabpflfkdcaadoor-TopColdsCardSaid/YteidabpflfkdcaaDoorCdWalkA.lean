/-
  WALKS (layer 4, cold), first part: ranges, rows that are laid in memory.
-/
import Derived.Test.YteidabpflfkdcaaDoorProg
import Derived.Test.YteidabpflfkdcaaDoorCdPlain
import Derived.WalkKit
import Derived.WalkSpells
import Derived.WalkLawsBesides
import Derived.Lib.Hide
import Derived.Lib.QuietBelow
import Derived.Below
import Derived.Deep.QuietTactic
import Derived.BigQuiet
namespace Go.Proofs.YteidabpflfkdcaaDoor.Cd
open Go Go.RowKit

/-- A fact kept from the walk, by a structure: no unfolding reaches it. -/
structure Kp (p : Prop) : Prop where
  out : p
theorem ret_bool {a b : Bool} (h : a = b) : Ending.returned (.bool a) = .returned (.bool b) := by rw [h]
theorem ret_int {k : IntKind} {a b : Int} (h : a = b) : Ending.returned (.int k a) = .returned (.int k b) := by rw [h]
theorem ret_two {a b c d : Int} (h : a = b) (g : c = d) : Ending.returned (.tuple #[.int .i64 a, .int .i64 c]) = .returned (.tuple #[.int .i64 b, .int .i64 d]) := by rw [h, g]
theorem bDrewN {B : Nat} {a w : World} (h : Below B a w) (n : Nat) : Below B a (w.drewN n) := h.trans ⟨rfl, rfl, rfl, Nat.le_refl _, fun _ _ => rfl⟩
theorem bcell {W w1 : World} {n : Nat} (hb : Below n W w1) : (∀ b o, b < n → w1.cell? ⟨b, o, none⟩ = W.cell? ⟨b, o, none⟩) ∧ (∀ b o, b < n → w1.frozen? ⟨b, o, none⟩ = W.frozen? ⟨b, o, none⟩) :=
  ⟨fun b o h => hb.cell (p := ⟨b, o, none⟩) h, fun b o h => hb.frozen (p := ⟨b, o, none⟩) h⟩
/-- Numbers laid in a slice. -/
def NS (w : World) (v : Value) (l : List Int) : Prop :=
  ∃ g c, v = .slice g l.length c ∧ ∀ i x, l[i]? = some x → ∃ b o, g = some ⟨b, o, none⟩ ∧ b < w.heap.size ∧ w.cell? ⟨b, o + i, none⟩ = some (.int .i64 x)
theorem NS.below {w w' : World} {v : Value} {l : List Int} (h : NS w v l) (hb : Below w.heap.size w w') : NS w' v l := by
  obtain ⟨g, c, e, hi⟩ := h
  refine ⟨g, c, e, fun i s hs => ?_⟩
  obtain ⟨b, o, hg, hlt, h1⟩ := hi i s hs
  exact ⟨b, o, hg, Nat.lt_of_lt_of_le hlt hb.size, (hb.cell (p := ⟨b, _, none⟩) hlt).trans h1⟩
theorem NS.nil (w : World) : NS w (.slice none 0 0) [] := ⟨none, 0, rfl, fun i x h => by simp at h⟩
theorem NS.one {w : World} {b : Nat} {x : Int} (h : w.cell? ⟨b, 0, none⟩ = some (.int .i64 x)) : NS w (.slice (some ⟨b, 0, none⟩) 1 1) [x] := by
  refine ⟨_, _, rfl, fun i y hy => ?_⟩
  have hi := (List.getElem?_eq_some_iff.1 hy).1
  obtain rfl : i = 0 := by simp at hi; omega
  simp only [List.getElem?_cons_zero, Option.some.injEq] at hy
  subst hy
  exact ⟨b, 0, rfl, World.block_lt_of_cell? _ _ h, h⟩
theorem NS.two {w : World} {b : Nat} {x y : Int} (h : w.cell? ⟨b, 0, none⟩ = some (.int .i64 x)) (g : w.cell? ⟨b, 1, none⟩ = some (.int .i64 y)) : NS w (.slice (some ⟨b, 0, none⟩) 2 2) [x, y] := by
  refine ⟨_, _, rfl, fun i z hz => ?_⟩
  have hi := (List.getElem?_eq_some_iff.1 hz).1
  have h' : i = 0 ∨ i = 1 := by simp at hi; omega
  rcases h' with rfl | rfl
  · simp only [List.getElem?_cons_zero, Option.some.injEq] at hz
    subst hz
    exact ⟨b, 0, rfl, World.block_lt_of_cell? _ _ h, h⟩
  · simp only [List.getElem?_cons_succ, List.getElem?_cons_zero, Option.some.injEq] at hz
    subst hz
    exact ⟨b, 0, rfl, World.block_lt_of_cell? _ _ h, g⟩
/-- Readings laid in a slice. -/
def RS (w : World) (v : Value) (l : List Rd) : Prop :=
  ∃ g c, v = .slice g l.length c ∧ l.length ≤ c ∧ ∀ i s, l[i]? = some s → ∃ b o, g = some ⟨b, o, none⟩ ∧ b < w.heap.size ∧ w.cell? ⟨b, o + i * 2, none⟩ = some (.int .i64 s.h) ∧ w.cell? ⟨b, o + i * 2 + 1, none⟩ = some (.int .i64 s.t)
theorem RS.shape {w : World} {v : Value} {l : List Rd} (h : RS w v l) : ∃ g c, v = .slice g l.length c := by
  obtain ⟨g, c, e, _⟩ := h; exact ⟨g, c, e⟩
theorem RS.below {w w' : World} {v : Value} {l : List Rd} (h : RS w v l) (hb : Below w.heap.size w w') : RS w' v l := by
  obtain ⟨g, c, e, hc, hi⟩ := h
  refine ⟨g, c, e, hc, fun i s hs => ?_⟩
  obtain ⟨b, o, hg, hlt, h1, h2⟩ := hi i s hs
  exact ⟨b, o, hg, Nat.lt_of_lt_of_le hlt hb.size, (hb.cell (p := ⟨b, _, none⟩) hlt).trans h1, (hb.cell (p := ⟨b, _, none⟩) hlt).trans h2⟩
/-- The first readings of a row. -/
theorem RS.take {w : World} {g : Option Addr} {c : Nat} {l : List Rd} (h : RS w (.slice g l.length c) l) {k : Nat} (hk : k ≤ l.length) : RS w (.slice g k c) (l.take k) := by
  obtain ⟨g', c', e, hc, hi⟩ := h
  cases e
  refine ⟨g, c, by rw [List.length_take_of_le hk], by rw [List.length_take_of_le hk]; omega, fun i s hs => hi i s ?_⟩
  rw [List.getElem?_take] at hs
  split at hs
  · exact hs
  · cases hs

theorem within_any (a b : Int) (v : Value) (l : List Int) (w : World) (hv : NS w v l) (hl : l.length ≤ 4) :
    Calls Tryd.prog 68 #[.int .i64 a, .int .i64 b, v] w fun e w' => e = .returned (.bool (allB a b l)) ∧ w = w' := by
  obtain ⟨g, c, rfl, hi⟩ := hv
  have HC := Lib.hid hi
  clear hi
  go_enter Tryd.func68, Tryd.ntmps68
  go_wp2
  go_loop [11] (fun i => ∃ k : Nat, k ≤ l.length ∧ i = .int .i64 k ∧ Kp ((l.take k).all (inB a b) = true)) (fun i => l.length - (intOf i).toNat)
  case atStart => exact ⟨0, Nat.zero_le _, rfl, ⟨rfl⟩⟩
  case round =>
    obtain ⟨k, hk, rfl, HK⟩ := hrel
    by_cases hlt : k < l.length
    · obtain ⟨x, hx⟩ : ∃ x, l[k]? = some x := ⟨l[k], List.getElem?_eq_getElem hlt⟩
      obtain ⟨bb, o, hg, hbl, hcell⟩ := HC.out k x hx
      subst hg
      have HX : Kp (l[k] = x) := ⟨by rw [List.getElem?_eq_getElem hlt] at hx; exact Option.some.inj hx⟩
      clear hx
      by_cases h0 : x < a
      · have HE : Kp (allB a b l = false) := ⟨all_not hlt (by rw [HX.out]; exact in_no (.inl h0))⟩
        go_wp2
        go_ret
        exact ⟨ret_bool HE.out.symm, rfl⟩
      · by_cases h1 : b < x
        · have HE : Kp (allB a b l = false) := ⟨all_not hlt (by rw [HX.out]; exact in_no (.inr h1))⟩
          go_wp2
          go_ret
          exact ⟨ret_bool HE.out.symm, rfl⟩
        · have HE : Kp ((l.take (k + 1)).all (inB a b) = true) := ⟨all_snoc hlt HK.out (by rw [HX.out]; exact in_yes (by omega) (by omega))⟩
          go_wp2
          go_round
          case rel => exact ⟨k + 1, by omega, by go_num, HE⟩
          case measure => simp [intOf]; omega
    · go_wp2
      go_ret
      refine ⟨ret_bool ?_, rfl⟩
      have := HK.out
      rw [List.take_of_length_le (by omega)] at this
      exact this.symm
theorem isTemp_any (x : Int) (w : World) : Calls Tryd.prog 93 #[.int .i64 x] w fun e w' => e = .returned (.bool (inB (-1000) 1000 x)) ∧ Below w.heap.size w w' := by
  go_enter Tryd.func93, Tryd.ntmps93
  go_wp2_with fail
  refine (within_any (-1000) 1000 _ [x] _ (NS.one (by go_simp)) (by simp)).mono ?_
  rintro e w1 ⟨rfl, rfl⟩
  go_wp2
  go_ret
  exact ⟨ret_bool (allB1 _ _ _), by repeat (first | exact Below.refl _ _ | refine Below.alloc ?_ (by simp <;> omega) _ | refine bDrewN ?_ _ | refine Below.drew ?_)⟩
end Go.Proofs.YteidabpflfkdcaaDoor.Cd
