/-
  WALKS (layer 8, pest): rows of numbers, numbers in a range.
-/
import Derived.Test.YthkamfjjfkpekaaPeKit
import Derived.Lib.OthersKept
import Derived.IntWalk
namespace Go.Proofs.Ythkamfjjfkpekaa.Pe
open Go Go.RowKit

/-- All numbers of a row are between two bounds. -/
def allIn (lo hi : Int) (L : List Int) : Bool := L.all fun n => decide (lo ≤ n) && decide (n ≤ hi)
/-- One number in a range. -/
def inB (lo hi n : Int) : Bool := decide (lo ≤ n) && decide (n ≤ hi)
theorem allIn_one (lo hi n : Int) : allIn lo hi [n] = inB lo hi n := by simp [allIn, inB]
theorem inB_iff {lo hi n : Int} : inB lo hi n = true ↔ lo ≤ n ∧ n ≤ hi := by simp [inB]
theorem allIn_two {lo hi x y : Int} : allIn lo hi [x, y] = true ↔ (lo ≤ x ∧ x ≤ hi) ∧ lo ≤ y ∧ y ≤ hi := by simp [allIn]
theorem allIn_at {lo hi x : Int} {L : List Int} {k : Nat} (h : allIn lo hi L = true) (hx : L[k]? = some x) : lo ≤ x ∧ x ≤ hi := by
  have := List.all_eq_true.1 h x (List.mem_of_getElem? hx)
  simpa using this
/-- A slice reads as numbers. -/
def IS (w : World) (v : Value) (L : List Int) : Prop :=
  ∃ g cap, v = .slice g L.length cap ∧ L.length ≤ cap ∧ ∀ i x, L[i]? = some x → ∃ b o, g = some ⟨b, o, none⟩ ∧ w.cell? ⟨b, o + i, none⟩ = some (.int .i64 x)
theorem IS.below {w w' : World} {v : Value} {L : List Int} (h : IS w v L) (hb : Below w.heap.size w w') : IS w' v L := by
  obtain ⟨g, cap, hv, hc0, hc⟩ := h
  refine ⟨g, cap, hv, hc0, fun i x hx => ?_⟩
  obtain ⟨b, o, hg, hcell⟩ := hc i x hx
  exact ⟨b, o, hg, (hb.cell (p := ⟨b, _, none⟩) (World.block_lt_of_cell? w _ hcell)).trans hcell⟩
theorem IS.shape {w : World} {v : Value} {L : List Int} (h : IS w v L) : ∃ g c, v = .slice g L.length c := by
  obtain ⟨g, c, e, -⟩ := h; exact ⟨g, c, e⟩
theorem is_nil (w : World) : IS w (.slice none 0 0) [] := ⟨none, 0, rfl, Nat.le_refl _, fun i x h => by simp at h⟩
theorem is_one {w : World} {b : Nat} {x : Int} (h : w.cell? ⟨b, 0, none⟩ = some (.int .i64 x)) : IS w (.slice (some ⟨b, 0, none⟩) 1 1) [x] := by
  refine ⟨_, 1, rfl, Nat.le_refl _, fun i y hy => ⟨b, 0, rfl, ?_⟩⟩
  match i with
  | 0 => simp at hy; subst hy; exact h
  | i + 1 => simp at hy
theorem is_two {w : World} {b : Nat} {x y : Int} (h : w.cell? ⟨b, 0, none⟩ = some (.int .i64 x)) (h2 : w.cell? ⟨b, 1, none⟩ = some (.int .i64 y)) : IS w (.slice (some ⟨b, 0, none⟩) 2 2) [x, y] := by
  refine ⟨_, 2, rfl, Nat.le_refl _, fun i z hz => ⟨b, 0, rfl, ?_⟩⟩
  match i with
  | 0 => simp at hz; subst hz; exact h
  | 1 => simp at hz; subst hz; exact h2
  | i + 2 => simp at hz
theorem is_new2 (w : World) (x y : Int) (t : TypeId) : IS (w.alloc (.cells #[.int .i64 x, .int .i64 y] t)) (.slice (some ⟨w.heap.size, 0, none⟩) 2 2) [x, y] := by
  refine ⟨_, 2, rfl, Nat.le_refl _, fun i z hz => ⟨w.heap.size, 0, rfl, ?_⟩⟩
  match i with
  | 0 => simp at hz; subst hz; go_simp
  | 1 => simp at hz; subst hz; go_simp
  | i + 2 => simp at hz
theorem is_new1 (w : World) (x : Int) (t : TypeId) : IS (w.alloc (.cells #[.int .i64 x] t)) (.slice (some ⟨w.heap.size, 0, none⟩) 1 1) [x] := is_one (by go_simp)
theorem allIn_more {lo hi x : Int} {L : List Int} {k : Nat} (hx : L[k]? = some x) : allIn lo hi (L.take (k + 1)) = (allIn lo hi (L.take k) && (decide (lo ≤ x) && decide (x ≤ hi))) := by
  have hk := (List.getElem?_eq_some_iff.1 hx).1
  have e : L[k] = x := (List.getElem?_eq_some_iff.1 hx).2
  unfold allIn
  rw [List.take_succ_eq_append_getElem hk, e, List.all_append]
  simp
theorem allIn_no {lo hi x : Int} {L : List Int} {k : Nat} (hx : L[k]? = some x) (h : ¬ (lo ≤ x ∧ x ≤ hi)) : allIn lo hi L = false := by
  unfold allIn
  rw [List.all_eq_false]
  exact ⟨x, List.mem_of_getElem? hx, by simpa using h⟩
theorem within_any (lo hi : Int) (v : Value) (L : List Int) (w : World) (hv : IS w v L) (hl : L.length ≤ 9223372036854775807) : Calls Try.prog 51 #[.int .i64 lo, .int .i64 hi, v] w fun e w' => e = .returned (.bool (allIn lo hi L)) ∧ w = w' := by
  obtain ⟨g, c, rfl, -, hi2⟩ := hv
  have HS := Kp.mk hi2
  obtain ⟨N, hN⟩ : ∃ N, L.length = N := ⟨_, rfl⟩
  have HN := Kp.mk hN
  have HNL : Kp (N ≤ 9223372036854775807) := ⟨hN ▸ hl⟩
  rw [hN]
  clear hi2 hN hl
  go_enter Try.func51, Try.ntmps51
  go_wp2
  go_loop [11] (fun i => ∃ k : Nat, k ≤ N ∧ i = .int .i64 k ∧ Kp (allIn lo hi (L.take k) = true)) (fun i => N - (intOf i).toNat)
  case atStart => exact ⟨0, Nat.zero_le _, rfl, ⟨rfl⟩⟩
  case round =>
    obtain ⟨k, hk, rfl, HA⟩ := hrel
    by_cases hlt : k < N
    · obtain ⟨x, hx⟩ : ∃ x, L[k]? = some x := ⟨_, List.getElem?_eq_getElem (by rw [HN.out]; exact hlt)⟩
      obtain ⟨b, o, hg, hc⟩ := HS.out k x hx
      subst hg
      have o1 : (k : Int) < (N : Int) := by omega
      have o4 : IntKind.i64.wrap ((k : Int) + 1) = (k : Int) + 1 := IntWalk.i64_in _ (by have := HNL.out; omega)
      have HX := Kp.mk hx
      clear hx
      by_cases h1 : x < lo
      · have HF : Kp (allIn lo hi L = false) := ⟨allIn_no HX.out (by omega)⟩
        go_wp2
        go_ret
        exact ⟨ret_bool HF.out.symm, rfl⟩
      · by_cases h2 : hi < x
        · have HF : Kp (allIn lo hi L = false) := ⟨allIn_no HX.out (by omega)⟩
          go_wp2
          go_ret
          exact ⟨ret_bool HF.out.symm, rfl⟩
        · have HA2 : Kp (allIn lo hi (L.take (k + 1)) = true) := ⟨by rw [allIn_more HX.out, HA.out, decide_eq_true (by omega : lo ≤ x), decide_eq_true (by omega : x ≤ hi)]; rfl⟩
          go_wp2
          go_round
          case rel => exact ⟨k + 1, by omega, by go_num, HA2⟩
          case measure => simp [intOf]; omega
    · have HF : Kp (allIn lo hi L = true) := ⟨by have := HA.out; rwa [List.take_of_length_le (by have := HN.out; omega)] at this⟩
      have o1 : ¬ (k : Int) < (N : Int) := by omega
      go_wp2
      go_ret
      exact ⟨ret_bool HF.out.symm, rfl⟩
end Go.Proofs.Ythkamfjjfkpekaa.Pe
