/-
  WALKS (layer 7, scene): numbers in a range, valid grounds and eyes.
-/
import Derived.Test.YtjnggchljilooaaScKit
import Derived.Test.YtjnggchljilooaaScPlain
import Derived.Lib.OthersKept
import Derived.IntWalk
namespace Go.Proofs.Ytjnggchljilooaa.Sc
open Go Go.RowKit

/-- A slice reads as numbers. -/
def IS (w : World) (v : Value) (L : List Int) : Prop :=
  ∃ g cap, v = .slice g L.length cap ∧ L.length ≤ cap ∧ ∀ i x, L[i]? = some x → ∃ b o, g = some ⟨b, o, none⟩ ∧ w.cell? ⟨b, o + i, none⟩ = some (.int .i64 x)
theorem IS.below {w w' : World} {v : Value} {L : List Int} (h : IS w v L) (hb : Below w.heap.size w w') : IS w' v L := by
  obtain ⟨g, cap, hv, hc0, hc⟩ := h
  refine ⟨g, cap, hv, hc0, fun i x hx => ?_⟩
  obtain ⟨b, o, hg, hcell⟩ := hc i x hx
  exact ⟨b, o, hg, (hb.cell (p := ⟨b, _, none⟩) (World.block_lt_of_cell? w _ hcell)).trans hcell⟩
theorem IS.shape {w : World} {v : Value} {L : List Int} (h : IS w v L) : ∃ g c, v = .slice g L.length c := by
  obtain ⟨g, c, e, -⟩ := h; exact ⟨g, c, e⟩
theorem is_nil (w : World) : IS w (.slice none 0 0) [] := ⟨none, 0, rfl, Nat.le_refl _, fun i x h => by simp at h⟩
theorem is_one {w : World} {b : Nat} {x : Int} (h : w.cell? ⟨b, 0, none⟩ = some (.int .i64 x)) : IS w (.slice (some ⟨b, 0, none⟩) 1 1) [x] := by
  refine ⟨_, 1, rfl, Nat.le_refl _, fun i y hy => ⟨b, 0, rfl, ?_⟩⟩
  match i with
  | 0 => simp at hy; subst hy; exact h
  | i + 1 => simp at hy
theorem is_two {w : World} {b : Nat} {x y : Int} (h : w.cell? ⟨b, 0, none⟩ = some (.int .i64 x)) (h2 : w.cell? ⟨b, 1, none⟩ = some (.int .i64 y)) : IS w (.slice (some ⟨b, 0, none⟩) 2 2) [x, y] := by
  refine ⟨_, 2, rfl, Nat.le_refl _, fun i z hz => ⟨b, 0, rfl, ?_⟩⟩
  match i with
  | 0 => simp at hz; subst hz; exact h
  | 1 => simp at hz; subst hz; exact h2
  | i + 2 => simp at hz
theorem is_new2 (w : World) (x y : Int) (t : TypeId) : IS (w.alloc (.cells #[.int .i64 x, .int .i64 y] t)) (.slice (some ⟨w.heap.size, 0, none⟩) 2 2) [x, y] := by
  refine ⟨_, 2, rfl, Nat.le_refl _, fun i z hz => ⟨w.heap.size, 0, rfl, ?_⟩⟩
  match i with
  | 0 => simp at hz; subst hz; go_simp
  | 1 => simp at hz; subst hz; go_simp
  | i + 2 => simp at hz
theorem is_new1 (w : World) (x : Int) (t : TypeId) : IS (w.alloc (.cells #[.int .i64 x] t)) (.slice (some ⟨w.heap.size, 0, none⟩) 1 1) [x] := is_one (by go_simp)
theorem allIn_more {lo hi x : Int} {L : List Int} {k : Nat} (hx : L[k]? = some x) : allIn lo hi (L.take (k + 1)) = (allIn lo hi (L.take k) && (decide (lo ≤ x) && decide (x ≤ hi))) := by
  have hk := (List.getElem?_eq_some_iff.1 hx).1
  have e : L[k] = x := (List.getElem?_eq_some_iff.1 hx).2
  unfold allIn
  rw [List.take_succ_eq_append_getElem hk, e, List.all_append]
  simp
theorem allIn_no {lo hi x : Int} {L : List Int} {k : Nat} (hx : L[k]? = some x) (h : ¬ (lo ≤ x ∧ x ≤ hi)) : allIn lo hi L = false := by
  unfold allIn
  rw [List.all_eq_false]
  exact ⟨x, List.mem_of_getElem? hx, by simpa using h⟩
theorem within_any (lo hi : Int) (v : Value) (L : List Int) (w : World) (hv : IS w v L) (hl : L.length ≤ 9223372036854775807) : Calls Try.prog 51 #[.int .i64 lo, .int .i64 hi, v] w fun e w' => e = .returned (.bool (allIn lo hi L)) ∧ w = w' := by
  obtain ⟨g, c, rfl, -, hi2⟩ := hv
  have HS := Kp.mk hi2
  obtain ⟨N, hN⟩ : ∃ N, L.length = N := ⟨_, rfl⟩
  have HN := Kp.mk hN
  have HNL : Kp (N ≤ 9223372036854775807) := ⟨hN ▸ hl⟩
  rw [hN]
  clear hi2 hN hl
  go_enter Try.func51, Try.ntmps51
  go_wp2
  go_loop [11] (fun i => ∃ k : Nat, k ≤ N ∧ i = .int .i64 k ∧ Kp (allIn lo hi (L.take k) = true)) (fun i => N - (intOf i).toNat)
  case atStart => exact ⟨0, Nat.zero_le _, rfl, ⟨rfl⟩⟩
  case round =>
    obtain ⟨k, hk, rfl, HA⟩ := hrel
    by_cases hlt : k < N
    · obtain ⟨x, hx⟩ : ∃ x, L[k]? = some x := ⟨_, List.getElem?_eq_getElem (by rw [HN.out]; exact hlt)⟩
      obtain ⟨b, o, hg, hc⟩ := HS.out k x hx
      subst hg
      have o1 : (k : Int) < (N : Int) := by omega
      have o4 : IntKind.i64.wrap ((k : Int) + 1) = (k : Int) + 1 := IntWalk.i64_in _ (by have := HNL.out; omega)
      have HX := Kp.mk hx
      clear hx
      by_cases h1 : x < lo
      · have HF : Kp (allIn lo hi L = false) := ⟨allIn_no HX.out (by omega)⟩
        go_wp2
        go_ret
        exact ⟨ret_bool HF.out.symm, rfl⟩
      · by_cases h2 : hi < x
        · have HF : Kp (allIn lo hi L = false) := ⟨allIn_no HX.out (by omega)⟩
          go_wp2
          go_ret
          exact ⟨ret_bool HF.out.symm, rfl⟩
        · have HA2 : Kp (allIn lo hi (L.take (k + 1)) = true) := ⟨by rw [allIn_more HX.out, HA.out, decide_eq_true (by omega : lo ≤ x), decide_eq_true (by omega : x ≤ hi)]; rfl⟩
          go_wp2
          go_round
          case rel => exact ⟨k + 1, by omega, by go_num, HA2⟩
          case measure => simp [intOf]; omega
    · have HF : Kp (allIn lo hi L = true) := ⟨by have := HA.out; rwa [List.take_of_length_le (by have := HN.out; omega)] at this⟩
      have o1 : ¬ (k : Int) < (N : Int) := by omega
      go_wp2
      go_ret
      exact ⟨ret_bool HF.out.symm, rfl⟩
theorem Valid_any (wd dp : Int) (v : Value) (L : List Int) (w : World) (hv : IS w v L) (hl : L.length ≤ 9223372036854775807) : Calls Try.prog 16 #[.agg #[.int .i64 wd, .int .i64 dp, v]] w fun e w' => e = .returned (.bool (gdB wd dp L)) ∧ Below w.heap.size w w' := by
  have HW : Kp (∀ W, Below w.heap.size w W → Calls Try.prog 51 #[.int .i64 0, .int .i64 1000, v] W fun e w' => e = .returned (.bool (allIn 0 1000 L)) ∧ W = w') := ⟨fun W hW => within_any 0 1000 v L W (hv.below hW) hl⟩
  have HW2 : Kp (∀ W u, IS W u [wd, dp] → Calls Try.prog 51 #[.int .i64 1, .int .i64 24, u] W fun e w' => e = .returned (.bool (allIn 1 24 [wd, dp])) ∧ W = w') := ⟨fun W u hu => within_any 1 24 u _ W hu (by simp)⟩
  have HG : Kp (gdB wd dp L = (allIn 1 24 [wd, dp] && (decide ((L.length : Int) = wd * dp) && allIn 0 1000 L))) := ⟨rfl⟩
  obtain ⟨g, c, rfl⟩ := hv.shape
  obtain ⟨N, hN⟩ : ∃ N, L.length = N := ⟨_, rfl⟩
  rw [hN] at HW HG ⊢
  obtain ⟨A, hA⟩ : ∃ A, allIn 1 24 [wd, dp] = A := ⟨_, rfl⟩
  obtain ⟨Q, hQ⟩ : ∃ Q, allIn 0 1000 L = Q := ⟨_, rfl⟩
  rw [hA] at HW2 HG
  rw [hQ] at HW HG
  rw [HG.out]
  have HAW : Kp (A = true → IntKind.i64.wrap (wd * dp) = wd * dp) := ⟨fun e => by
    rw [e] at hA
    obtain ⟨h1, h2⟩ := allIn_two.1 hA
    have h3 : wd * dp ≤ 24 * 24 := Int.mul_le_mul h1.2 h2.2 (by omega) (by omega)
    have h4 : 0 ≤ wd * dp := Int.mul_nonneg (by omega) (by omega)
    exact IntWalk.i64_in _ (by omega)⟩
  clear hv hl hN hA hQ HG
  cases A with
  | false =>
    clear HAW
    go_enter Try.func16, Try.ntmps16
    go_wp2_with fail
    refine (HW2.out _ _ (is_two (by go_simp) (by go_simp))).mono ?_
    rintro en w1 ⟨rfl, rfl⟩
    go_wp2
    go_ret
    exact ⟨rfl, by repeat (first | exact Below.refl _ _ | refine Below.alloc ?_ (by simp <;> omega) _ | refine bDrewN ?_ _ | refine Below.drew ?_)⟩
  | true =>
    have e1 := HAW.out rfl
    clear HAW
    by_cases hm : (N : Int) = wd * dp
    · have i1 : ((N : Int) == wd * dp) = true := by simp [hm]
      have i2 : decide ((N : Int) = wd * dp) = true := decide_eq_true hm
      have HI2 := Kp.mk i2
      rw [i2]
      clear hm i2
      go_enter Try.func16, Try.ntmps16
      go_wp2_with fail
      refine (HW2.out _ _ (is_two (by go_simp) (by go_simp))).mono ?_
      rintro en w1 ⟨rfl, rfl⟩
      go_wp2_with fail
      refine (HW.out _ (by repeat (first | exact Below.refl _ _ | refine Below.alloc ?_ (by simp <;> omega) _ | refine bDrewN ?_ _ | refine Below.drew ?_))).mono ?_
      rintro en w1 ⟨rfl, rfl⟩
      go_wp2
      go_ret
      exact ⟨by simp, by repeat (first | exact Below.refl _ _ | refine Below.alloc ?_ (by simp <;> omega) _ | refine bDrewN ?_ _ | refine Below.drew ?_)⟩
    · have i1 : ((N : Int) == wd * dp) = false := by simp [hm]
      have i2 : decide ((N : Int) = wd * dp) = false := decide_eq_false hm
      rw [i2]
      clear hm i2
      go_enter Try.func16, Try.ntmps16
      go_wp2_with fail
      refine (HW2.out _ _ (is_two (by go_simp) (by go_simp))).mono ?_
      rintro en w1 ⟨rfl, rfl⟩
      go_wp2
      go_ret
      exact ⟨rfl, by repeat (first | exact Below.refl _ _ | refine Below.alloc ?_ (by simp <;> omega) _ | refine bDrewN ?_ _ | refine Below.drew ?_)⟩
theorem eyeOf_any (wd dp : Int) (v : Value) (w : World) : Calls Try.prog 55 #[.agg #[.int .i64 wd, .int .i64 dp, v]] w fun e w' => e = .returned (.func (.func 76) #[] #[.pointer (some ⟨w.heap.size, 0, none⟩)]) ∧ w.alloc (.cells #[.int .i64 wd, .int .i64 dp, v] 24) = w' := by
  go_enter Try.func55, Try.ntmps55
  go_wp2
  go_ret
  exact ⟨rfl, rfl⟩
theorem eye1_any (B : Nat) (wd : Int) (e : Ey) (w : World) (hc : w.cell? ⟨B, 0, none⟩ = some (.int .i64 wd)) (h1 : 1 ≤ wd) (h2 : wd ≤ 24) :
    Calls Try.prog 76 (#[.agg #[.int .i64 e.x, .int .i64 e.b, .int .i64 e.h]] ++ #[.pointer (some ⟨B, 0, none⟩)]) w fun en w' => en = .returned (.bool (eyB wd e)) ∧ Below w.heap.size w w' := by
  have HW : Kp (∀ W u lo hi n, IS W u [n] → Calls Try.prog 51 #[.int .i64 lo, .int .i64 hi, u] W fun e w' => e = .returned (.bool (inB lo hi n)) ∧ W = w') := ⟨fun W u lo hi n hu => allIn_one lo hi n ▸ within_any lo hi u _ W hu (by simp)⟩
  have e1 : IntKind.i64.wrap (wd - 1) = wd - 1 := IntWalk.i64_in _ (by omega)
  have HE : Kp (eyB wd e = (inB 0 (wd - 1) e.x && (inB 1 100 e.b && inB 0 2000 e.h))) := ⟨rfl⟩
  have HW0 := Kp.mk (fun W u hu => HW.out W u 0 (wd - 1) e.x hu)
  have HW1 := Kp.mk (fun W u hu => HW.out W u 1 100 e.b hu)
  have HW2 := Kp.mk (fun W u hu => HW.out W u 0 2000 e.h hu)
  rw [HE.out]
  obtain ⟨ex, eb, eh⟩ := e
  simp only at HW0 HW1 HW2 ⊢
  obtain ⟨A, hA⟩ : ∃ A, inB 0 (wd - 1) ex = A := ⟨_, rfl⟩
  obtain ⟨Q, hQ⟩ : ∃ A, inB 1 100 eb = A := ⟨_, rfl⟩
  obtain ⟨R, hR⟩ : ∃ A, inB 0 2000 eh = A := ⟨_, rfl⟩
  rw [hA] at HW0 ⊢
  rw [hQ] at HW1 ⊢
  rw [hR] at HW2 ⊢
  have hBl := World.block_lt_of_cell? _ _ hc
  clear hA hQ hR h1 h2 HE HW
  cases A with
  | false =>
    go_enter Try.func76, Try.ntmps76
    go_wp2_with fail
    refine (HW0.out _ _ (is_one (by go_simp))).mono ?_
    rintro en w1 ⟨rfl, rfl⟩
    go_wp2
    go_ret
    exact ⟨rfl, by repeat (first | exact Below.refl _ _ | refine Below.alloc ?_ (by simp <;> omega) _ | refine bDrewN ?_ _ | refine Below.drew ?_)⟩
  | true =>
    cases Q with
    | false =>
      go_enter Try.func76, Try.ntmps76
      go_wp2_with fail
      refine (HW0.out _ _ (is_one (by go_simp))).mono ?_
      rintro en w1 ⟨rfl, rfl⟩
      go_wp2_with fail
      refine (HW1.out _ _ (is_one (by go_simp))).mono ?_
      rintro en w1 ⟨rfl, rfl⟩
      go_wp2
      go_ret
      exact ⟨rfl, by repeat (first | exact Below.refl _ _ | refine Below.alloc ?_ (by simp <;> omega) _ | refine bDrewN ?_ _ | refine Below.drew ?_)⟩
    | true =>
      go_enter Try.func76, Try.ntmps76
      go_wp2_with fail
      refine (HW0.out _ _ (is_one (by go_simp))).mono ?_
      rintro en w1 ⟨rfl, rfl⟩
      go_wp2_with fail
      refine (HW1.out _ _ (is_one (by go_simp))).mono ?_
      rintro en w1 ⟨rfl, rfl⟩
      go_wp2_with fail
      refine (HW2.out _ _ (is_one (by go_simp))).mono ?_
      rintro en w1 ⟨rfl, rfl⟩
      go_wp2
      go_ret
      exact ⟨by simp, by repeat (first | exact Below.refl _ _ | refine Below.alloc ?_ (by simp <;> omega) _ | refine bDrewN ?_ _ | refine Below.drew ?_)⟩
end Go.Proofs.Ytjnggchljilooaa.Sc
