/-
  WALKS (layer 7, scene): the reference's Least; which grounds are looked at.
-/
import Derived.Test.YtjnggchljilooaaScLeastA
import Derived.Test.YtjnggchljilooaaScRHid
import Derived.Test.YtjnggchljilooaaScRefB
namespace Go.Proofs.Ytjnggchljilooaa.Sc
open Go Go.RowKit Go.Sort

set_option maxHeartbeats 2000000 in
theorem rLeast_st (wd dp ex eb eh x y E : Int) (g : Option Addr) (M c : Nat) (p : Nat → Bool) (w : World)
    (HA : Kp (∀ W, Below w.heap.size w W → Calls Try.prog 64 #[.agg #[.int .i64 wd, .int .i64 dp, .slice g M c], .agg #[.int .i64 ex, .int .i64 eb, .int .i64 eh], .int .i64 x, .int .i64 y, .int .i64 0] W fun en w' => en = .returned (.int .i64 E) ∧ Below W.heap.size W w'))
    (HH : Kp (E = 0 → ∀ (k : Nat) W, k ≤ 3000 → Below w.heap.size w W → Calls Try.prog 66 #[.agg #[.int .i64 wd, .int .i64 dp, .slice g M c], .agg #[.int .i64 ex, .int .i64 eb, .int .i64 eh], .int .i64 x, .int .i64 y, .int .i64 k] W fun en w' => (∃ a b : Int, en = .returned (.tuple #[.int .i64 a, .int .i64 b, .bool (!p k)])) ∧ Below W.heap.size W w')) :
    Calls Try.prog 36 #[.agg #[.int .i64 wd, .int .i64 dp, .slice g M c], .agg #[.int .i64 ex, .int .i64 eb, .int .i64 eh], .int .i64 x, .int .i64 y] w fun en w' => en = .returned (leastV E (lstH p)) ∧ Below w.heap.size w w' := by
  go_enter Try.func36, Try.ntmps36
  go_wp2_with fail
  refine (HA.out _ (by repeat (first | exact Below.refl _ _ | refine Below.alloc ?_ (by simp <;> omega) _ | refine bDrewN ?_ _ | refine Below.drew ?_))).mono ?_
  rintro en w1 ⟨rfl, hb1⟩
  have HB1 : Kp (Below w.heap.size w w1) := ⟨Below.trans (by repeat (first | refine Below.alloc ?_ (by (try simp) <;> omega) _ | refine bDrewN ?_ _ | refine Below.drew ?_ | refine Below.setCell ?_ (by (try simp) <;> omega) _ | exact Below.refl _ _)) (hb1.mono (by (try simp) <;> omega))⟩
  have hz1_0 : w.heap.size < w1.heap.size := by have := hb1.size; (try simp at this); omega
  have hz1_1 : w.heap.size + 1 < w1.heap.size := by have := hb1.size; (try simp at this); omega
  obtain ⟨hc, hf⟩ := bcell hb1
  have c1_0_0 : w1.cell? ⟨w.heap.size, 0, none⟩ = some (.int .i64 wd) := (hc _ _ (by (try simp) <;> omega)).trans (by go_simp)
  have c1_0_1 : w1.cell? ⟨w.heap.size, 1, none⟩ = some (.int .i64 dp) := (hc _ _ (by (try simp) <;> omega)).trans (by go_simp)
  have c1_0_2 : w1.cell? ⟨w.heap.size, 2, none⟩ = some ((.slice g M c)) := (hc _ _ (by (try simp) <;> omega)).trans (by go_simp)
  have z1_0 : ∀ j, w1.frozen? ⟨w.heap.size, j, none⟩ = false := fun j => (hf _ _ (by (try simp) <;> omega)).trans (by go_simp)
  have c1_1_0 : w1.cell? ⟨w.heap.size + 1, 0, none⟩ = some (.int .i64 ex) := (hc _ _ (by (try simp) <;> omega)).trans (by go_simp)
  have c1_1_1 : w1.cell? ⟨w.heap.size + 1, 1, none⟩ = some (.int .i64 eb) := (hc _ _ (by (try simp) <;> omega)).trans (by go_simp)
  have c1_1_2 : w1.cell? ⟨w.heap.size + 1, 2, none⟩ = some (.int .i64 eh) := (hc _ _ (by (try simp) <;> omega)).trans (by go_simp)
  have z1_1 : ∀ j, w1.frozen? ⟨w.heap.size + 1, j, none⟩ = false := fun j => (hf _ _ (by (try simp) <;> omega)).trans (by go_simp)
  clear hc hf hb1
  by_cases h0 : E = 0
  · subst h0
    have HX := Kp.mk (HH.out rfl)
    have HC : Kp (∀ V, Below w1.heap.size w1 V → V.cell? ⟨w.heap.size, 0, none⟩ = some (.int .i64 wd) ∧ V.cell? ⟨w.heap.size, 1, none⟩ = some (.int .i64 dp) ∧ V.cell? ⟨w.heap.size, 2, none⟩ = some (.slice g M c) ∧ V.cell? ⟨w.heap.size + 1, 0, none⟩ = some (.int .i64 ex) ∧ V.cell? ⟨w.heap.size + 1, 1, none⟩ = some (.int .i64 eb) ∧ V.cell? ⟨w.heap.size + 1, 2, none⟩ = some (.int .i64 eh)) := ⟨fun V hV => ⟨(hV.cell (p := ⟨_, 0, none⟩) hz1_0).trans c1_0_0, (hV.cell (p := ⟨_, 1, none⟩) hz1_0).trans c1_0_1, (hV.cell (p := ⟨_, 2, none⟩) hz1_0).trans c1_0_2, (hV.cell (p := ⟨_, 0, none⟩) hz1_1).trans c1_1_0, (hV.cell (p := ⟨_, 1, none⟩) hz1_1).trans c1_1_1, (hV.cell (p := ⟨_, 2, none⟩) hz1_1).trans c1_1_2⟩⟩
    clear HH HA c1_0_0 c1_0_1 c1_0_2 c1_1_0 c1_1_1 c1_1_2 z1_0 z1_1 hz1_0 hz1_1
    go_wp2_with fail
    go_loopw [23] (fun i wr => ∃ k : Nat, k ≤ 3001 ∧ i = .int .i64 k ∧ Kp (∀ j : Nat, j < k → p j = false) ∧ Kp (Below w1.heap.size w1 wr)) (fun i _ => 3001 - (intOf i).toNat)
    case atStart => exact ⟨0, Nat.zero_le _, rfl, ⟨fun j hj => by omega⟩, ⟨Below.refl _ _⟩⟩
    case round =>
      obtain ⟨k, hk, rfl, HP, HB⟩ := hrel
      have HBW := Kp.mk (HB1.out.trans (HB.out.mono HB1.out.size))
      by_cases hlt : k < 3001
      · obtain ⟨q0, q1, q2, q3, q4, q5⟩ := HC.out wr HB.out
        have o1 : (k : Int) < 3001 := by omega
        go_wp2_with fail
        refine (HX.out k _ (by omega) HBW.out).mono ?_
        rintro en w2 ⟨⟨a, b, rfl⟩, hb2⟩
        have HB2 := Kp.mk (HB.out.trans (hb2.mono HB.out.size))
        have HBF := Kp.mk (HBW.out.trans (hb2.mono HBW.out.size))
        clear hb2 q0 q1 q2 q3 q4 q5
        cases hp : p k with
        | true =>
          have HV : Kp (leastV 0 (lstH p) = .tuple #[.int .i64 k, .int .i64 0]) := ⟨by
            rw [lstH_eq (k := k) (by omega) HP.out (fun _ => hp)]
            unfold leastV
            rw [if_pos rfl, if_pos (by omega)]⟩
          clear hp
          go_wp2
          go_ret2
          exact ⟨by rw [HV.out]; rfl, HBF.out⟩
        | false =>
          have HP2 : Kp (∀ j : Nat, j < k + 1 → p j = false) := ⟨fun j hj => by
            by_cases e : j = k
            · subst e; exact hp
            · exact HP.out j (by omega)⟩
          clear hp
          go_wp2
          go_roundw
          case rel => exact ⟨k + 1, by omega, by go_num, HP2, HB2⟩
          case measure => simp [intOf]; omega
      · have hkn : k = 3001 := by omega
        subst hkn
        have HV : Kp (leastV 0 (lstH p) = .tuple #[.int .i64 0, .int .i64 8]) := ⟨by
          rw [lstH_eq (k := 3001) (by omega) HP.out (fun h => by omega)]
          unfold leastV
          rw [if_pos rfl, if_neg (by omega)]⟩
        go_wp2
        go_ret2
        exact ⟨by rw [HV.out]; rfl, HBW.out⟩
  · have i2 : (E != (0 : Int)) = true := by simp [h0]
    have HV : Kp (leastV E (lstH p) = .tuple #[.int .i64 0, .int .i64 E]) := ⟨by unfold leastV; rw [if_neg h0]⟩
    clear h0 HH
    go_wp2
    go_ret2
    exact ⟨by rw [HV.out]; rfl, HB1.out⟩
theorem rLeast_any (wd dp : Int) (v : Value) (L : List Int) (e : Ey) (x y : Int) (w : World) (hv : IS w v L) (hl : L.length ≤ 9223372036854775807) :
    Calls Try.prog 36 #[.agg #[.int .i64 wd, .int .i64 dp, v], .agg #[.int .i64 e.x, .int .i64 e.b, .int .i64 e.h], .int .i64 x, .int .i64 y] w fun en w' => en = .returned (leastV (askE wd dp L e x y 0) (lstH (freeB wd L e x y.toNat))) ∧ Below w.heap.size w w' := by
  have HA : Kp (∀ W, Below w.heap.size w W → Calls Try.prog 64 #[.agg #[.int .i64 wd, .int .i64 dp, v], .agg #[.int .i64 e.x, .int .i64 e.b, .int .i64 e.h], .int .i64 x, .int .i64 y, .int .i64 0] W fun en w' => en = .returned (.int .i64 (askE wd dp L e x y 0)) ∧ Below W.heap.size W w') := ⟨fun W hW => rasked_any wd dp v L e x y 0 W (hv.below hW) hl⟩
  have HH : Kp (askE wd dp L e x y 0 = 0 → ∀ (k : Nat) W, k ≤ 3000 → Below w.heap.size w W → Calls Try.prog 66 #[.agg #[.int .i64 wd, .int .i64 dp, v], .agg #[.int .i64 e.x, .int .i64 e.b, .int .i64 e.h], .int .i64 x, .int .i64 y, .int .i64 k] W fun en w' => (∃ a b : Int, en = .returned (.tuple #[.int .i64 a, .int .i64 b, .bool (!freeB wd L e x y.toNat k)])) ∧ Below W.heap.size W w') := ⟨fun h0 k W hk hW => by
    obtain ⟨h1, h2, h3, h4, -⟩ := askE_zero h0
    have hy : (y.toNat : Int) = y := Int.toNat_of_nonneg h4.1
    have := rhider_any wd dp v L e x y.toNat k W (hv.below hW) h1 h2 h3 (by omega) (by omega)
    rw [hy] at this
    refine this.mono ?_
    rintro en w' ⟨rfl, hb⟩
    refine ⟨?_, hb⟩
    unfold freeB
    cases hid wd L e x y.toNat k with
    | none => exact ⟨0, 0, rfl⟩
    | some q => exact ⟨q.1, q.2, rfl⟩⟩
  obtain ⟨g, c, rfl⟩ := hv.shape
  exact rLeast_st wd dp e.x e.b e.h x y _ g L.length c _ w HA HH
theorem fit_any (wd dp : Int) (g : Option Addr) (M c : Nat) (w : World) : Calls Try.prog 34 #[.agg #[.int .i64 wd, .int .i64 dp, .slice g M c]] w fun en w' => en = .returned (.bool (decide (M ≤ 130))) ∧ Below w.heap.size w w' := by
  by_cases h : M ≤ 130
  · have HV : Kp (decide (M ≤ 130) = true) := ⟨decide_eq_true h⟩
    have o1 : (M : Int) ≤ 130 := by omega
    rw [HV.out]
    go_enter Try.func34, Try.ntmps34
    go_wp2
    go_ret
    exact ⟨rfl, by repeat (first | exact Below.refl _ _ | refine Below.alloc ?_ (by simp <;> omega) _ | refine bDrewN ?_ _ | refine Below.drew ?_)⟩
  · have HV : Kp (decide (M ≤ 130) = false) := ⟨decide_eq_false h⟩
    have o1 : ¬ (M : Int) ≤ 130 := by omega
    rw [HV.out]
    go_enter Try.func34, Try.ntmps34
    go_wp2
    go_ret
    exact ⟨rfl, by repeat (first | exact Below.refl _ _ | refine Below.alloc ?_ (by simp <;> omega) _ | refine bDrewN ?_ _ | refine Below.drew ?_)⟩
end Go.Proofs.Ytjnggchljilooaa.Sc
