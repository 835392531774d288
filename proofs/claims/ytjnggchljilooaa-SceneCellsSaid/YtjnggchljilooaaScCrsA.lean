/-
  WALKS (layer 7, scene): Crosses of the program and of the reference; the reference's Seen and Hides; rows of numbers held to be the same.
-/
import Derived.Test.YtjnggchljilooaaScCrs
import Derived.Test.YtjnggchljilooaaScRHid
import Derived.Test.YtjnggchljilooaaScSeen
import Derived.Test.YtjnggchljilooaaScRefB
import Derived.Lib.QuietBelow
namespace Go.Proofs.Ytjnggchljilooaa.Sc
open Go Go.RowKit Go.Sort

/-- The error of Crosses. -/
def crE (wd dp : Int) (L : List Int) (e : Ey) (x y r : Int) : Int := chkE (cellB wd dp x y && inB 0 (IntKind.i64.wrap (y - 1)) r) (gdB wd dp L) (eyB wd e)
/-- The cells that Crosses tells. -/
def crL (wd dp : Int) (L : List Int) (e : Ey) (x y r : Int) : List Int := if crE wd dp L e x y r = 0 then colL e x y r else []
theorem crE_zero {wd dp : Int} {L : List Int} {e : Ey} {x y r : Int} (k : crE wd dp L e x y r = 0) : gdB wd dp L = true ∧ eyB wd e = true ∧ (0 ≤ x ∧ x ≤ wd - 1) ∧ (0 ≤ y ∧ y ≤ dp - 1) ∧ (0 ≤ r ∧ r ≤ y - 1) ∧ Bd e x y r := by
  unfold crE at k
  have k3 : chkE (cellB wd dp x y && inB 0 (IntKind.i64.wrap (y - 1)) r) (gdB wd dp L) (eyB wd e) = 0 := k
  have k2 : (cellB wd dp x y && inB 0 (IntKind.i64.wrap (y - 1)) r) = true ∧ gdB wd dp L = true ∧ eyB wd e = true := by
    revert k3
    cases (cellB wd dp x y && inB 0 (IntKind.i64.wrap (y - 1)) r) <;> cases gdB wd dp L <;> cases eyB wd e <;> simp [chkE]
  obtain ⟨k1, hg, he⟩ := k2
  rw [Bool.and_eq_true] at k1
  obtain ⟨⟨a1, a2⟩, ⟨b1, b2⟩, -, -⟩ := gdB_iff hg
  have kc := k1.1
  unfold cellB rowB at kc
  rw [Bool.and_eq_true, wrap_less a1 a2, wrap_less b1 b2, inB_iff, inB_iff] at kc
  have kr := k1.2
  rw [IntWalk.i64_in (y - 1) (by omega), inB_iff] at kr
  obtain ⟨c1, c2, c3⟩ := eyB_iff.1 he
  exact ⟨hg, he, kc.1, kc.2, kr, ⟨c1.1, by omega⟩, c2, c3, ⟨kc.1.1, by omega⟩, kr.1, by omega, by omega⟩
theorem Crosses_any (wd dp : Int) (v : Value) (L : List Int) (e : Ey) (x y r : Int) (w : World) (hv : IS w v L) (hl : L.length ≤ 9223372036854775807) :
    Calls Try.prog 27 #[.agg #[.int .i64 wd, .int .i64 dp, v], .agg #[.int .i64 e.x, .int .i64 e.b, .int .i64 e.h], .int .i64 x, .int .i64 y, .int .i64 r] w fun en w' => (∃ u, en = .returned (.tuple #[.int .i64 (crL wd dp L e x y r).length, u, .int .i64 (crE wd dp L e x y r)]) ∧ IS w' u (crL wd dp L e x y r)) ∧ Below w.heap.size w w' := by
  have HIC : Kp (∀ W, Calls Try.prog 47 #[.agg #[.int .i64 wd, .int .i64 dp, v], .int .i64 x, .int .i64 y] W fun e w' => e = .returned (.bool (cellB wd dp x y)) ∧ Below W.heap.size W w') := ⟨fun W => isCell_any wd dp v x y W⟩
  have HWI : Kp (∀ W u, IS W u [r] → Calls Try.prog 51 #[.int .i64 0, .int .i64 (IntKind.i64.wrap (y - 1)), u] W fun e w' => e = .returned (.bool (inB 0 (IntKind.i64.wrap (y - 1)) r)) ∧ W = w') := ⟨fun W u hu => allIn_one 0 (IntKind.i64.wrap (y - 1)) r ▸ within_any 0 (IntKind.i64.wrap (y - 1)) u _ W hu (by simp)⟩
  have HCK : ∀ b : Bool, Kp (∀ W u, Below w.heap.size w W → ES W u [e] → Calls Try.prog 46 #[.bool b, .agg #[.int .i64 wd, .int .i64 dp, v], u] W fun en w' => en = .returned (.int .i64 (chkE b (gdB wd dp L) (eyB wd e))) ∧ Below W.heap.size W w') := fun b => ⟨fun W u hW hu => by
    have := checked_any b wd dp v u L [e] W (hv.below hW) hl hu (by simp)
    simpa using this⟩
  have HE : Kp (crE wd dp L e x y r = chkE (cellB wd dp x y && inB 0 (IntKind.i64.wrap (y - 1)) r) (gdB wd dp L) (eyB wd e)) := ⟨rfl⟩
  have HLZ : Kp (crE wd dp L e x y r ≠ 0 → crL wd dp L e x y r = []) := ⟨fun h => by unfold crL; rw [if_neg h]⟩
  have HFT : ∃ F T : Nat, (crE wd dp L e x y r = 0 → fst e x y r = (F : Int) ∧ lst e x y r = (T : Int) ∧ F ≤ T ∧ T ≤ 23 ∧ crL wd dp L e x y r = (List.range (T + 1 - F)).map fun (i : Nat) => (F : Int) + (i : Int)) := by
    by_cases h : crE wd dp L e x y r = 0
    · obtain ⟨-, -, -, -, -, hb⟩ := crE_zero h
      obtain ⟨c1, c2, c3⟩ := cross_bd hb
      obtain ⟨F, hF⟩ := Int.eq_ofNat_of_zero_le c1
      obtain ⟨T, hT⟩ := Int.eq_ofNat_of_zero_le (Int.le_trans c1 c2)
      refine ⟨F, T, fun _ => ⟨hF, hT, by omega, by omega, ?_⟩⟩
      unfold crL
      rw [if_pos h]
      unfold colL
      rw [hF, hT]
      congr 2
      omega
    · exact ⟨0, 0, fun k => absurd k h⟩
  obtain ⟨F, T, hFT⟩ := HFT
  obtain ⟨g, c, rfl⟩ := hv.shape
  cases hc : cellB wd dp x y with
  | true =>
    rw [hc] at HIC HE
    rw [Bool.true_and] at HE
    have HCX : Kp (crE wd dp L e x y r = 0 → ∀ W, Calls Try.prog 63 #[.agg #[.int .i64 wd, .int .i64 dp, .slice g L.length c, .int .i64 e.x, .int .i64 e.b, .int .i64 e.h], .int .i64 x, .int .i64 y, .int .i64 r] W fun en w' => en = .returned (.agg #[.int .i64 (F : Int), .int .i64 (T : Int), .int .i64 (r + e.b), .int .i64 (y + e.b)]) ∧ Below W.heap.size W w') := ⟨fun h W => by
      have := crossing_any wd dp (.slice g L.length c) e x y r W (crE_zero h).2.2.2.2.2
      rwa [(hFT h).1, (hFT h).2.1] at this⟩
    refine Crosses_in wd dp e.x e.b e.h x y r (r + e.b) (y + e.b) F T g L.length c (crE wd dp L e x y r) (inB 0 (IntKind.i64.wrap (y - 1)) r) (crL wd dp L e x y r) w HIC HWI ?_ HCX ⟨fun h => (hFT h).2.2⟩ HLZ
    rw [HE.out]
    exact HCK _
  | false =>
    rw [hc] at HIC HE
    rw [Bool.false_and] at HE
    have hne : crE wd dp L e x y r ≠ 0 := by rw [HE.out]; cases gdB wd dp L <;> cases eyB wd e <;> simp [chkE]
    refine Crosses_no wd dp e.x e.b e.h x y r (r + e.b) (y + e.b) F T g L.length c (crE wd dp L e x y r) (inB 0 (IntKind.i64.wrap (y - 1)) r) (crL wd dp L e x y r) w HIC HWI ?_ ⟨hne⟩ HLZ
    rw [HE.out]
    exact HCK _
theorem cr_ask (wd dp : Int) (L : List Int) (e : Ey) (x y r : Int) : crE wd dp L e x y r = if askE wd dp L e x y 0 = 0 then (if inB 0 (IntKind.i64.wrap (y - 1)) r = true then 0 else 7) else askE wd dp L e x y 0 := by
  have h0 : inB 0 3000 0 = true := by decide
  unfold crE askE
  rw [h0, Bool.and_true]
  cases cellB wd dp x y <;> cases inB 0 (IntKind.i64.wrap (y - 1)) r <;> cases gdB wd dp L <;> cases eyB wd e <;> simp [chkE]
set_option maxHeartbeats 2000000 in
theorem rCrosses_st (wd dp ex eb eh x y r A0 YM : Int) (g : Option Addr) (M c : Nat) (Q : Bool) (L : List Int) (E : Int) (w : World)
    (HA : Kp (∀ W, Below w.heap.size w W → Calls Try.prog 64 #[.agg #[.int .i64 wd, .int .i64 dp, .slice g M c], .agg #[.int .i64 ex, .int .i64 eb, .int .i64 eh], .int .i64 x, .int .i64 y, .int .i64 0] W fun en w' => en = .returned (.int .i64 A0) ∧ Below W.heap.size W w'))
    (HY : Kp (IntKind.i64.wrap (y - 1) = YM)) (HQ : Kp (inB 0 YM r = Q))
    (HC : Kp (E = 0 → ∀ W, Calls Try.prog 65 #[.agg #[.int .i64 wd, .int .i64 dp, .slice g M c], .agg #[.int .i64 ex, .int .i64 eb, .int .i64 eh], .int .i64 x, .int .i64 y, .int .i64 r] W fun en w' => (∃ u, en = .returned u ∧ IS w' u L) ∧ Below W.heap.size W w'))
    (HE : Kp (E = if A0 = 0 then (if Q = true then 0 else 7) else A0)) (HLZ : Kp (E ≠ 0 → L = [])) :
    Calls Try.prog 28 #[.agg #[.int .i64 wd, .int .i64 dp, .slice g M c], .agg #[.int .i64 ex, .int .i64 eb, .int .i64 eh], .int .i64 x, .int .i64 y, .int .i64 r] w fun en w' => (∃ u, en = .returned (.tuple #[.int .i64 L.length, u, .int .i64 E]) ∧ IS w' u L) ∧ Below w.heap.size w w' := by
  have HIN := Kp.mk (fun W => rin_any r 0 YM W)
  rw [HQ.out] at HIN
  go_enter Try.func28, Try.ntmps28
  go_wp2_with fail
  refine (HA.out _ (by repeat (first | exact Below.refl _ _ | refine Below.alloc ?_ (by simp <;> omega) _ | refine bDrewN ?_ _ | refine Below.drew ?_))).mono ?_
  rintro en w1 ⟨rfl, hb1⟩
  have HB1 : Kp (Below w.heap.size w w1) := ⟨Below.trans (by repeat (first | refine Below.alloc ?_ (by (try simp) <;> omega) _ | refine bDrewN ?_ _ | refine Below.drew ?_ | refine Below.setCell ?_ (by (try simp) <;> omega) _ | exact Below.refl _ _)) (hb1.mono (by (try simp) <;> omega))⟩
  have hz1_0 : w.heap.size < w1.heap.size := by have := hb1.size; (try simp at this); omega
  have hz1_1 : w.heap.size + 1 < w1.heap.size := by have := hb1.size; (try simp at this); omega
  obtain ⟨hc, hf⟩ := bcell hb1
  have c1_0_0 : w1.cell? ⟨w.heap.size, 0, none⟩ = some (.int .i64 wd) := (hc _ _ (by (try simp) <;> omega)).trans (by go_simp)
  have c1_0_1 : w1.cell? ⟨w.heap.size, 1, none⟩ = some (.int .i64 dp) := (hc _ _ (by (try simp) <;> omega)).trans (by go_simp)
  have c1_0_2 : w1.cell? ⟨w.heap.size, 2, none⟩ = some ((.slice g M c)) := (hc _ _ (by (try simp) <;> omega)).trans (by go_simp)
  have z1_0 : ∀ j, w1.frozen? ⟨w.heap.size, j, none⟩ = false := fun j => (hf _ _ (by (try simp) <;> omega)).trans (by go_simp)
  have c1_1_0 : w1.cell? ⟨w.heap.size + 1, 0, none⟩ = some (.int .i64 ex) := (hc _ _ (by (try simp) <;> omega)).trans (by go_simp)
  have c1_1_1 : w1.cell? ⟨w.heap.size + 1, 1, none⟩ = some (.int .i64 eb) := (hc _ _ (by (try simp) <;> omega)).trans (by go_simp)
  have c1_1_2 : w1.cell? ⟨w.heap.size + 1, 2, none⟩ = some (.int .i64 eh) := (hc _ _ (by (try simp) <;> omega)).trans (by go_simp)
  have z1_1 : ∀ j, w1.frozen? ⟨w.heap.size + 1, j, none⟩ = false := fun j => (hf _ _ (by (try simp) <;> omega)).trans (by go_simp)
  clear hc hf hb1
  clear HA HQ
  by_cases hA : A0 = 0
  · subst hA
    have k0 := HY.out
    go_wp2_with fail
    refine (HIN.out _).mono ?_
    rintro en w2 ⟨rfl, rfl⟩
    cases Q with
    | false =>
      have hE : E = 7 := by rw [HE.out]; rfl
      have HV := Kp.mk (HLZ.out (by rw [hE]; decide))
      have HEV := Kp.mk hE
      clear hE HC HE k0
      go_wp2
      go_ret3
      exact ⟨⟨.slice none 0 0, by rw [HV.out, HEV.out]; rfl, by rw [HV.out]; exact is_nil _⟩, HB1.out⟩
    | true =>
      have hE : E = 0 := by rw [HE.out]; rfl
      have HCX := Kp.mk (HC.out hE)
      have HEV := Kp.mk hE
      clear hE HC HE k0 HLZ
      go_wp2_with fail
      refine (HCX.out _).mono ?_
      rintro en w2 ⟨⟨u, rfl, hu⟩, hb2⟩
      have HB2 := Kp.mk (HB1.out.trans (hb2.mono HB1.out.size))
      obtain ⟨g2, c2, rfl⟩ := hu.shape
      have HU := Kp.mk hu
      clear hu hb2
      go_wp2
      go_ret3
      exact ⟨⟨_, by rw [HEV.out]; rfl, HU.out⟩, HB2.out⟩
  · have i2 : (A0 != (0 : Int)) = true := by simp [hA]
    have hE : E = A0 := by rw [HE.out, if_neg hA]
    have HV := Kp.mk (HLZ.out (by rw [hE]; exact hA))
    have HEV := Kp.mk hE
    clear hE HC HE hA
    go_wp2
    go_ret3
    exact ⟨⟨.slice none 0 0, by rw [HV.out, HEV.out]; rfl, by rw [HV.out]; exact is_nil _⟩, HB1.out⟩
theorem rCrosses_any (wd dp : Int) (v : Value) (L : List Int) (e : Ey) (x y r : Int) (w : World) (hv : IS w v L) (hl : L.length ≤ 9223372036854775807) :
    Calls Try.prog 28 #[.agg #[.int .i64 wd, .int .i64 dp, v], .agg #[.int .i64 e.x, .int .i64 e.b, .int .i64 e.h], .int .i64 x, .int .i64 y, .int .i64 r] w fun en w' => (∃ u, en = .returned (.tuple #[.int .i64 (crL wd dp L e x y r).length, u, .int .i64 (crE wd dp L e x y r)]) ∧ IS w' u (crL wd dp L e x y r)) ∧ Below w.heap.size w w' := by
  have HA : Kp (∀ W, Below w.heap.size w W → Calls Try.prog 64 #[.agg #[.int .i64 wd, .int .i64 dp, v], .agg #[.int .i64 e.x, .int .i64 e.b, .int .i64 e.h], .int .i64 x, .int .i64 y, .int .i64 0] W fun en w' => en = .returned (.int .i64 (askE wd dp L e x y 0)) ∧ Below W.heap.size W w') := ⟨fun W hW => rasked_any wd dp v L e x y 0 W (hv.below hW) hl⟩
  obtain ⟨g, c, rfl⟩ := hv.shape
  refine rCrosses_st wd dp e.x e.b e.h x y r _ (IntKind.i64.wrap (y - 1)) g L.length c (inB 0 (IntKind.i64.wrap (y - 1)) r) _ _ w HA ⟨rfl⟩ ⟨rfl⟩ ⟨fun h W => ?_⟩ ⟨cr_ask wd dp L e x y r⟩ ⟨fun h => by unfold crL; rw [if_neg h]⟩
  obtain ⟨hg, he, hx, -, -, hb⟩ := crE_zero h
  have := rcrosses_any wd dp (.slice g L.length c) e x y r W hb (by have := (gdB_iff hg).1; omega) (gdB_iff hg).1.2 (eyB_iff.1 he).1.2 hx.2
  unfold crL
  rwa [if_pos h]
set_option maxHeartbeats 2000000 in
theorem rSeen_any (wd dp : Int) (v : Value) (L : List Int) (e : Ey) (x y h : Int) (w : World) (hv : IS w v L) (hl : L.length ≤ 9223372036854775807) :
    Calls Try.prog 30 #[.agg #[.int .i64 wd, .int .i64 dp, v], .agg #[.int .i64 e.x, .int .i64 e.b, .int .i64 e.h], .int .i64 x, .int .i64 y, .int .i64 h] w fun en w' => en = .returned (seenV (askE wd dp L e x y h) (hid wd L e x y.toNat h)) ∧ Below w.heap.size w w' := by
  have HA : Kp (∀ W, Below w.heap.size w W → Calls Try.prog 64 #[.agg #[.int .i64 wd, .int .i64 dp, v], .agg #[.int .i64 e.x, .int .i64 e.b, .int .i64 e.h], .int .i64 x, .int .i64 y, .int .i64 h] W fun en w' => en = .returned (.int .i64 (askE wd dp L e x y h)) ∧ Below W.heap.size W w') := ⟨fun W hW => rasked_any wd dp v L e x y h W (hv.below hW) hl⟩
  have HH : ∀ E, E = askE wd dp L e x y h → Kp (E = 0 → ∀ W, Below w.heap.size w W → Calls Try.prog 66 #[.agg #[.int .i64 wd, .int .i64 dp, v], .agg #[.int .i64 e.x, .int .i64 e.b, .int .i64 e.h], .int .i64 x, .int .i64 y, .int .i64 h] W fun en w' => en = .returned (hidV (hid wd L e x y.toNat h)) ∧ Below W.heap.size W w') := fun E hE => ⟨fun h0 W hW => by
    obtain ⟨h1, h2, h3, h4, h5⟩ := askE_zero (hE.symm.trans h0)
    have hy : (y.toNat : Int) = y := Int.toNat_of_nonneg h4.1
    have := rhider_any wd dp v L e x y.toNat h W (hv.below hW) h1 h2 h3 (by omega) h5
    rwa [hy] at this⟩
  obtain ⟨g, c, rfl⟩ := hv.shape
  obtain ⟨ex, eb, eh⟩ := e
  obtain ⟨M, hM⟩ : ∃ M, L.length = M := ⟨_, rfl⟩
  obtain ⟨E, hE⟩ : ∃ E, askE wd dp L ⟨ex, eb, eh⟩ x y h = E := ⟨_, rfl⟩
  obtain ⟨o, ho⟩ : ∃ o, hid wd L ⟨ex, eb, eh⟩ x y.toNat h = o := ⟨_, rfl⟩
  have HX := HH E hE.symm
  rw [hE] at HA
  rw [ho] at HX
  rw [hM] at HA HX
  rw [hM, hE, ho]
  simp only at HA HX
  clear HH hM hE ho hv hl
  go_enter Try.func30, Try.ntmps30
  go_wp2_with fail
  refine (HA.out _ (by repeat (first | exact Below.refl _ _ | refine Below.alloc ?_ (by simp <;> omega) _ | refine bDrewN ?_ _ | refine Below.drew ?_))).mono ?_
  rintro en w1 ⟨rfl, hb1⟩
  have HB1 : Kp (Below w.heap.size w w1) := ⟨Below.trans (by repeat (first | refine Below.alloc ?_ (by (try simp) <;> omega) _ | refine bDrewN ?_ _ | refine Below.drew ?_ | refine Below.setCell ?_ (by (try simp) <;> omega) _ | exact Below.refl _ _)) (hb1.mono (by (try simp) <;> omega))⟩
  have hz1_0 : w.heap.size < w1.heap.size := by have := hb1.size; (try simp at this); omega
  have hz1_1 : w.heap.size + 1 < w1.heap.size := by have := hb1.size; (try simp at this); omega
  obtain ⟨hc, hf⟩ := bcell hb1
  have c1_0_0 : w1.cell? ⟨w.heap.size, 0, none⟩ = some (.int .i64 wd) := (hc _ _ (by (try simp) <;> omega)).trans (by go_simp)
  have c1_0_1 : w1.cell? ⟨w.heap.size, 1, none⟩ = some (.int .i64 dp) := (hc _ _ (by (try simp) <;> omega)).trans (by go_simp)
  have c1_0_2 : w1.cell? ⟨w.heap.size, 2, none⟩ = some ((.slice g M c)) := (hc _ _ (by (try simp) <;> omega)).trans (by go_simp)
  have z1_0 : ∀ j, w1.frozen? ⟨w.heap.size, j, none⟩ = false := fun j => (hf _ _ (by (try simp) <;> omega)).trans (by go_simp)
  have c1_1_0 : w1.cell? ⟨w.heap.size + 1, 0, none⟩ = some (.int .i64 ex) := (hc _ _ (by (try simp) <;> omega)).trans (by go_simp)
  have c1_1_1 : w1.cell? ⟨w.heap.size + 1, 1, none⟩ = some (.int .i64 eb) := (hc _ _ (by (try simp) <;> omega)).trans (by go_simp)
  have c1_1_2 : w1.cell? ⟨w.heap.size + 1, 2, none⟩ = some (.int .i64 eh) := (hc _ _ (by (try simp) <;> omega)).trans (by go_simp)
  have z1_1 : ∀ j, w1.frozen? ⟨w.heap.size + 1, j, none⟩ = false := fun j => (hf _ _ (by (try simp) <;> omega)).trans (by go_simp)
  clear hc hf hb1
  by_cases h0 : E = 0
  · subst h0
    have HX2 := Kp.mk (HX.out rfl)
    clear HX HA
    cases o with
    | none =>
      go_wp2_with fail
      refine (HX2.out _ HB1.out).mono ?_
      rintro en w2 ⟨rfl, hb2⟩
      have HB2 := Kp.mk (HB1.out.trans (hb2.mono HB1.out.size))
      clear hb2
      simp only [hidV]
      go_wp2
      go_ret2
      exact ⟨rfl, HB2.out⟩
    | some p =>
      obtain ⟨pc, pr⟩ := p
      go_wp2_with fail
      refine (HX2.out _ HB1.out).mono ?_
      rintro en w2 ⟨rfl, hb2⟩
      have HB2 := Kp.mk (HB1.out.trans (hb2.mono HB1.out.size))
      clear hb2
      simp only [hidV]
      go_wp2
      go_ret2
      exact ⟨rfl, HB2.out⟩
  · have i2 : (E != (0 : Int)) = true := by simp [h0]
    have HV : Kp (seenV E o = .tuple #[.bool false, .int .i64 E]) := ⟨by unfold seenV; rw [if_neg h0]⟩
    clear h0 HX
    go_wp2
    go_ret2
    exact ⟨by rw [HV.out]; rfl, HB1.out⟩
set_option maxHeartbeats 2000000 in
theorem rHides_any (wd dp : Int) (v : Value) (L : List Int) (e : Ey) (x y h : Int) (w : World) (hv : IS w v L) (hl : L.length ≤ 9223372036854775807) :
    Calls Try.prog 32 #[.agg #[.int .i64 wd, .int .i64 dp, v], .agg #[.int .i64 e.x, .int .i64 e.b, .int .i64 e.h], .int .i64 x, .int .i64 y, .int .i64 h] w fun en w' => en = .returned (hidesV (askE wd dp L e x y h) (hid wd L e x y.toNat h)) ∧ Below w.heap.size w w' := by
  have HA : Kp (∀ W, Below w.heap.size w W → Calls Try.prog 64 #[.agg #[.int .i64 wd, .int .i64 dp, v], .agg #[.int .i64 e.x, .int .i64 e.b, .int .i64 e.h], .int .i64 x, .int .i64 y, .int .i64 h] W fun en w' => en = .returned (.int .i64 (askE wd dp L e x y h)) ∧ Below W.heap.size W w') := ⟨fun W hW => rasked_any wd dp v L e x y h W (hv.below hW) hl⟩
  have HH : ∀ E, E = askE wd dp L e x y h → Kp (E = 0 → ∀ W, Below w.heap.size w W → Calls Try.prog 66 #[.agg #[.int .i64 wd, .int .i64 dp, v], .agg #[.int .i64 e.x, .int .i64 e.b, .int .i64 e.h], .int .i64 x, .int .i64 y, .int .i64 h] W fun en w' => en = .returned (hidV (hid wd L e x y.toNat h)) ∧ Below W.heap.size W w') := fun E hE => ⟨fun h0 W hW => by
    obtain ⟨h1, h2, h3, h4, h5⟩ := askE_zero (hE.symm.trans h0)
    have hy : (y.toNat : Int) = y := Int.toNat_of_nonneg h4.1
    have := rhider_any wd dp v L e x y.toNat h W (hv.below hW) h1 h2 h3 (by omega) h5
    rwa [hy] at this⟩
  obtain ⟨g, c, rfl⟩ := hv.shape
  obtain ⟨ex, eb, eh⟩ := e
  obtain ⟨M, hM⟩ : ∃ M, L.length = M := ⟨_, rfl⟩
  obtain ⟨E, hE⟩ : ∃ E, askE wd dp L ⟨ex, eb, eh⟩ x y h = E := ⟨_, rfl⟩
  obtain ⟨o, ho⟩ : ∃ o, hid wd L ⟨ex, eb, eh⟩ x y.toNat h = o := ⟨_, rfl⟩
  have HX := HH E hE.symm
  rw [hE] at HA
  rw [ho] at HX
  rw [hM] at HA HX
  rw [hM, hE, ho]
  simp only at HA HX
  clear HH hM hE ho hv hl
  go_enter Try.func32, Try.ntmps32
  go_wp2_with fail
  refine (HA.out _ (by repeat (first | exact Below.refl _ _ | refine Below.alloc ?_ (by simp <;> omega) _ | refine bDrewN ?_ _ | refine Below.drew ?_))).mono ?_
  rintro en w1 ⟨rfl, hb1⟩
  have HB1 : Kp (Below w.heap.size w w1) := ⟨Below.trans (by repeat (first | refine Below.alloc ?_ (by (try simp) <;> omega) _ | refine bDrewN ?_ _ | refine Below.drew ?_ | refine Below.setCell ?_ (by (try simp) <;> omega) _ | exact Below.refl _ _)) (hb1.mono (by (try simp) <;> omega))⟩
  have hz1_0 : w.heap.size < w1.heap.size := by have := hb1.size; (try simp at this); omega
  have hz1_1 : w.heap.size + 1 < w1.heap.size := by have := hb1.size; (try simp at this); omega
  obtain ⟨hc, hf⟩ := bcell hb1
  have c1_0_0 : w1.cell? ⟨w.heap.size, 0, none⟩ = some (.int .i64 wd) := (hc _ _ (by (try simp) <;> omega)).trans (by go_simp)
  have c1_0_1 : w1.cell? ⟨w.heap.size, 1, none⟩ = some (.int .i64 dp) := (hc _ _ (by (try simp) <;> omega)).trans (by go_simp)
  have c1_0_2 : w1.cell? ⟨w.heap.size, 2, none⟩ = some ((.slice g M c)) := (hc _ _ (by (try simp) <;> omega)).trans (by go_simp)
  have z1_0 : ∀ j, w1.frozen? ⟨w.heap.size, j, none⟩ = false := fun j => (hf _ _ (by (try simp) <;> omega)).trans (by go_simp)
  have c1_1_0 : w1.cell? ⟨w.heap.size + 1, 0, none⟩ = some (.int .i64 ex) := (hc _ _ (by (try simp) <;> omega)).trans (by go_simp)
  have c1_1_1 : w1.cell? ⟨w.heap.size + 1, 1, none⟩ = some (.int .i64 eb) := (hc _ _ (by (try simp) <;> omega)).trans (by go_simp)
  have c1_1_2 : w1.cell? ⟨w.heap.size + 1, 2, none⟩ = some (.int .i64 eh) := (hc _ _ (by (try simp) <;> omega)).trans (by go_simp)
  have z1_1 : ∀ j, w1.frozen? ⟨w.heap.size + 1, j, none⟩ = false := fun j => (hf _ _ (by (try simp) <;> omega)).trans (by go_simp)
  clear hc hf hb1
  by_cases h0 : E = 0
  · subst h0
    have HX2 := Kp.mk (HX.out rfl)
    clear HX HA
    cases o with
    | none =>
      go_wp2_with fail
      refine (HX2.out _ HB1.out).mono ?_
      rintro en w2 ⟨rfl, hb2⟩
      have HB2 := Kp.mk (HB1.out.trans (hb2.mono HB1.out.size))
      clear hb2
      simp only [hidV]
      go_wp2
      go_ret3
      exact ⟨rfl, HB2.out⟩
    | some p =>
      obtain ⟨pc, pr⟩ := p
      go_wp2_with fail
      refine (HX2.out _ HB1.out).mono ?_
      rintro en w2 ⟨rfl, hb2⟩
      have HB2 := Kp.mk (HB1.out.trans (hb2.mono HB1.out.size))
      clear hb2
      simp only [hidV]
      go_wp2
      go_ret3
      exact ⟨rfl, HB2.out⟩
  · have i2 : (E != (0 : Int)) = true := by simp [h0]
    have HV : Kp (hidesV E o = .tuple #[.int .i64 0, .int .i64 0, .int .i64 E]) := ⟨by unfold hidesV; rw [if_neg h0]⟩
    clear h0 HX
    go_wp2
    go_ret3
    exact ⟨by rw [HV.out]; rfl, HB1.out⟩
theorem same_ints (v u : Value) (L : List Int) (w : World) (hl : L.length ≤ 100000) (h1 : IS w v L) (h2 : IS w u L) : Calls Try.prog 33 #[v, u] w fun e w' => e = .returned (.bool true) ∧ Below w.heap.size w w' := by
  obtain ⟨g, cap, rfl, -, hc1⟩ := h1
  obtain ⟨g', cap', rfl, -, hc2⟩ := h2
  have H1 := Lib.hid hc1
  have H2 := Lib.hid hc2
  clear hc1 hc2
  have hlen : ((L.length : Int) != (L.length : Int)) = false := by simp
  go_enter Try.func33, Try.ntmps33
  go_wp2
  go_loopw [13] (fun i wr => ∃ k : Nat, k ≤ L.length ∧ i = .int .i64 (k : Int) ∧ Kp (Below w.heap.size w wr)) (fun i _ => L.length - (intOf i).toNat)
  case atStart => exact ⟨0, Nat.zero_le _, rfl, ⟨Below.refl _ _⟩⟩
  case round =>
    obtain ⟨k, hk, rfl, HB⟩ := hrel
    by_cases hlt : k < L.length
    · obtain ⟨x, hx⟩ : ∃ x, L[k]? = some x := ⟨L[k], List.getElem?_eq_getElem hlt⟩
      obtain ⟨b, o, hg, d0⟩ := H1.out k x hx
      obtain ⟨b', o', hg', f0⟩ := H2.out k x hx
      subst hg
      subst hg'
      have r1 := (HB.out.cell (p := ⟨b, o + k, none⟩) (World.block_lt_of_cell? _ _ d0)).trans d0
      have r2 := (HB.out.cell (p := ⟨b', o' + k, none⟩) (World.block_lt_of_cell? _ _ f0)).trans f0
      have o1 : (k : Int) < (L.length : Int) := by omega
      have o5 : k ≤ 100000 := by omega
      clear hx d0 f0
      have rg_r1 := fun d os => cell_regrown r1 d os
      have rg_r2 := fun d os => cell_regrown r2 d os
      clear r1 r2
      go_wp2
      refine wp_region_quiet_below (by kernel_rfl) (by kernel_rfl) ?_
      repeat (any_goals (first | go_big_quiet_step (fail) | quiet_step (fail)))
      refine wpQuiet_nil ?_
      intro _ hqw
      obtain ⟨⟨dq, osq⟩, hqv⟩ := hqw
      subst hqv
      obtain ⟨wq, hqwq⟩ : ∃ wq, grow (redrawn (wr) dq) osq = wq := ⟨_, rfl⟩
      have hbwq : Below (wr).heap.size (wr) wq := by rw [← hqwq]; exact below_regrown _ dq osq
      rw [hqwq]
      clear hqwq
      have HBQ := Kp.mk (HB.out.trans (hbwq.mono HB.out.size))
      clear hbwq
      go_wp2
      go_roundw
      case rel => exact ⟨k + 1, by omega, by go_num, HBQ⟩
      case measure => simp [intOf]; omega
    · have o1 : ¬ (k : Int) < (L.length : Int) := by omega
      go_wp2
      go_ret
      exact ⟨rfl, HB.out⟩
end Go.Proofs.Ytjnggchljilooaa.Sc
