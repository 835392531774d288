/-
  WALKS (layer 7, scene): Eyes at every input, by the program and by the reference.
-/
import Derived.Test.YtjnggchljilooaaScEyes
import Derived.Test.YtjnggchljilooaaScRHid
import Derived.Test.YtjnggchljilooaaScRefB
import Derived.Test.YtjnggchljilooaaScSeen
namespace Go.Proofs.Ytjnggchljilooaa.Sc
open Go Go.RowKit Go.Sort
attribute [-go_sem] Builtin.append_

/-- The error of Eyes. -/
def eyE (wd dp : Int) (L : List Int) (E : List Ey) (x y h : Int) : Int := chkE (decide (E.length ≤ 20) && cellB wd dp x y && inB 0 3000 h) (gdB wd dp L) (E.all (eyB wd))
/-- What hides a point from an eye of a row. -/
def eyO (wd : Int) (L : List Int) (E : List Ey) (x y h : Int) (i : Nat) : Option (Int × Int) := hid wd L (E.getD i ⟨0, 0, 0⟩) x y.toNat h
/-- What Eyes tells. -/
def eyL (wd dp : Int) (L : List Int) (E : List Ey) (x y h : Int) : List Int := if eyE wd dp L E x y h = 0 then eyI (eyO wd L E x y h) E.length else []
theorem eyE_zero {wd dp : Int} {L : List Int} {E : List Ey} {x y h : Int} (k : eyE wd dp L E x y h = 0) : gdB wd dp L = true ∧ (∀ e ∈ E, eyB wd e = true) ∧ (0 ≤ x ∧ x ≤ wd - 1) ∧ (0 ≤ y ∧ y ≤ dp - 1) ∧ (0 ≤ h ∧ h ≤ 3000) ∧ E.length ≤ 20 := by
  have k2 : (decide (E.length ≤ 20) && cellB wd dp x y && inB 0 3000 h) = true ∧ gdB wd dp L = true ∧ E.all (eyB wd) = true := by
    have k0 := (show chkE (decide (E.length ≤ 20) && cellB wd dp x y && inB 0 3000 h) (gdB wd dp L) (E.all (eyB wd)) = 0 from k)
    revert k0
    cases (decide (E.length ≤ 20) && cellB wd dp x y && inB 0 3000 h) <;> cases gdB wd dp L <;> cases E.all (eyB wd) <;> simp [chkE]
  obtain ⟨k1, hg, he⟩ := k2
  rw [Bool.and_eq_true, Bool.and_eq_true, decide_eq_true_eq] at k1
  obtain ⟨⟨a1, a2⟩, ⟨b1, b2⟩, -, -⟩ := gdB_iff hg
  have kc := k1.1.2
  unfold cellB rowB at kc
  rw [Bool.and_eq_true, wrap_less a1 a2, wrap_less b1 b2, inB_iff, inB_iff] at kc
  exact ⟨hg, List.all_eq_true.1 he, kc.1, kc.2, inB_iff.1 k1.2, k1.1.1⟩
theorem Eyes_any (wd dp : Int) (v u : Value) (L : List Int) (E : List Ey) (x y h : Int) (w : World) (hv : IS w v L) (hl : L.length ≤ 9223372036854775807) (hu : ES w u E) (hm : E.length ≤ 9223372036854775807) :
    Calls Try.prog 39 #[.agg #[.int .i64 wd, .int .i64 dp, v], u, .int .i64 x, .int .i64 y, .int .i64 h] w fun e w' => (∃ r, e = .returned (.tuple #[r, .int .i64 (eyE wd dp L E x y h)]) ∧ IS w' r (eyL wd dp L E x y h)) ∧ Below w.heap.size w w' := by
  have HIC : Kp (∀ W, Calls Try.prog 47 #[.agg #[.int .i64 wd, .int .i64 dp, v], .int .i64 x, .int .i64 y] W fun e w' => e = .returned (.bool (cellB wd dp x y)) ∧ Below W.heap.size W w') := ⟨fun W => isCell_any wd dp v x y W⟩
  have HWI : Kp (∀ W u, IS W u [h] → Calls Try.prog 51 #[.int .i64 0, .int .i64 3000, u] W fun e w' => e = .returned (.bool (inB 0 3000 h)) ∧ W = w') := ⟨fun W u hu => allIn_one 0 3000 h ▸ within_any 0 3000 u _ W hu (by simp)⟩
  have HCK : ∀ b : Bool, Kp (∀ W, Below w.heap.size w W → Calls Try.prog 46 #[.bool b, .agg #[.int .i64 wd, .int .i64 dp, v], u] W fun en w' => en = .returned (.int .i64 (chkE b (gdB wd dp L) (E.all (eyB wd)))) ∧ Below W.heap.size W w') := fun b => ⟨fun W hW => checked_any b wd dp v u L E W (hv.below hW) hl (hu.below hW) hm⟩
  have HE : Kp (eyE wd dp L E x y h = chkE (decide (E.length ≤ 20) && cellB wd dp x y && inB 0 3000 h) (gdB wd dp L) (E.all (eyB wd))) := ⟨rfl⟩
  have HHD : Kp (eyE wd dp L E x y h = 0 → ∀ (i : Nat) (x0 : Ey) W, E[i]? = some x0 → Below w.heap.size w W → Calls Try.prog 67 #[.agg #[.int .i64 wd, .int .i64 dp, v, .int .i64 x0.x, .int .i64 x0.b, .int .i64 x0.h], .int .i64 x, .int .i64 y, .int .i64 h] W fun e w' => e = .returned (hidV (eyO wd L E x y h i)) ∧ Below W.heap.size W w') := ⟨fun k i x0 W hi hW => by
    obtain ⟨h1, h2, h3, h4, h5, -⟩ := eyE_zero k
    have hy : (y.toNat : Int) = y := Int.toNat_of_nonneg h4.1
    have := hider_any wd dp v L x0 x y.toNat h W (hv.below hW) h1 (h2 _ (List.mem_of_getElem? hi)) h3 (by omega) h5
    rw [hy] at this
    unfold eyO
    rw [List.getD_eq_getElem?_getD, hi]
    exact this⟩
  obtain ⟨g, c, rfl⟩ := hv.shape
  obtain ⟨g2, c2, rfl, -, hes⟩ := hu
  by_cases hn : E.length ≤ 20
  · rw [decide_eq_true hn, Bool.true_and] at HE
    cases hc : cellB wd dp x y with
    | true =>
      rw [hc] at HIC HE
      rw [Bool.true_and] at HE
      refine Eyes_in wd dp x y h g g2 L.length c E.length c2 (eyE wd dp L E x y h) (inB 0 3000 h) E (eyO wd L E x y h) (eyL wd dp L E x y h) w ⟨by omega⟩ HIC HWI ?_ HHD ⟨rfl, hes⟩ ⟨rfl⟩
      rw [HE.out]
      exact HCK _
    | false =>
      rw [hc] at HIC HE
      rw [Bool.false_and] at HE
      have hne : eyE wd dp L E x y h ≠ 0 := by rw [HE.out]; cases gdB wd dp L <;> cases E.all (eyB wd) <;> simp [chkE]
      refine Eyes_no wd dp x y h g g2 L.length c E.length c2 (eyE wd dp L E x y h) (eyL wd dp L E x y h) w ⟨by omega⟩ HIC ?_ ⟨hne⟩ ⟨by unfold eyL; rw [if_neg hne]⟩
      rw [HE.out]
      exact HCK _
  · rw [decide_eq_false hn, Bool.false_and, Bool.false_and] at HE
    have hne : eyE wd dp L E x y h ≠ 0 := by rw [HE.out]; cases gdB wd dp L <;> cases E.all (eyB wd) <;> simp [chkE]
    refine Eyes_many wd dp x y h g g2 L.length c E.length c2 (eyE wd dp L E x y h) (eyL wd dp L E x y h) w ⟨by omega⟩ ?_ ⟨hne⟩ ⟨by unfold eyL; rw [if_neg hne]⟩
    rw [HE.out]
    exact HCK _
theorem rEyes_bad (wd dp x y h : Int) (g : Option Addr) (M c : Nat) (u : Value) (w : World)
    (HV : Kp (∀ W, Below w.heap.size w W → Calls Try.prog 17 #[.agg #[.int .i64 wd, .int .i64 dp, .slice g M c]] W fun en w' => en = .returned (.bool false) ∧ Below W.heap.size W w')) :
    Calls Try.prog 40 #[.agg #[.int .i64 wd, .int .i64 dp, .slice g M c], u, .int .i64 x, .int .i64 y, .int .i64 h] w fun e w' => e = .returned (.tuple #[.slice none 0 0, .int .i64 1]) ∧ Below w.heap.size w w' := by
  go_enter Try.func40, Try.ntmps40
  go_wp2_with fail
  refine (HV.out _ (by repeat (first | exact Below.refl _ _ | refine Below.alloc ?_ (by simp <;> omega) _ | refine bDrewN ?_ _ | refine Below.drew ?_))).mono ?_
  rintro en w1 ⟨rfl, hb1⟩
  have HB1 : Kp (Below w.heap.size w w1) := ⟨Below.trans (by repeat (first | exact Below.refl _ _ | refine Below.alloc ?_ (by simp <;> omega) _ | refine bDrewN ?_ _ | refine Below.drew ?_)) (hb1.mono (by simp <;> omega))⟩
  clear hb1
  go_wp2
  go_ret2
  exact ⟨rfl, HB1.out⟩
set_option maxRecDepth 100000 in
set_option maxHeartbeats 4000000 in
theorem rEyes_st (wd dp x y h : Int) (g g2 : Option Addr) (M c n c2 : Nat) (ER : Int) (C Q : Bool) (eb : Ey → Bool) (E : List Ey) (o : Nat → Option (Int × Int)) (LL : List Int) (w : World)
    (HV : Kp (∀ W, Below w.heap.size w W → Calls Try.prog 17 #[.agg #[.int .i64 wd, .int .i64 dp, .slice g M c]] W fun en w' => en = .returned (.bool true) ∧ Below W.heap.size W w'))
    (HVE : Kp (∀ W (x0 : Ey), Below w.heap.size w W → Calls Try.prog 19 #[.agg #[.int .i64 wd, .int .i64 dp, .slice g M c], .agg #[.int .i64 x0.x, .int .i64 x0.b, .int .i64 x0.h]] W fun en w' => en = .returned (.bool (eb x0)) ∧ Below W.heap.size W w'))
    (HCE : Kp (∀ W, Calls Try.prog 49 #[.agg #[.int .i64 wd, .int .i64 dp, .slice g M c], .int .i64 x, .int .i64 y] W fun en w' => en = .returned (.bool C) ∧ Below W.heap.size W w'))
    (HIN : Kp (∀ W, Calls Try.prog 53 #[.int .i64 h, .int .i64 0, .int .i64 3000] W fun en w' => en = .returned (.bool Q) ∧ W = w'))
    (HH : Kp (ER = 0 → ∀ (i : Nat) (x0 : Ey) W, E[i]? = some x0 → Below w.heap.size w W → Calls Try.prog 66 #[.agg #[.int .i64 wd, .int .i64 dp, .slice g M c], .agg #[.int .i64 x0.x, .int .i64 x0.b, .int .i64 x0.h], .int .i64 x, .int .i64 y, .int .i64 h] W fun e w' => e = .returned (hidV (o i)) ∧ Below W.heap.size W w'))
    (HES : Kp (E.length = n ∧ ∀ i (x : Ey), E[i]? = some x → ∃ b o, g2 = some ⟨b, o, none⟩ ∧ w.cell? ⟨b, o + i * 3, none⟩ = some (.int .i64 x.x) ∧ w.cell? ⟨b, o + i * 3 + 1, none⟩ = some (.int .i64 x.b) ∧ w.cell? ⟨b, o + i * 3 + 2, none⟩ = some (.int .i64 x.h)))
    (HN : Kp (n ≤ 9223372036854775807))
    (HER : Kp ((E.all eb = false → ER = 1) ∧ (E.all eb = true → (n ≤ 20 → C = true → Q = true → ER = 0) ∧ (n ≤ 20 → C = true → Q = false → ER = 7) ∧ (n ≤ 20 → C = false → ER = 7) ∧ (¬ n ≤ 20 → ER = 7))))
    (HLL : Kp ((ER = 0 → LL = eyI o n) ∧ (ER ≠ 0 → LL = []))) :
    Calls Try.prog 40 #[.agg #[.int .i64 wd, .int .i64 dp, .slice g M c], .slice g2 n c2, .int .i64 x, .int .i64 y, .int .i64 h] w fun e w' => (∃ u, e = .returned (.tuple #[u, .int .i64 ER]) ∧ IS w' u LL) ∧ Below w.heap.size w w' := by
  go_enter Try.func40, Try.ntmps40
  go_wp2_with fail
  refine (HV.out _ (by repeat (first | exact Below.refl _ _ | refine Below.alloc ?_ (by simp <;> omega) _ | refine bDrewN ?_ _ | refine Below.drew ?_))).mono ?_
  rintro en w1 ⟨rfl, hb1⟩
  have HB1 : Kp (Below w.heap.size w w1) := ⟨Below.trans (by repeat (first | refine Below.alloc ?_ (by (try simp) <;> omega) _ | refine bDrewN ?_ _ | refine Below.drew ?_ | refine Below.setCell ?_ (by (try simp) <;> omega) _ | exact Below.refl _ _)) (hb1.mono (by (try simp) <;> omega))⟩
  have hz1_0 : w.heap.size < w1.heap.size := by have := hb1.size; (try simp at this); omega
  obtain ⟨hc, hf⟩ := bcell hb1
  have c1_0_0 : w1.cell? ⟨w.heap.size, 0, none⟩ = some (.int .i64 wd) := (hc _ _ (by (try simp) <;> omega)).trans (by go_simp)
  have c1_0_1 : w1.cell? ⟨w.heap.size, 1, none⟩ = some (.int .i64 dp) := (hc _ _ (by (try simp) <;> omega)).trans (by go_simp)
  have c1_0_2 : w1.cell? ⟨w.heap.size, 2, none⟩ = some ((.slice g M c)) := (hc _ _ (by (try simp) <;> omega)).trans (by go_simp)
  have z1_0 : ∀ j, w1.frozen? ⟨w.heap.size, j, none⟩ = false := fun j => (hf _ _ (by (try simp) <;> omega)).trans (by go_simp)
  clear hc hf hb1
  have HCB : Kp (∀ V, Below w1.heap.size w1 V → V.cell? ⟨w.heap.size, 0, none⟩ = some (.int .i64 wd) ∧ V.cell? ⟨w.heap.size, 1, none⟩ = some (.int .i64 dp) ∧ V.cell? ⟨w.heap.size, 2, none⟩ = some (.slice g M c) ∧ w.heap.size < V.heap.size) := ⟨fun V hV => ⟨(hV.cell (p := ⟨_, 0, none⟩) hz1_0).trans c1_0_0, (hV.cell (p := ⟨_, 1, none⟩) hz1_0).trans c1_0_1, (hV.cell (p := ⟨_, 2, none⟩) hz1_0).trans c1_0_2, Nat.lt_of_lt_of_le hz1_0 hV.size⟩⟩
  clear HV c1_0_0 c1_0_1 c1_0_2 z1_0 hz1_0
  go_wp2_with fail
  go_loopw [25] (fun i wr => ∃ k : Nat, k ≤ n ∧ i = .int .i64 k ∧ Kp ((E.take k).all eb = true) ∧ Kp (Below w1.heap.size w1 wr)) (fun i _ => n - (intOf i).toNat)
  case atStart => exact ⟨0, Nat.zero_le _, rfl, ⟨rfl⟩, ⟨Below.refl _ _⟩⟩
  case round =>
    obtain ⟨k, hk, rfl, HA, HB⟩ := hrel
    have HBV := Kp.mk (HB1.out.trans (HB.out.mono HB1.out.size))
    obtain ⟨q0, q1, q2, hBl⟩ := HCB.out wr HB.out
    by_cases hlt : k < n
    · obtain ⟨z, hz⟩ : ∃ z, E[k]? = some z := ⟨_, List.getElem?_eq_getElem (by rw [HES.out.1]; exact hlt)⟩
      obtain ⟨b', o', hg2, z0, z1, z2⟩ := HES.out.2 k z hz
      subst hg2
      have hbl := World.block_lt_of_cell? _ _ z0
      have d0 := (HBV.out.cell (p := ⟨b', o' + k * 3, none⟩) hbl).trans z0
      have d1 := (HBV.out.cell (p := ⟨b', o' + k * 3 + 1, none⟩) hbl).trans z1
      have d2 := (HBV.out.cell (p := ⟨b', o' + k * 3 + 2, none⟩) hbl).trans z2
      have HT : Kp ((E.take (k + 1)).all eb = eb z ∧ (eb z = false → E.all eb = false)) := ⟨by
        have hk' := (List.getElem?_eq_some_iff.1 hz).1
        rw [List.take_succ_eq_append_getElem hk', (List.getElem?_eq_some_iff.1 hz).2, List.all_append, HA.out]
        simp, fun h => by rw [List.all_eq_false]; exact ⟨z, List.mem_of_getElem? hz, by simp [h]⟩⟩
      have HKX := Kp.mk (HVE.out (wr.alloc (.cells #[.int .i64 z.x, .int .i64 z.b, .int .i64 z.h] 26)) z (HBV.out.alloc HBV.out.size _))
      obtain ⟨R, hR⟩ : ∃ R, eb z = R := ⟨_, rfl⟩
      rw [hR] at HT HKX
      obtain ⟨zx, zb, zh⟩ := z
      simp only at d0 d1 d2 HKX
      have o1 : (k : Int) < (n : Int) := by omega
      have o4 : IntKind.i64.wrap ((k : Int) + 1) = (k : Int) + 1 := IntWalk.i64_in _ (by have := HN.out; omega)
      have HBZ : Kp (Below w1.heap.size w1 (wr.alloc (.cells #[.int .i64 zx, .int .i64 zb, .int .i64 zh] 26))) := ⟨HB.out.alloc HB.out.size _⟩
      clear hz z0 z1 z2 hbl hR
      go_wp2_with fail
      refine HKX.out.mono ?_
      rintro en w5 ⟨rfl, hb5⟩
      have HB5 := Kp.mk (HBZ.out.trans (hb5.mono HBZ.out.size))
      have HB6 := Kp.mk (HB1.out.trans (HB5.out.mono HB1.out.size))
      clear hb5 d0 d1 d2 q0 q1 q2 HKX HBZ hBl
      cases R with
      | false =>
        have HEV : Kp (ER = 1) := ⟨HER.out.1 (HT.out.2 rfl)⟩
        have HLV : Kp (LL = []) := ⟨HLL.out.2 (by rw [HEV.out]; decide)⟩
        go_wp2
        go_ret2
        exact ⟨⟨.slice none 0 0, by rw [HEV.out]; rfl, by rw [HLV.out]; exact is_nil _⟩, HB6.out⟩
      | true =>
        have HA2 := Kp.mk HT.out.1
        go_wp2
        go_roundw
        case rel => exact ⟨k + 1, by omega, by go_num, HA2, HB5⟩
        case measure => simp [intOf]; omega
    · have hkn : k = n := by omega
      have HAL : Kp (E.all eb = true) := ⟨by have := HA.out; rwa [List.take_of_length_le (by have := HES.out.1; omega)] at this⟩
      have HRR := Kp.mk (HER.out.2 HAL.out)
      obtain ⟨W0, rfl⟩ : ∃ W0, W0 = wr := ⟨_, rfl⟩
      have o1 : ¬ (k : Int) < (n : Int) := by omega
      clear hkn HER HA HVE
      by_cases h20 : n ≤ 20
      case neg =>
        have p1 : (20 : Int) < (n : Int) := by omega
        have HEV : Kp (ER = 7) := ⟨HRR.out.2.2.2 h20⟩
        have HLV : Kp (LL = []) := ⟨HLL.out.2 (by rw [HEV.out]; decide)⟩
        clear hBl
        go_wp2
        go_ret2
        exact ⟨⟨.slice none 0 0, by rw [HEV.out]; rfl, by rw [HLV.out]; exact is_nil _⟩, HBV.out⟩
      case pos =>
      have p1 : ¬ (20 : Int) < (n : Int) := by omega
      go_wp2_with fail
      refine (HCE.out _).mono ?_
      rintro en w5 ⟨rfl, hb5⟩
      have HB5 := Kp.mk (HB.out.trans (hb5.mono HB.out.size))
      have HB6 := Kp.mk (HB1.out.trans (HB5.out.mono HB1.out.size))
      clear hb5 q0 q1 q2 hBl HCE
      cases C with
      | false =>
        have HEV : Kp (ER = 7) := ⟨HRR.out.2.2.1 h20 (by simp)⟩
        have HLV : Kp (LL = []) := ⟨HLL.out.2 (by rw [HEV.out]; decide)⟩
        go_wp2
        go_ret2
        exact ⟨⟨.slice none 0 0, by rw [HEV.out]; rfl, by rw [HLV.out]; exact is_nil _⟩, HB6.out⟩
      | true =>
        go_wp2_with fail
        refine (HIN.out _).mono ?_
        rintro en w6 ⟨rfl, rfl⟩
        clear HIN
        cases Q with
        | false =>
          have HEV : Kp (ER = 7) := ⟨HRR.out.2.1 h20 (by simp) (by simp)⟩
          have HLV : Kp (LL = []) := ⟨HLL.out.2 (by rw [HEV.out]; decide)⟩
          go_wp2
          go_ret2
          exact ⟨⟨.slice none 0 0, by rw [HEV.out]; rfl, by rw [HLV.out]; exact is_nil _⟩, HB6.out⟩
        | true =>
          have HEV : Kp (ER = 0) := ⟨HRR.out.1 h20 (by simp) (by simp)⟩
          have HLV : Kp (LL = eyI o n) := ⟨HLL.out.1 HEV.out⟩
          have HX := Kp.mk (HH.out HEV.out)
          have HO0 : Kp (OwnI w5 w5.heap.size (.slice none 0 0) (eyI o 0)) := ⟨OwnI.nil _ _⟩
          clear HRR HH HLL
          go_wp2_with fail
          go_loopw [14, 51] (fun r i wr => ∃ k : Nat, k ≤ n ∧ i = .int .i64 k ∧ Kp (OwnI wr w5.heap.size r (eyI o k)) ∧ Kp (Below w5.heap.size w5 wr)) (fun _ i _ => n - (intOf i).toNat)
          case atStart => exact ⟨0, Nat.zero_le _, rfl, HO0, ⟨Below.refl _ _⟩⟩
          case round =>
            clear HO0 hk
            obtain ⟨j, hj, rfl, HO, HBB⟩ := hrel
            have HBW := Kp.mk (HB6.out.trans (HBB.out.mono HB6.out.size))
            obtain ⟨q0, q1, q2, hBl⟩ := HCB.out wr (HB5.out.trans (HBB.out.mono HB5.out.size))
            by_cases hlj : j < n
            · obtain ⟨z, hz⟩ : ∃ z, E[j]? = some z := ⟨_, List.getElem?_eq_getElem (by rw [HES.out.1]; exact hlj)⟩
              obtain ⟨b', o', hg2, z0, z1, z2⟩ := HES.out.2 j z hz
              subst hg2
              have hbl := World.block_lt_of_cell? _ _ z0
              have d0 := (HBW.out.cell (p := ⟨b', o' + j * 3, none⟩) hbl).trans z0
              have d1 := (HBW.out.cell (p := ⟨b', o' + j * 3 + 1, none⟩) hbl).trans z1
              have d2 := (HBW.out.cell (p := ⟨b', o' + j * 3 + 2, none⟩) hbl).trans z2
              have HKX := Kp.mk (fun W hW => HX.out j z W hz hW)
              obtain ⟨zx, zb, zh⟩ := z
              simp only at d0 d1 d2 HKX
              have o2 : (j : Int) < (n : Int) := by omega
              have o5 : j ≤ 20 := by omega
              have HBZ : Kp (Below w5.heap.size w5 (wr.alloc (.cells #[.int .i64 zx, .int .i64 zb, .int .i64 zh] 26))) := ⟨HBB.out.alloc HBB.out.size _⟩
              have HOZ := Kp.mk (HO.out.on (W := wr.alloc (.cells #[.int .i64 zx, .int .i64 zb, .int .i64 zh] 26)) ((Below.refl _ _).alloc (Nat.le_refl _) _))
              clear hz z0 z1 z2 hbl HO
              go_wp2_with fail
              refine (HKX.out _ (HB6.out.trans (HBZ.out.mono HB6.out.size))).mono ?_
              rintro en w7 ⟨rfl, hb7⟩
              have HB7 := Kp.mk (HBZ.out.trans (hb7.mono HBZ.out.size))
              have hoq := HOZ.out.on hb7
              clear hb7 d0 d1 d2 q0 q1 q2 HKX HOZ HBZ hBl
              cases hok : o j with
              | some p =>
                obtain ⟨pc, pr⟩ := p
                have HO6 : Kp (OwnI w7 w5.heap.size u14 (eyI o (j + 1))) := ⟨by rw [eyI_no hok]; exact hoq⟩
                simp only [hidV]
                clear hok hoq
                go_wp2
                go_roundw
                case rel => exact ⟨j + 1, by omega, by go_num, HO6, HB7⟩
                case measure => simp [intOf]; omega
              | none =>
                have HST := Kp.mk (eyI_yes hok)
                simp only [hidV]
                clear hok
                obtain ⟨X2, hX2⟩ : ∃ X2, w7.alloc (.cells #[.int .i64 (j : Int)] 3) = X2 := ⟨_, rfl⟩
                have hbz : Below w7.heap.size w7 X2 := by rw [← hX2]; exact by repeat (first | exact Below.refl _ _ | refine Below.alloc ?_ (by simp <;> omega) _ | refine bDrewN ?_ _ | refine Below.drew ?_)
                have hx3 : X2.cell? ⟨w7.heap.size, 0, none⟩ = some (.int .i64 (j : Int)) := by subst hX2; go_simp
                have ho2 := hoq.on hbz
                obtain ⟨g6, c6, rfl⟩ := ho2.shape
                obtain ⟨g5, c5, w8, hrun, hown, hgrow, hat⟩ := ho2.next hx3 (by have := eyI_le o j; omega) (by have := HB7.out.size; have := hbz.size; omega)
                have hbx : Below w5.heap.size w5 X2 := HB7.out.trans (hbz.mono HB7.out.size)
                have HB8 : Kp (Below w5.heap.size w5 w8) := ⟨hbx.grown hgrow hbx.size (fun i hi => (ho2.block hi).1)⟩
                rw [← HST.out] at hown
                have HO8 := Kp.mk hown
                obtain ⟨m, hm⟩ : ∃ m, (eyI o j).length = m := ⟨_, rfl⟩
                rw [hm] at hrun HO8 ⊢
                rw [← hX2] at hrun
                clear hown hgrow hat hbz hx3 hbx ho2 hX2 hm HST hoq
                go_wp2
                go_roundw
                case rel => exact ⟨j + 1, by omega, by go_num, HO8, HB8⟩
                case measure => simp [intOf]; omega
            · have hjn : j = n := by omega
              subst hjn
              have o2 : ¬ (j : Int) < (j : Int) := by omega
              have HO2 : Kp (IS wr u14 LL) := ⟨by rw [HLV.out]; exact HO.out.is⟩
              obtain ⟨g7, c7, hsh⟩ := HO.out.shape
              obtain ⟨m, hm⟩ : ∃ m, (eyI o j).length = m := ⟨_, rfl⟩
              rw [hm] at hsh
              subst hsh
              clear hm q0 q1 q2 hBl
              go_wp2
              go_ret2
              exact ⟨⟨_, by rw [HEV.out]; rfl, HO2.out⟩, HBW.out⟩
theorem rEyes_any (wd dp : Int) (v u : Value) (L : List Int) (E : List Ey) (x y h : Int) (w : World) (hv : IS w v L) (hl : L.length ≤ 9223372036854775807) (hu : ES w u E) (hm : E.length ≤ 9223372036854775807) :
    Calls Try.prog 40 #[.agg #[.int .i64 wd, .int .i64 dp, v], u, .int .i64 x, .int .i64 y, .int .i64 h] w fun e w' => (∃ r, e = .returned (.tuple #[r, .int .i64 (eyE wd dp L E x y h)]) ∧ IS w' r (eyL wd dp L E x y h)) ∧ Below w.heap.size w w' := by
  have HV : Kp (∀ W, Below w.heap.size w W → Calls Try.prog 17 #[.agg #[.int .i64 wd, .int .i64 dp, v]] W fun e w' => e = .returned (.bool (gdB wd dp L)) ∧ Below W.heap.size W w') := ⟨fun W hW => rValid_any wd dp v L W (hv.below hW) hl⟩
  have HHD : Kp (eyE wd dp L E x y h = 0 → ∀ (i : Nat) (x0 : Ey) W, E[i]? = some x0 → Below w.heap.size w W → Calls Try.prog 66 #[.agg #[.int .i64 wd, .int .i64 dp, v], .agg #[.int .i64 x0.x, .int .i64 x0.b, .int .i64 x0.h], .int .i64 x, .int .i64 y, .int .i64 h] W fun e w' => e = .returned (hidV (eyO wd L E x y h i)) ∧ Below W.heap.size W w') := ⟨fun k i x0 W hi hW => by
    obtain ⟨h1, h2, h3, h4, h5, -⟩ := eyE_zero k
    have hy : (y.toNat : Int) = y := Int.toNat_of_nonneg h4.1
    have := rhider_any wd dp v L x0 x y.toNat h W (hv.below hW) h1 (h2 _ (List.mem_of_getElem? hi)) h3 (by omega) h5
    rw [hy] at this
    unfold eyO
    rw [List.getD_eq_getElem?_getD, hi]
    exact this⟩
  have HE : Kp (eyE wd dp L E x y h = chkE (decide (E.length ≤ 20) && cellB wd dp x y && inB 0 3000 h) (gdB wd dp L) (E.all (eyB wd))) := ⟨rfl⟩
  cases hg : gdB wd dp L with
  | false =>
    rw [hg] at HV HE
    have h1 : eyE wd dp L E x y h = 1 := by rw [HE.out]; unfold chkE; rfl
    have h2 : eyL wd dp L E x y h = [] := by unfold eyL; rw [h1]; rfl
    obtain ⟨g, c, rfl⟩ := hv.shape
    refine (rEyes_bad wd dp x y h g L.length c u w HV).mono ?_
    rintro e w' ⟨rfl, hb⟩
    exact ⟨⟨_, by rw [h1], by rw [h2]; exact is_nil _⟩, hb⟩
  | true =>
    have hg0 := hg
    rw [hg] at HV HE
    have HVE : Kp (∀ W (x0 : Ey), Below w.heap.size w W → Calls Try.prog 19 #[.agg #[.int .i64 wd, .int .i64 dp, v], .agg #[.int .i64 x0.x, .int .i64 x0.b, .int .i64 x0.h]] W fun en w' => en = .returned (.bool (eyB wd x0)) ∧ Below W.heap.size W w') := ⟨fun W x0 hW => by
      have := rValidEye_any wd dp v L x0 W (hv.below hW) hl
      rwa [hg0, Bool.true_and] at this⟩
    have HCE : Kp (∀ W, Calls Try.prog 49 #[.agg #[.int .i64 wd, .int .i64 dp, v], .int .i64 x, .int .i64 y] W fun en w' => en = .returned (.bool (cellB wd dp x y)) ∧ Below W.heap.size W w') := ⟨fun W => rcell_any wd dp v x y W (gdB_iff hg0).1 (gdB_iff hg0).2.1⟩
    obtain ⟨g, c, rfl⟩ := hv.shape
    obtain ⟨g2, c2, rfl, -, hes⟩ := hu
    refine rEyes_st wd dp x y h g g2 L.length c E.length c2 (eyE wd dp L E x y h) (cellB wd dp x y) (inB 0 3000 h) (eyB wd) E (eyO wd L E x y h) (eyL wd dp L E x y h) w HV HVE HCE ⟨fun W => rin_any h 0 3000 W⟩ HHD ⟨rfl, hes⟩ ⟨hm⟩ ⟨?_⟩ ⟨?_⟩
    · rw [HE.out]
      refine ⟨fun ha => by rw [ha]; rfl, fun ha => ?_⟩
      rw [ha]
      refine ⟨fun h1 h2 h3 => by rw [decide_eq_true h1, h2, h3]; rfl, fun h1 h2 h3 => by rw [decide_eq_true h1, h2, h3]; rfl, fun h1 h2 => by rw [decide_eq_true h1, h2]; rfl, fun h1 => by rw [decide_eq_false h1]; rfl⟩
    · exact ⟨fun k => by unfold eyL; rw [if_pos k], fun k => by unfold eyL; rw [if_neg k]⟩
end Go.Proofs.Ytjnggchljilooaa.Sc
