/-
  WALKS (layer 7, scene): eyes, cells, points and fractions, by the reference.
-/
import Derived.Test.YtjnggchljilooaaScRefA
namespace Go.Proofs.Ytjnggchljilooaa.Sc
open Go Go.RowKit Go.Sort

theorem rValidEye_any (wd dp : Int) (v : Value) (L : List Int) (e : Ey) (w : World) (hv : IS w v L) (hl : L.length ≤ 9223372036854775807) : Calls Try.prog 19 #[.agg #[.int .i64 wd, .int .i64 dp, v], .agg #[.int .i64 e.x, .int .i64 e.b, .int .i64 e.h]] w fun en w' => en = .returned (.bool (gdB wd dp L && eyB wd e)) ∧ Below w.heap.size w w' := by
  have HV : Kp (∀ W, Below w.heap.size w W → Calls Try.prog 17 #[.agg #[.int .i64 wd, .int .i64 dp, v]] W fun e w' => e = .returned (.bool (gdB wd dp L)) ∧ Below W.heap.size W w') := ⟨fun W hW => rValid_any wd dp v L W (hv.below hW) hl⟩
  have HI : Kp (∀ W n lo hi, Calls Try.prog 53 #[.int .i64 n, .int .i64 lo, .int .i64 hi] W fun e w' => e = .returned (.bool (inB lo hi n)) ∧ W = w') := ⟨fun W n lo hi => rin_any n lo hi W⟩
  have HE : Kp (eyB wd e = (inB 0 (wd - 1) e.x && (inB 1 100 e.b && inB 0 2000 e.h))) := ⟨rfl⟩
  have HWR : Kp (gdB wd dp L = true → IntKind.i64.wrap (wd - 1) = wd - 1) := ⟨fun h => wrap_less (gdB_iff h).1.1 (gdB_iff h).1.2⟩
  rw [HE.out]
  obtain ⟨g, c, rfl⟩ := hv.shape
  obtain ⟨ex, eb, eh⟩ := e
  simp only
  have HX := Kp.mk (fun W => HI.out W ex 0 (wd - 1))
  have HB := Kp.mk (fun W => HI.out W eb 1 100)
  have HH := Kp.mk (fun W => HI.out W eh 0 2000)
  obtain ⟨G, hG⟩ : ∃ b, gdB wd dp L = b := ⟨_, rfl⟩
  obtain ⟨A, hA⟩ : ∃ b, inB 0 (wd - 1) ex = b := ⟨_, rfl⟩
  obtain ⟨Q, hQ⟩ : ∃ b, inB 1 100 eb = b := ⟨_, rfl⟩
  obtain ⟨R, hR⟩ : ∃ b, inB 0 2000 eh = b := ⟨_, rfl⟩
  obtain ⟨N, hN⟩ : ∃ N, L.length = N := ⟨_, rfl⟩
  rw [hG, hN] at HV
  rw [hG] at HWR
  rw [hA] at HX
  rw [hQ] at HB
  rw [hR] at HH
  rw [hG, hA, hQ, hR, hN]
  clear hv hl hG hA hQ hR hN HI HE
  cases G
  case false =>
    go_enter Try.func19, Try.ntmps19
    go_wp2_with fail
    refine (HV.out _ (by repeat (first | exact Below.refl _ _ | refine Below.alloc ?_ (by simp <;> omega) _ | refine bDrewN ?_ _ | refine Below.drew ?_))).mono ?_
    rintro en w1 ⟨rfl, hb1⟩
    have HB1 : Kp (Below w.heap.size w w1) := ⟨Below.trans (by repeat (first | refine Below.alloc ?_ (by (try simp) <;> omega) _ | refine bDrewN ?_ _ | refine Below.drew ?_ | refine Below.setCell ?_ (by (try simp) <;> omega) _ | exact Below.refl _ _)) (hb1.mono (by (try simp) <;> omega))⟩
    have hz1_0 : w.heap.size < w1.heap.size := by have := hb1.size; (try simp at this); omega
    have hz1_1 : w.heap.size + 1 < w1.heap.size := by have := hb1.size; (try simp at this); omega
    obtain ⟨hc, hf⟩ := bcell hb1
    have c1_0_0 : w1.cell? ⟨w.heap.size, 0, none⟩ = some (.int .i64 wd) := (hc _ _ (by (try simp) <;> omega)).trans (by go_simp)
    have c1_0_1 : w1.cell? ⟨w.heap.size, 1, none⟩ = some (.int .i64 dp) := (hc _ _ (by (try simp) <;> omega)).trans (by go_simp)
    have c1_0_2 : w1.cell? ⟨w.heap.size, 2, none⟩ = some ((.slice g N c)) := (hc _ _ (by (try simp) <;> omega)).trans (by go_simp)
    have z1_0 : ∀ j, w1.frozen? ⟨w.heap.size, j, none⟩ = false := fun j => (hf _ _ (by (try simp) <;> omega)).trans (by go_simp)
    have c1_1_0 : w1.cell? ⟨w.heap.size + 1, 0, none⟩ = some (.int .i64 ex) := (hc _ _ (by (try simp) <;> omega)).trans (by go_simp)
    have c1_1_1 : w1.cell? ⟨w.heap.size + 1, 1, none⟩ = some (.int .i64 eb) := (hc _ _ (by (try simp) <;> omega)).trans (by go_simp)
    have c1_1_2 : w1.cell? ⟨w.heap.size + 1, 2, none⟩ = some (.int .i64 eh) := (hc _ _ (by (try simp) <;> omega)).trans (by go_simp)
    have z1_1 : ∀ j, w1.frozen? ⟨w.heap.size + 1, j, none⟩ = false := fun j => (hf _ _ (by (try simp) <;> omega)).trans (by go_simp)
    clear hc hf hb1
    go_wp2
    go_ret
    exact ⟨by first | rfl | simp, HB1.out⟩
  case true =>
  have e1 := HWR.out rfl
  clear HWR
  cases A
  case false =>
    go_enter Try.func19, Try.ntmps19
    go_wp2_with fail
    refine (HV.out _ (by repeat (first | exact Below.refl _ _ | refine Below.alloc ?_ (by simp <;> omega) _ | refine bDrewN ?_ _ | refine Below.drew ?_))).mono ?_
    rintro en w1 ⟨rfl, hb1⟩
    have HB1 : Kp (Below w.heap.size w w1) := ⟨Below.trans (by repeat (first | refine Below.alloc ?_ (by (try simp) <;> omega) _ | refine bDrewN ?_ _ | refine Below.drew ?_ | refine Below.setCell ?_ (by (try simp) <;> omega) _ | exact Below.refl _ _)) (hb1.mono (by (try simp) <;> omega))⟩
    have hz1_0 : w.heap.size < w1.heap.size := by have := hb1.size; (try simp at this); omega
    have hz1_1 : w.heap.size + 1 < w1.heap.size := by have := hb1.size; (try simp at this); omega
    obtain ⟨hc, hf⟩ := bcell hb1
    have c1_0_0 : w1.cell? ⟨w.heap.size, 0, none⟩ = some (.int .i64 wd) := (hc _ _ (by (try simp) <;> omega)).trans (by go_simp)
    have c1_0_1 : w1.cell? ⟨w.heap.size, 1, none⟩ = some (.int .i64 dp) := (hc _ _ (by (try simp) <;> omega)).trans (by go_simp)
    have c1_0_2 : w1.cell? ⟨w.heap.size, 2, none⟩ = some ((.slice g N c)) := (hc _ _ (by (try simp) <;> omega)).trans (by go_simp)
    have z1_0 : ∀ j, w1.frozen? ⟨w.heap.size, j, none⟩ = false := fun j => (hf _ _ (by (try simp) <;> omega)).trans (by go_simp)
    have c1_1_0 : w1.cell? ⟨w.heap.size + 1, 0, none⟩ = some (.int .i64 ex) := (hc _ _ (by (try simp) <;> omega)).trans (by go_simp)
    have c1_1_1 : w1.cell? ⟨w.heap.size + 1, 1, none⟩ = some (.int .i64 eb) := (hc _ _ (by (try simp) <;> omega)).trans (by go_simp)
    have c1_1_2 : w1.cell? ⟨w.heap.size + 1, 2, none⟩ = some (.int .i64 eh) := (hc _ _ (by (try simp) <;> omega)).trans (by go_simp)
    have z1_1 : ∀ j, w1.frozen? ⟨w.heap.size + 1, j, none⟩ = false := fun j => (hf _ _ (by (try simp) <;> omega)).trans (by go_simp)
    clear hc hf hb1
    go_wp2_with fail
    refine (HX.out _).mono ?_
    rintro en w2 ⟨rfl, rfl⟩
    go_wp2
    go_ret
    exact ⟨by first | rfl | simp, HB1.out⟩
  case true =>
  cases Q
  case false =>
    go_enter Try.func19, Try.ntmps19
    go_wp2_with fail
    refine (HV.out _ (by repeat (first | exact Below.refl _ _ | refine Below.alloc ?_ (by simp <;> omega) _ | refine bDrewN ?_ _ | refine Below.drew ?_))).mono ?_
    rintro en w1 ⟨rfl, hb1⟩
    have HB1 : Kp (Below w.heap.size w w1) := ⟨Below.trans (by repeat (first | refine Below.alloc ?_ (by (try simp) <;> omega) _ | refine bDrewN ?_ _ | refine Below.drew ?_ | refine Below.setCell ?_ (by (try simp) <;> omega) _ | exact Below.refl _ _)) (hb1.mono (by (try simp) <;> omega))⟩
    have hz1_0 : w.heap.size < w1.heap.size := by have := hb1.size; (try simp at this); omega
    have hz1_1 : w.heap.size + 1 < w1.heap.size := by have := hb1.size; (try simp at this); omega
    obtain ⟨hc, hf⟩ := bcell hb1
    have c1_0_0 : w1.cell? ⟨w.heap.size, 0, none⟩ = some (.int .i64 wd) := (hc _ _ (by (try simp) <;> omega)).trans (by go_simp)
    have c1_0_1 : w1.cell? ⟨w.heap.size, 1, none⟩ = some (.int .i64 dp) := (hc _ _ (by (try simp) <;> omega)).trans (by go_simp)
    have c1_0_2 : w1.cell? ⟨w.heap.size, 2, none⟩ = some ((.slice g N c)) := (hc _ _ (by (try simp) <;> omega)).trans (by go_simp)
    have z1_0 : ∀ j, w1.frozen? ⟨w.heap.size, j, none⟩ = false := fun j => (hf _ _ (by (try simp) <;> omega)).trans (by go_simp)
    have c1_1_0 : w1.cell? ⟨w.heap.size + 1, 0, none⟩ = some (.int .i64 ex) := (hc _ _ (by (try simp) <;> omega)).trans (by go_simp)
    have c1_1_1 : w1.cell? ⟨w.heap.size + 1, 1, none⟩ = some (.int .i64 eb) := (hc _ _ (by (try simp) <;> omega)).trans (by go_simp)
    have c1_1_2 : w1.cell? ⟨w.heap.size + 1, 2, none⟩ = some (.int .i64 eh) := (hc _ _ (by (try simp) <;> omega)).trans (by go_simp)
    have z1_1 : ∀ j, w1.frozen? ⟨w.heap.size + 1, j, none⟩ = false := fun j => (hf _ _ (by (try simp) <;> omega)).trans (by go_simp)
    clear hc hf hb1
    go_wp2_with fail
    refine (HX.out _).mono ?_
    rintro en w2 ⟨rfl, rfl⟩
    go_wp2_with fail
    refine (HB.out _).mono ?_
    rintro en w2 ⟨rfl, rfl⟩
    go_wp2
    go_ret
    exact ⟨by first | rfl | simp, HB1.out⟩
  case true =>
    go_enter Try.func19, Try.ntmps19
    go_wp2_with fail
    refine (HV.out _ (by repeat (first | exact Below.refl _ _ | refine Below.alloc ?_ (by simp <;> omega) _ | refine bDrewN ?_ _ | refine Below.drew ?_))).mono ?_
    rintro en w1 ⟨rfl, hb1⟩
    have HB1 : Kp (Below w.heap.size w w1) := ⟨Below.trans (by repeat (first | refine Below.alloc ?_ (by (try simp) <;> omega) _ | refine bDrewN ?_ _ | refine Below.drew ?_ | refine Below.setCell ?_ (by (try simp) <;> omega) _ | exact Below.refl _ _)) (hb1.mono (by (try simp) <;> omega))⟩
    have hz1_0 : w.heap.size < w1.heap.size := by have := hb1.size; (try simp at this); omega
    have hz1_1 : w.heap.size + 1 < w1.heap.size := by have := hb1.size; (try simp at this); omega
    obtain ⟨hc, hf⟩ := bcell hb1
    have c1_0_0 : w1.cell? ⟨w.heap.size, 0, none⟩ = some (.int .i64 wd) := (hc _ _ (by (try simp) <;> omega)).trans (by go_simp)
    have c1_0_1 : w1.cell? ⟨w.heap.size, 1, none⟩ = some (.int .i64 dp) := (hc _ _ (by (try simp) <;> omega)).trans (by go_simp)
    have c1_0_2 : w1.cell? ⟨w.heap.size, 2, none⟩ = some ((.slice g N c)) := (hc _ _ (by (try simp) <;> omega)).trans (by go_simp)
    have z1_0 : ∀ j, w1.frozen? ⟨w.heap.size, j, none⟩ = false := fun j => (hf _ _ (by (try simp) <;> omega)).trans (by go_simp)
    have c1_1_0 : w1.cell? ⟨w.heap.size + 1, 0, none⟩ = some (.int .i64 ex) := (hc _ _ (by (try simp) <;> omega)).trans (by go_simp)
    have c1_1_1 : w1.cell? ⟨w.heap.size + 1, 1, none⟩ = some (.int .i64 eb) := (hc _ _ (by (try simp) <;> omega)).trans (by go_simp)
    have c1_1_2 : w1.cell? ⟨w.heap.size + 1, 2, none⟩ = some (.int .i64 eh) := (hc _ _ (by (try simp) <;> omega)).trans (by go_simp)
    have z1_1 : ∀ j, w1.frozen? ⟨w.heap.size + 1, j, none⟩ = false := fun j => (hf _ _ (by (try simp) <;> omega)).trans (by go_simp)
    clear hc hf hb1
    go_wp2_with fail
    refine (HX.out _).mono ?_
    rintro en w2 ⟨rfl, rfl⟩
    go_wp2_with fail
    refine (HB.out _).mono ?_
    rintro en w2 ⟨rfl, rfl⟩
    go_wp2_with fail
    refine (HH.out _).mono ?_
    rintro en w2 ⟨rfl, rfl⟩
    go_wp2
    go_ret
    exact ⟨by first | rfl | simp, HB1.out⟩
theorem rcell_any (wd dp : Int) (v : Value) (x y : Int) (w : World) (hw : 1 ≤ wd ∧ wd ≤ 24) (hd : 1 ≤ dp ∧ dp ≤ 24) : Calls Try.prog 49 #[.agg #[.int .i64 wd, .int .i64 dp, v], .int .i64 x, .int .i64 y] w fun e w' => e = .returned (.bool (cellB wd dp x y)) ∧ Below w.heap.size w w' := by
  have HI : Kp (∀ W n lo hi, Calls Try.prog 53 #[.int .i64 n, .int .i64 lo, .int .i64 hi] W fun e w' => e = .returned (.bool (inB lo hi n)) ∧ W = w') := ⟨fun W n lo hi => rin_any n lo hi W⟩
  have e1 := wrap_less hw.1 hw.2
  have e2 := wrap_less hd.1 hd.2
  have HC : Kp (cellB wd dp x y = (inB 0 (wd - 1) x && inB 0 (dp - 1) y)) := ⟨by unfold cellB rowB; rw [e1, e2]⟩
  have HX := Kp.mk (fun W => HI.out W x 0 (wd - 1))
  have HY := Kp.mk (fun W => HI.out W y 0 (dp - 1))
  rw [HC.out]
  obtain ⟨A, hA⟩ : ∃ b, inB 0 (wd - 1) x = b := ⟨_, rfl⟩
  rw [hA] at HX ⊢
  clear hA hw hd HI HC
  cases A with
  | false =>
    go_enter Try.func49, Try.ntmps49
    go_wp2_with fail
    refine (HX.out _).mono ?_
    rintro en w2 ⟨rfl, rfl⟩
    go_wp2
    go_ret
    exact ⟨rfl, by repeat (first | exact Below.refl _ _ | refine Below.alloc ?_ (by simp <;> omega) _ | refine bDrewN ?_ _ | refine Below.drew ?_)⟩
  | true =>
    go_enter Try.func49, Try.ntmps49
    go_wp2_with fail
    refine (HX.out _).mono ?_
    rintro en w2 ⟨rfl, rfl⟩
    go_wp2_with fail
    refine (HY.out _).mono ?_
    rintro en w2 ⟨rfl, rfl⟩
    go_wp2
    go_ret
    exact ⟨by first | rfl | simp, by repeat (first | exact Below.refl _ _ | refine Below.alloc ?_ (by simp <;> omega) _ | refine bDrewN ?_ _ | refine Below.drew ?_)⟩
theorem rasked_any (wd dp : Int) (v : Value) (L : List Int) (e : Ey) (x y h : Int) (w : World) (hv : IS w v L) (hl : L.length ≤ 9223372036854775807) : Calls Try.prog 64 #[.agg #[.int .i64 wd, .int .i64 dp, v], .agg #[.int .i64 e.x, .int .i64 e.b, .int .i64 e.h], .int .i64 x, .int .i64 y, .int .i64 h] w fun en w' => en = .returned (.int .i64 (askE wd dp L e x y h)) ∧ Below w.heap.size w w' := by
  have HV : Kp (∀ W, Below w.heap.size w W → Calls Try.prog 19 #[.agg #[.int .i64 wd, .int .i64 dp, v], .agg #[.int .i64 e.x, .int .i64 e.b, .int .i64 e.h]] W fun en w' => en = .returned (.bool (gdB wd dp L && eyB wd e)) ∧ Below W.heap.size W w') := ⟨fun W hW => rValidEye_any wd dp v L e W (hv.below hW) hl⟩
  have HC : Kp ((gdB wd dp L && eyB wd e) = true → ∀ W, Calls Try.prog 49 #[.agg #[.int .i64 wd, .int .i64 dp, v], .int .i64 x, .int .i64 y] W fun en w' => en = .returned (.bool (cellB wd dp x y)) ∧ Below W.heap.size W w') := ⟨fun hg W => by
    rw [Bool.and_eq_true] at hg
    exact rcell_any wd dp v x y W (gdB_iff hg.1).1 (gdB_iff hg.1).2.1⟩
  have HH : Kp (∀ W, Calls Try.prog 53 #[.int .i64 h, .int .i64 0, .int .i64 3000] W fun e w' => e = .returned (.bool (inB 0 3000 h)) ∧ W = w') := ⟨fun W => rin_any h 0 3000 W⟩
  have HA : Kp (askE wd dp L e x y h = if (gdB wd dp L && eyB wd e) = true then if (cellB wd dp x y && inB 0 3000 h) = true then 0 else 7 else 1) := ⟨rfl⟩
  obtain ⟨g, c, rfl⟩ := hv.shape
  obtain ⟨ex, eb, eh⟩ := e
  simp only at HV
  rw [HA.out]
  obtain ⟨G, hG⟩ : ∃ b, (gdB wd dp L && eyB wd ⟨ex, eb, eh⟩) = b := ⟨_, rfl⟩
  obtain ⟨A, hA⟩ : ∃ b, cellB wd dp x y = b := ⟨_, rfl⟩
  obtain ⟨Q, hQ⟩ : ∃ b, inB 0 3000 h = b := ⟨_, rfl⟩
  obtain ⟨N, hN⟩ : ∃ N, L.length = N := ⟨_, rfl⟩
  rw [hG, hN] at HV
  rw [hG, hA, hN] at HC
  rw [hQ] at HH
  rw [hG, hA, hQ, hN]
  clear hv hl hG hA hQ hN HA
  cases G
  case false =>
    go_enter Try.func64, Try.ntmps64
    go_wp2_with fail
    refine (HV.out _ (by repeat (first | exact Below.refl _ _ | refine Below.alloc ?_ (by simp <;> omega) _ | refine bDrewN ?_ _ | refine Below.drew ?_))).mono ?_
    rintro en w1 ⟨rfl, hb1⟩
    have HB1 : Kp (Below w.heap.size w w1) := ⟨Below.trans (by repeat (first | refine Below.alloc ?_ (by (try simp) <;> omega) _ | refine bDrewN ?_ _ | refine Below.drew ?_ | refine Below.setCell ?_ (by (try simp) <;> omega) _ | exact Below.refl _ _)) (hb1.mono (by (try simp) <;> omega))⟩
    have hz1_0 : w.heap.size < w1.heap.size := by have := hb1.size; (try simp at this); omega
    have hz1_1 : w.heap.size + 1 < w1.heap.size := by have := hb1.size; (try simp at this); omega
    obtain ⟨hc, hf⟩ := bcell hb1
    have c1_0_0 : w1.cell? ⟨w.heap.size, 0, none⟩ = some (.int .i64 wd) := (hc _ _ (by (try simp) <;> omega)).trans (by go_simp)
    have c1_0_1 : w1.cell? ⟨w.heap.size, 1, none⟩ = some (.int .i64 dp) := (hc _ _ (by (try simp) <;> omega)).trans (by go_simp)
    have c1_0_2 : w1.cell? ⟨w.heap.size, 2, none⟩ = some ((.slice g N c)) := (hc _ _ (by (try simp) <;> omega)).trans (by go_simp)
    have z1_0 : ∀ j, w1.frozen? ⟨w.heap.size, j, none⟩ = false := fun j => (hf _ _ (by (try simp) <;> omega)).trans (by go_simp)
    have c1_1_0 : w1.cell? ⟨w.heap.size + 1, 0, none⟩ = some (.int .i64 ex) := (hc _ _ (by (try simp) <;> omega)).trans (by go_simp)
    have c1_1_1 : w1.cell? ⟨w.heap.size + 1, 1, none⟩ = some (.int .i64 eb) := (hc _ _ (by (try simp) <;> omega)).trans (by go_simp)
    have c1_1_2 : w1.cell? ⟨w.heap.size + 1, 2, none⟩ = some (.int .i64 eh) := (hc _ _ (by (try simp) <;> omega)).trans (by go_simp)
    have z1_1 : ∀ j, w1.frozen? ⟨w.heap.size + 1, j, none⟩ = false := fun j => (hf _ _ (by (try simp) <;> omega)).trans (by go_simp)
    clear hc hf hb1
    go_wp2
    go_ret
    exact ⟨by first | rfl | simp, HB1.out⟩
  case true =>
  have HCX := Kp.mk (HC.out rfl)
  clear HC
  cases A
  case false =>
    go_enter Try.func64, Try.ntmps64
    go_wp2_with fail
    refine (HV.out _ (by repeat (first | exact Below.refl _ _ | refine Below.alloc ?_ (by simp <;> omega) _ | refine bDrewN ?_ _ | refine Below.drew ?_))).mono ?_
    rintro en w1 ⟨rfl, hb1⟩
    have HB1 : Kp (Below w.heap.size w w1) := ⟨Below.trans (by repeat (first | refine Below.alloc ?_ (by (try simp) <;> omega) _ | refine bDrewN ?_ _ | refine Below.drew ?_ | refine Below.setCell ?_ (by (try simp) <;> omega) _ | exact Below.refl _ _)) (hb1.mono (by (try simp) <;> omega))⟩
    have hz1_0 : w.heap.size < w1.heap.size := by have := hb1.size; (try simp at this); omega
    have hz1_1 : w.heap.size + 1 < w1.heap.size := by have := hb1.size; (try simp at this); omega
    obtain ⟨hc, hf⟩ := bcell hb1
    have c1_0_0 : w1.cell? ⟨w.heap.size, 0, none⟩ = some (.int .i64 wd) := (hc _ _ (by (try simp) <;> omega)).trans (by go_simp)
    have c1_0_1 : w1.cell? ⟨w.heap.size, 1, none⟩ = some (.int .i64 dp) := (hc _ _ (by (try simp) <;> omega)).trans (by go_simp)
    have c1_0_2 : w1.cell? ⟨w.heap.size, 2, none⟩ = some ((.slice g N c)) := (hc _ _ (by (try simp) <;> omega)).trans (by go_simp)
    have z1_0 : ∀ j, w1.frozen? ⟨w.heap.size, j, none⟩ = false := fun j => (hf _ _ (by (try simp) <;> omega)).trans (by go_simp)
    have c1_1_0 : w1.cell? ⟨w.heap.size + 1, 0, none⟩ = some (.int .i64 ex) := (hc _ _ (by (try simp) <;> omega)).trans (by go_simp)
    have c1_1_1 : w1.cell? ⟨w.heap.size + 1, 1, none⟩ = some (.int .i64 eb) := (hc _ _ (by (try simp) <;> omega)).trans (by go_simp)
    have c1_1_2 : w1.cell? ⟨w.heap.size + 1, 2, none⟩ = some (.int .i64 eh) := (hc _ _ (by (try simp) <;> omega)).trans (by go_simp)
    have z1_1 : ∀ j, w1.frozen? ⟨w.heap.size + 1, j, none⟩ = false := fun j => (hf _ _ (by (try simp) <;> omega)).trans (by go_simp)
    clear hc hf hb1
    go_wp2_with fail
    refine (HCX.out _).mono ?_
    rintro en w2 ⟨rfl, hb2⟩
    have HB2 := Kp.mk (HB1.out.trans (hb2.mono HB1.out.size))
    clear hb2
    go_wp2
    go_ret
    exact ⟨by first | rfl | simp, HB2.out⟩
  case true =>
  cases Q
  case false =>
    go_enter Try.func64, Try.ntmps64
    go_wp2_with fail
    refine (HV.out _ (by repeat (first | exact Below.refl _ _ | refine Below.alloc ?_ (by simp <;> omega) _ | refine bDrewN ?_ _ | refine Below.drew ?_))).mono ?_
    rintro en w1 ⟨rfl, hb1⟩
    have HB1 : Kp (Below w.heap.size w w1) := ⟨Below.trans (by repeat (first | refine Below.alloc ?_ (by (try simp) <;> omega) _ | refine bDrewN ?_ _ | refine Below.drew ?_ | refine Below.setCell ?_ (by (try simp) <;> omega) _ | exact Below.refl _ _)) (hb1.mono (by (try simp) <;> omega))⟩
    have hz1_0 : w.heap.size < w1.heap.size := by have := hb1.size; (try simp at this); omega
    have hz1_1 : w.heap.size + 1 < w1.heap.size := by have := hb1.size; (try simp at this); omega
    obtain ⟨hc, hf⟩ := bcell hb1
    have c1_0_0 : w1.cell? ⟨w.heap.size, 0, none⟩ = some (.int .i64 wd) := (hc _ _ (by (try simp) <;> omega)).trans (by go_simp)
    have c1_0_1 : w1.cell? ⟨w.heap.size, 1, none⟩ = some (.int .i64 dp) := (hc _ _ (by (try simp) <;> omega)).trans (by go_simp)
    have c1_0_2 : w1.cell? ⟨w.heap.size, 2, none⟩ = some ((.slice g N c)) := (hc _ _ (by (try simp) <;> omega)).trans (by go_simp)
    have z1_0 : ∀ j, w1.frozen? ⟨w.heap.size, j, none⟩ = false := fun j => (hf _ _ (by (try simp) <;> omega)).trans (by go_simp)
    have c1_1_0 : w1.cell? ⟨w.heap.size + 1, 0, none⟩ = some (.int .i64 ex) := (hc _ _ (by (try simp) <;> omega)).trans (by go_simp)
    have c1_1_1 : w1.cell? ⟨w.heap.size + 1, 1, none⟩ = some (.int .i64 eb) := (hc _ _ (by (try simp) <;> omega)).trans (by go_simp)
    have c1_1_2 : w1.cell? ⟨w.heap.size + 1, 2, none⟩ = some (.int .i64 eh) := (hc _ _ (by (try simp) <;> omega)).trans (by go_simp)
    have z1_1 : ∀ j, w1.frozen? ⟨w.heap.size + 1, j, none⟩ = false := fun j => (hf _ _ (by (try simp) <;> omega)).trans (by go_simp)
    clear hc hf hb1
    go_wp2_with fail
    refine (HCX.out _).mono ?_
    rintro en w2 ⟨rfl, hb2⟩
    have HB2 := Kp.mk (HB1.out.trans (hb2.mono HB1.out.size))
    clear hb2
    go_wp2_with fail
    refine (HH.out _).mono ?_
    rintro en w2 ⟨rfl, rfl⟩
    go_wp2
    go_ret
    exact ⟨by first | rfl | simp, HB2.out⟩
  case true =>
    go_enter Try.func64, Try.ntmps64
    go_wp2_with fail
    refine (HV.out _ (by repeat (first | exact Below.refl _ _ | refine Below.alloc ?_ (by simp <;> omega) _ | refine bDrewN ?_ _ | refine Below.drew ?_))).mono ?_
    rintro en w1 ⟨rfl, hb1⟩
    have HB1 : Kp (Below w.heap.size w w1) := ⟨Below.trans (by repeat (first | refine Below.alloc ?_ (by (try simp) <;> omega) _ | refine bDrewN ?_ _ | refine Below.drew ?_ | refine Below.setCell ?_ (by (try simp) <;> omega) _ | exact Below.refl _ _)) (hb1.mono (by (try simp) <;> omega))⟩
    have hz1_0 : w.heap.size < w1.heap.size := by have := hb1.size; (try simp at this); omega
    have hz1_1 : w.heap.size + 1 < w1.heap.size := by have := hb1.size; (try simp at this); omega
    obtain ⟨hc, hf⟩ := bcell hb1
    have c1_0_0 : w1.cell? ⟨w.heap.size, 0, none⟩ = some (.int .i64 wd) := (hc _ _ (by (try simp) <;> omega)).trans (by go_simp)
    have c1_0_1 : w1.cell? ⟨w.heap.size, 1, none⟩ = some (.int .i64 dp) := (hc _ _ (by (try simp) <;> omega)).trans (by go_simp)
    have c1_0_2 : w1.cell? ⟨w.heap.size, 2, none⟩ = some ((.slice g N c)) := (hc _ _ (by (try simp) <;> omega)).trans (by go_simp)
    have z1_0 : ∀ j, w1.frozen? ⟨w.heap.size, j, none⟩ = false := fun j => (hf _ _ (by (try simp) <;> omega)).trans (by go_simp)
    have c1_1_0 : w1.cell? ⟨w.heap.size + 1, 0, none⟩ = some (.int .i64 ex) := (hc _ _ (by (try simp) <;> omega)).trans (by go_simp)
    have c1_1_1 : w1.cell? ⟨w.heap.size + 1, 1, none⟩ = some (.int .i64 eb) := (hc _ _ (by (try simp) <;> omega)).trans (by go_simp)
    have c1_1_2 : w1.cell? ⟨w.heap.size + 1, 2, none⟩ = some (.int .i64 eh) := (hc _ _ (by (try simp) <;> omega)).trans (by go_simp)
    have z1_1 : ∀ j, w1.frozen? ⟨w.heap.size + 1, j, none⟩ = false := fun j => (hf _ _ (by (try simp) <;> omega)).trans (by go_simp)
    clear hc hf hb1
    go_wp2_with fail
    refine (HCX.out _).mono ?_
    rintro en w2 ⟨rfl, hb2⟩
    have HB2 := Kp.mk (HB1.out.trans (hb2.mono HB1.out.size))
    clear hb2
    go_wp2_with fail
    refine (HH.out _).mono ?_
    rintro en w2 ⟨rfl, rfl⟩
    go_wp2
    go_ret
    exact ⟨by first | rfl | simp, HB2.out⟩
set_option maxRecDepth 100000 in
set_option maxHeartbeats 1000000 in
theorem rratio_any (n d : Nat) (w : World) (hn : n ≤ 100000000) (hd : d ≤ 100000000) (h0 : 0 < d) :
    Calls Try.prog 73 #[.int .i64 n, .int .i64 d] w fun e w' => e = .returned (.agg #[.int .i64 (n / Nat.gcd n d : Nat), .int .i64 (d / Nat.gcd n d : Nat)]) ∧ Below w.heap.size w w' := by
  have HG : Kp (0 < Nat.gcd n d ∧ n / Nat.gcd n d ≤ 100000000 ∧ d / Nat.gcd n d ≤ 100000000) := ⟨Nat.gcd_pos_of_pos_right _ h0, Nat.le_trans (Nat.div_le_self _ _) hn, Nat.le_trans (Nat.div_le_self _ _) hd⟩
  have HH : Kp (n ≤ 100000000 ∧ d ≤ 100000000 ∧ 0 < d) := ⟨hn, hd, h0⟩
  clear hn hd h0
  go_enter Try.func73, Try.ntmps73
  go_wp2
  obtain ⟨W1, hW1⟩ : ∃ W, w.alloc (.cells #[.int .i64 0, .int .i64 0] 59) = W := ⟨_, rfl⟩
  have hb1 : Below w.heap.size w W1 ∧ W1.heap.size = w.heap.size + 1 ∧ (∀ j, W1.frozen? ⟨w.heap.size, j, none⟩ = false) ∧ W1.cell? ⟨w.heap.size, 0, none⟩ = some (.int .i64 0) ∧ W1.cell? ⟨w.heap.size, 1, none⟩ = some (.int .i64 0) := by
    subst hW1
    exact ⟨by repeat (first | exact Below.refl _ _ | refine Below.alloc ?_ (by simp <;> omega) _ | refine bDrewN ?_ _ | refine Below.drew ?_), by simp, fun j => by go_simp, by go_simp, by go_simp⟩
  have HB1 := Kp.mk hb1
  rw [hW1]
  clear hW1 hb1
  go_loopw [5, 6] (fun a b wr => ∃ x y : Nat, a = .int .i64 x ∧ b = .int .i64 y ∧ Kp (Nat.gcd x y = Nat.gcd n d ∧ x ≤ 100000000 ∧ y ≤ 100000000) ∧ Kp (Below W1.heap.size W1 wr)) (fun _ b _ => (intOf b).toNat)
  case atStart => exact ⟨n, d, rfl, rfl, ⟨rfl, HH.out.1, HH.out.2.1⟩, ⟨Below.refl _ _⟩⟩
  case round =>
    obtain ⟨x, y, rfl, rfl, HX, HW⟩ := hrel
    have hz : w.heap.size < W1.heap.size := by have := HB1.out.2.1; omega
    by_cases hlt : 0 < y
    · have o1 : (0 : Int) < (y : Int) := by omega
      have o2 : ¬ (y : Int) = 0 := by omega
      have e1 : IntKind.i64.wrap (((x : Int)).tmod (y : Int)) = ((x % y : Nat) : Int) := by
        rw [Int.tmod_eq_emod_of_nonneg (by omega), ← Int.natCast_emod]
        exact IntWalk.i64_in _ (by have := Nat.mod_le x y; have := HX.out; omega)
      have e2 : ((x : Int)).tmod (y : Int) = ((x % y : Nat) : Int) := by rw [Int.tmod_eq_emod_of_nonneg (by omega), ← Int.natCast_emod]
      have HX2 : Kp (Nat.gcd y (x % y) = Nat.gcd n d ∧ y ≤ 100000000 ∧ x % y ≤ 100000000) := ⟨(gcd_step hlt).trans HX.out.1, HX.out.2.2, Nat.le_trans (Nat.mod_le _ _) HX.out.2.1⟩
      have HM := Kp.mk (Nat.mod_lt x hlt)
      clear hlt
      go_wp2
      go_region
      all_goals
        go_wp2
        exact ⟨⟨y, x % y, rfl, by rw [Int.natCast_emod], HX2, ⟨Below.drew HW.out⟩⟩, by
          show ((x : Int) % (y : Int)).toNat < ((y : Int)).toNat
          rw [← Int.natCast_emod, Int.toNat_natCast, Int.toNat_natCast]
          exact HM.out⟩
    · obtain rfl : y = 0 := by omega
      have hx : x = Nat.gcd n d := by have := HX.out.1; rwa [Nat.gcd_zero_right] at this
      have HXG := Kp.mk hx
      have hx0 : 0 < x := by rw [hx]; exact HG.out.1
      have n0 : ¬ (x : Int) = 0 := by omega
      have e3 : ((n : Int)).tdiv (x : Int) = ((n / x : Nat) : Int) := by rw [Int.tdiv_eq_ediv_of_nonneg (by omega), ← Int.natCast_ediv]
      have e4 : ((d : Int)).tdiv (x : Int) = ((d / x : Nat) : Int) := by rw [Int.tdiv_eq_ediv_of_nonneg (by omega), ← Int.natCast_ediv]
      have hA1 : n / x ≤ 100000000 := Nat.le_trans (Nat.div_le_self _ _) HH.out.1
      have hD1 : d / x ≤ 100000000 := Nat.le_trans (Nat.div_le_self _ _) HH.out.2.1
      have HRS : Kp (n / Nat.gcd n d = n / x ∧ d / Nat.gcd n d = d / x) := ⟨by rw [hx]; exact ⟨rfl, rfl⟩⟩
      obtain ⟨A, hA⟩ : ∃ A, n / x = A := ⟨_, rfl⟩
      obtain ⟨D, hD⟩ : ∃ A, d / x = A := ⟨_, rfl⟩
      rw [hA] at e3 hA1 HRS
      rw [hD] at e4 hD1 HRS
      have e5 : IntKind.i64.wrap (A : Int) = (A : Int) := IntWalk.i64_in _ (by omega)
      have e6 : IntKind.i64.wrap (D : Int) = (D : Int) := IntWalk.i64_in _ (by omega)
      obtain ⟨b0, b1, b2, b3, b4⟩ := HB1.out
      have c0 : wr.cell? ⟨w.heap.size, 0, none⟩ = some (.int .i64 0) := (HW.out.cell (p := ⟨w.heap.size, 0, none⟩) hz).trans b3
      have c1 : wr.cell? ⟨w.heap.size, 1, none⟩ = some (.int .i64 0) := (HW.out.cell (p := ⟨w.heap.size, 1, none⟩) hz).trans b4
      have z0 : wr.frozen? ⟨w.heap.size, 0, none⟩ = false := (World.frozen?_of_block (a := ⟨w.heap.size, 0, none⟩) (HW.out.block _ hz)).trans (b2 0)
      have z1 : wr.frozen? ⟨w.heap.size, 1, none⟩ = false := (World.frozen?_of_block (a := ⟨w.heap.size, 1, none⟩) (HW.out.block _ hz)).trans (b2 1)
      have HBW := Kp.mk (b0.trans (HW.out.mono b0.size))
      clear hx hx0 hlt hA hD hA1 hD1 hz b0 b1 b2 b3 b4
      go_wp2
      go_region
      all_goals
        go_wp2
        exact bodyPost_ret (v := .agg #[.int .i64 A, .int .i64 D]) (by simp [results, Try.results73, go_sem, c0, c1]) rfl ⟨by rw [HRS.out.1, HRS.out.2], by first | exact ((Below.drew HBW.out).setCell (by simp only; omega) _).setCell (by simp only; omega) _ | exact Below.drew ((HBW.out.setCell (by simp only; omega) _).setCell (by simp only; omega) _)⟩
end Go.Proofs.Ytjnggchljilooaa.Sc
