/-
  WALKS (layer 7, scene): All, by the program and by the reference.
-/
import Derived.Test.YtjnggchljilooaaScBools
import Derived.Test.YtjnggchljilooaaScHidden
import Derived.Test.YtjnggchljilooaaScRHid
import Derived.Test.YtjnggchljilooaaScRefB
namespace Go.Proofs.Ytjnggchljilooaa.Sc
open Go Go.RowKit Go.Sort
attribute [-go_sem] Builtin.append_

/-- A row of truths of which so many are told already. -/
def toldB (t : Nat → Bool) (M k : Nat) : List Bool := (List.range M).map fun i => if i < k then t i else false
theorem toldB_len (t : Nat → Bool) (M k : Nat) : (toldB t M k).length = M := by simp [toldB]
theorem toldB_zero (t : Nat → Bool) (M : Nat) : toldB t M 0 = List.replicate M false := by
  apply List.ext_getElem?
  intro i
  unfold toldB
  by_cases h : i < M
  · rw [List.getElem?_map, List.getElem?_range h, List.getElem?_replicate, if_pos h]; rfl
  · rw [List.getElem?_eq_none (by simp; omega), List.getElem?_eq_none (by simp; omega)]
theorem toldB_step (t : Nat → Bool) {M k : Nat} (hk : k < M) : (toldB t M k).set k (t k) = toldB t M (k + 1) := by
  apply List.ext_getElem?
  intro i
  by_cases h : i < M
  · by_cases e : i = k
    · subst e
      rw [List.getElem?_set_self (by rw [toldB_len]; exact hk)]
      unfold toldB
      rw [List.getElem?_map, List.getElem?_range h]
      simp
    · rw [List.getElem?_set_ne (fun q => e q.symm)]
      unfold toldB
      rw [List.getElem?_map, List.getElem?_map, List.getElem?_range h]
      simp only [Option.map_some, Option.some.injEq]
      by_cases h2 : i < k
      · rw [if_pos h2, if_pos (by omega)]
      · rw [if_neg h2, if_neg (by omega)]
  · rw [List.getElem?_eq_none (by rw [List.length_set, toldB_len]; omega), List.getElem?_eq_none (by rw [toldB_len]; omega)]
theorem toldB_all (t : Nat → Bool) (M : Nat) : toldB t M M = (List.range M).map t := by
  unfold toldB
  apply List.map_congr_left
  intro i hi
  rw [if_pos (List.mem_range.1 hi)]
/-- The error of All. -/
def alE (wd dp : Int) (L : List Int) (e : Ey) : Int := if (gdB wd dp L && eyB wd e) = true then 0 else 1
/-- What All tells. -/
def alL (wd dp : Int) (L : List Int) (e : Ey) : List Bool := if alE wd dp L e = 0 then (List.range L.length).map (topB wd.toNat L e) else []
theorem alE_chk (wd dp : Int) (L : List Int) (e : Ey) : chkE true (gdB wd dp L) (eyB wd e) = alE wd dp L e := by
  unfold alE chkE
  rfl
theorem alE_zero {wd dp : Int} {L : List Int} {e : Ey} (h : alE wd dp L e = 0) : gdB wd dp L = true ∧ eyB wd e = true := by
  unfold alE at h
  split at h
  · rename_i k; rwa [Bool.and_eq_true] at k
  · omega
set_option maxRecDepth 100000 in
set_option maxHeartbeats 2000000 in
theorem All_st (wd dp ex eb eh : Int) (g : Option Addr) (M c : Nat) (E : Int) (t : Nat → Bool) (LL : List Bool) (w : World) (HLL : Kp (LL = if E = 0 then (List.range M).map t else [])) (HM : Kp (M ≤ 9223372036854775807 ∧ (E = 0 → M ≤ 1000)))
    (HCK : Kp (∀ W u, Below w.heap.size w W → ES W u [⟨ex, eb, eh⟩] → Calls Try.prog 46 #[.bool true, .agg #[.int .i64 wd, .int .i64 dp, .slice g M c], u] W fun en w' => en = .returned (.int .i64 E) ∧ Below W.heap.size W w'))
    (HH : Kp (E = 0 → ∀ W i, i < M → Below w.heap.size w W → Calls Try.prog 70 #[.agg #[.int .i64 wd, .int .i64 dp, .slice g M c, .int .i64 ex, .int .i64 eb, .int .i64 eh], .int .i64 (i : Nat)] W fun en w' => en = .returned (.bool (!t i)) ∧ Below W.heap.size W w')) :
    Calls Try.prog 37 #[.agg #[.int .i64 wd, .int .i64 dp, .slice g M c], .agg #[.int .i64 ex, .int .i64 eb, .int .i64 eh]] w fun en w' => (∃ u, en = .returned (.tuple #[u, .int .i64 E]) ∧ SB w' u LL) ∧ Below w.heap.size w w' := by
  go_enter Try.func37, Try.ntmps37
  go_wp2_with fail
  refine (HCK.out _ _ (by repeat (first | exact Below.refl _ _ | refine Below.alloc ?_ (by simp <;> omega) _ | refine bDrewN ?_ _ | refine Below.drew ?_)) (es_one (e := ⟨ex, eb, eh⟩) (by go_simp) (by go_simp) (by go_simp))).mono ?_
  rintro en w1 ⟨rfl, hb1⟩
  have HB1 : Kp (Below w.heap.size w w1) := ⟨Below.trans (by repeat (first | refine Below.alloc ?_ (by (try simp) <;> omega) _ | refine bDrewN ?_ _ | refine Below.drew ?_ | refine Below.setCell ?_ (by (try simp) <;> omega) _ | exact Below.refl _ _)) (hb1.mono (by (try simp) <;> omega))⟩
  have hz1_0 : w.heap.size < w1.heap.size := by have := hb1.size; (try simp at this); omega
  have hz1_1 : w.heap.size + 1 < w1.heap.size := by have := hb1.size; (try simp at this); omega
  obtain ⟨hc, hf⟩ := bcell hb1
  have c1_0_0 : w1.cell? ⟨w.heap.size, 0, none⟩ = some (.int .i64 wd) := (hc _ _ (by (try simp) <;> omega)).trans (by go_simp)
  have c1_0_1 : w1.cell? ⟨w.heap.size, 1, none⟩ = some (.int .i64 dp) := (hc _ _ (by (try simp) <;> omega)).trans (by go_simp)
  have c1_0_2 : w1.cell? ⟨w.heap.size, 2, none⟩ = some ((.slice g M c)) := (hc _ _ (by (try simp) <;> omega)).trans (by go_simp)
  have z1_0 : ∀ j, w1.frozen? ⟨w.heap.size, j, none⟩ = false := fun j => (hf _ _ (by (try simp) <;> omega)).trans (by go_simp)
  have c1_1_0 : w1.cell? ⟨w.heap.size + 1, 0, none⟩ = some (.int .i64 ex) := (hc _ _ (by (try simp) <;> omega)).trans (by go_simp)
  have c1_1_1 : w1.cell? ⟨w.heap.size + 1, 1, none⟩ = some (.int .i64 eb) := (hc _ _ (by (try simp) <;> omega)).trans (by go_simp)
  have c1_1_2 : w1.cell? ⟨w.heap.size + 1, 2, none⟩ = some (.int .i64 eh) := (hc _ _ (by (try simp) <;> omega)).trans (by go_simp)
  have z1_1 : ∀ j, w1.frozen? ⟨w.heap.size + 1, j, none⟩ = false := fun j => (hf _ _ (by (try simp) <;> omega)).trans (by go_simp)
  clear hc hf hb1
  by_cases h0 : E = 0
  · subst h0
    have HX := Kp.mk (HH.out rfl)
    have hM := HM.out.2 rfl
    have HLV : Kp (LL = (List.range M).map t) := ⟨by rw [HLL.out, if_pos rfl]⟩
    clear HLL
    obtain ⟨W5, hrun, hr5, hb5, hz5⟩ := run_falses w1 M (by omega)
    have HC : Kp (∀ V, Below w1.heap.size w1 V → V.cell? ⟨w.heap.size, 0, none⟩ = some (.int .i64 wd) ∧ V.cell? ⟨w.heap.size, 1, none⟩ = some (.int .i64 dp) ∧ V.cell? ⟨w.heap.size, 2, none⟩ = some (.slice g M c) ∧ V.cell? ⟨w.heap.size + 1, 0, none⟩ = some (.int .i64 ex) ∧ V.cell? ⟨w.heap.size + 1, 1, none⟩ = some (.int .i64 eb) ∧ V.cell? ⟨w.heap.size + 1, 2, none⟩ = some (.int .i64 eh)) := ⟨fun V hV => ⟨(hV.cell (p := ⟨_, 0, none⟩) hz1_0).trans c1_0_0, (hV.cell (p := ⟨_, 1, none⟩) hz1_0).trans c1_0_1, (hV.cell (p := ⟨_, 2, none⟩) hz1_0).trans c1_0_2, (hV.cell (p := ⟨_, 0, none⟩) hz1_1).trans c1_1_0, (hV.cell (p := ⟨_, 1, none⟩) hz1_1).trans c1_1_1, (hV.cell (p := ⟨_, 2, none⟩) hz1_1).trans c1_1_2⟩⟩
    have HR5 : Kp (RB W5 w1.heap.size (.slice (some ⟨w1.heap.size, 0, none⟩) M M) (toldB t M 0)) := ⟨by rw [toldB_zero]; exact hr5⟩
    have HB5 := Kp.mk hb5
    have HZ5 := Kp.mk hz5
    clear HH HCK HM hr5 hb5 hz5 z1_0 z1_1
    go_wp2
    clear c1_0_0 c1_0_1 c1_0_2 c1_1_0 c1_1_1 c1_1_2
    obtain ⟨G, hG⟩ : ∃ G, w1.heap.size = G := ⟨_, rfl⟩
    rw [hG] at HR5 HZ5 HB5
    try simp only [hG]
    have HG := Kp.mk hG
    clear hG hrun
    go_loopw [22] (fun i wr => ∃ k : Nat, k ≤ M ∧ i = .int .i64 k ∧ Kp (RB wr G (.slice (some ⟨G, 0, none⟩) M M) (toldB t M k)) ∧ Kp (Below G w1 wr) ∧ Kp (G < wr.heap.size)) (fun i _ => M - (intOf i).toNat)
    case atStart => exact ⟨0, Nat.zero_le _, rfl, HR5, HB5, ⟨by rw [HZ5.out]; omega⟩⟩
    case round =>
      clear HR5 HB5 HZ5
      obtain ⟨k, hk, rfl, HR, HB, HS⟩ := hrel
      have hbl := HB.out
      rw [← HG.out] at hbl
      have HBW := Kp.mk (HB1.out.trans (hbl.mono HB1.out.size))
      obtain ⟨q0, q1, q2, q3, q4, q5⟩ := HC.out wr hbl
      by_cases hlt : k < M
      · have o1 : (k : Int) < (M : Int) := by omega
        clear hbl
        go_wp2_with fail
        refine (HX.out _ k hlt HBW.out).mono ?_
        rintro en w6 ⟨rfl, hb6⟩
        have HR6 := Kp.mk (HR.out.on HS.out hb6)
        have HB6 := Kp.mk (HB.out.trans (hb6.mono (Nat.le_of_lt HS.out)))
        have HS6 : Kp (G < w6.heap.size) := ⟨Nat.lt_of_lt_of_le HS.out hb6.size⟩
        obtain ⟨cc, hcc, -, hf6, hc6⟩ := HR6.out
        have hcx := hc6 k _ (List.getElem?_eq_getElem (by rw [toldB_len]; exact hlt))
        have hfk := hf6 k
        obtain ⟨b, hb⟩ : ∃ b, t k = b := ⟨_, rfl⟩
        obtain ⟨old, hold⟩ : ∃ old, (toldB t M k)[k]'(by rw [toldB_len]; exact hlt) = old := ⟨_, rfl⟩
        rw [hold] at hcx
        have HN : Kp (RB (w6.setCell ⟨G, k, none⟩ (.bool b)) G (.slice (some ⟨G, 0, none⟩) M M) (toldB t M (k + 1))) := ⟨by
          rw [← toldB_step t hlt, hb]
          exact HR6.out.put (by rw [toldB_len]; exact hlt)⟩
        have HNB : Kp (Below G w1 (w6.setCell ⟨G, k, none⟩ (.bool b))) := ⟨HB6.out.setCell (by simp) _⟩
        have HNS : Kp (G < (w6.setCell ⟨G, k, none⟩ (.bool b)).heap.size) := ⟨by simpa using HS6.out⟩
        rw [hb]
        have o5 : k ≤ 1000 := by omega
        clear hc6 hf6 hcc hb6 hb hold q0 q1 q2 q3 q4 q5
        go_wp2
        go_roundw
        case rel => exact ⟨k + 1, by omega, by go_num, by simpa using HN, by simpa using HNB, by simpa using HNS⟩
        case measure => simp [intOf]; omega
      · have hkn : k = M := by omega
        have o1 : ¬ (k : Int) < (M : Int) := by omega
        have HSB : Kp (SB wr (.slice (some ⟨G, 0, none⟩) M M) LL) := ⟨by
          rw [HLV.out, ← toldB_all, ← hkn]
          have := HR.out.sb
          rwa [hkn] at this ⊢⟩
        clear hkn hbl q0 q1 q2 q3 q4 q5
        go_wp2
        go_ret2
        exact ⟨⟨_, rfl, HSB.out⟩, HBW.out⟩
  · have i2 : (E != (0 : Int)) = true := by simp [h0]
    have HV : Kp (SB w1 (.slice none 0 0) LL) := ⟨by rw [HLL.out, if_neg h0]; exact sb_nil _⟩
    clear h0 HH
    go_wp2
    go_ret2
    exact ⟨⟨.slice none 0 0, rfl, HV.out⟩, HB1.out⟩
theorem gd_lenA {wd dp : Int} {L : List Int} (h : gdB wd dp L = true) : 0 < L.length ∧ L.length ≤ 576 := by
  obtain ⟨⟨a1, a2⟩, ⟨b1, b2⟩, hl, -⟩ := gdB_iff h
  have m1 : 1 * 1 ≤ wd * dp := Int.mul_le_mul a1 b1 (by omega) (by omega)
  have m2 : wd * dp ≤ 24 * 24 := Int.mul_le_mul a2 b2 (by omega) (by omega)
  omega
theorem All_any (wd dp : Int) (v : Value) (L : List Int) (e : Ey) (w : World) (hv : IS w v L) (hl : L.length ≤ 9223372036854775807) :
    Calls Try.prog 37 #[.agg #[.int .i64 wd, .int .i64 dp, v], .agg #[.int .i64 e.x, .int .i64 e.b, .int .i64 e.h]] w fun en w' => (∃ u, en = .returned (.tuple #[u, .int .i64 (alE wd dp L e)]) ∧ SB w' u (alL wd dp L e)) ∧ Below w.heap.size w w' := by
  have HCK : Kp (∀ W u, Below w.heap.size w W → ES W u [e] → Calls Try.prog 46 #[.bool true, .agg #[.int .i64 wd, .int .i64 dp, v], u] W fun en w' => en = .returned (.int .i64 (alE wd dp L e)) ∧ Below W.heap.size W w') := ⟨fun W u hW hu => by
    have := checked_any true wd dp v u L [e] W (hv.below hW) hl hu (by simp)
    rw [← alE_chk]
    simpa using this⟩
  have HV := Kp.mk hv
  obtain ⟨g, c, rfl⟩ := hv.shape
  unfold alL
  refine All_st wd dp e.x e.b e.h g L.length c (alE wd dp L e) (topB wd.toNat L e) _ w ⟨rfl⟩ ⟨hl, fun h => by have := (gd_lenA (alE_zero h).1); omega⟩ HCK ⟨fun h0 W i hi hW => ?_⟩
  obtain ⟨hg, he⟩ := alE_zero h0
  obtain ⟨N, hN⟩ := Int.eq_ofNat_of_zero_le (show 0 ≤ wd by have := (gdB_iff hg).1; omega)
  obtain ⟨D, hD⟩ := Int.eq_ofNat_of_zero_le (show 0 ≤ dp by have := (gdB_iff hg).2.1; omega)
  subst hN hD
  exact isHidden_any N D _ L e i W (HV.out.below hW) hg he hi
set_option maxRecDepth 100000 in
set_option maxHeartbeats 2000000 in
theorem rAll_st (N : Nat) (dp ex eb eh : Int) (g : Option Addr) (M c : Nat) (B : Bool) (L : List Int) (o : Nat → Option (Int × Int)) (LL : List Bool) (E : Int) (w : World) (HLL : Kp (LL = if B = true then (List.range M).map fun i => (o i).isNone else [])) (HE : Kp (E = if B = true then 0 else 1)) (HM : Kp (B = true → M ≤ 1000 ∧ 0 < N ∧ N ≤ 24)) (HLM : Kp (L.length = M))
    (HV : Kp (∀ W, Below w.heap.size w W → Calls Try.prog 19 #[.agg #[.int .i64 N, .int .i64 dp, .slice g M c], .agg #[.int .i64 ex, .int .i64 eb, .int .i64 eh]] W fun en w' => en = .returned (.bool B) ∧ Below W.heap.size W w'))
    (HC : Kp (∀ i x, L[i]? = some x → ∃ b q, g = some ⟨b, q, none⟩ ∧ w.cell? ⟨b, q + i, none⟩ = some (.int .i64 x)))
    (HH : Kp (B = true → ∀ W i x, L[i]? = some x → Below w.heap.size w W → Calls Try.prog 66 #[.agg #[.int .i64 N, .int .i64 dp, .slice g M c], .agg #[.int .i64 ex, .int .i64 eb, .int .i64 eh], .int .i64 ((i % N : Nat) : Int), .int .i64 ((i / N : Nat) : Int), .int .i64 x] W fun en w' => en = .returned (hidV (o i)) ∧ Below W.heap.size W w')) :
    Calls Try.prog 38 #[.agg #[.int .i64 N, .int .i64 dp, .slice g M c], .agg #[.int .i64 ex, .int .i64 eb, .int .i64 eh]] w fun en w' => (∃ u, en = .returned (.tuple #[u, .int .i64 E]) ∧ SB w' u LL) ∧ Below w.heap.size w w' := by
  cases B with
  | false =>
    have HEV : Kp (E = 1) := ⟨by rw [HE.out]; rfl⟩
    have HLV : Kp (LL = []) := ⟨by rw [HLL.out]; rfl⟩
    clear HE HLL
    go_enter Try.func38, Try.ntmps38
    go_wp2_with fail
    refine (HV.out _ (by repeat (first | exact Below.refl _ _ | refine Below.alloc ?_ (by simp <;> omega) _ | refine bDrewN ?_ _ | refine Below.drew ?_))).mono ?_
    rintro en w1 ⟨rfl, hb1⟩
    have HB1 : Kp (Below w.heap.size w w1) := ⟨Below.trans (by repeat (first | exact Below.refl _ _ | refine Below.alloc ?_ (by simp <;> omega) _ | refine bDrewN ?_ _ | refine Below.drew ?_)) (hb1.mono (by simp <;> omega))⟩
    clear hb1
    go_wp2
    go_ret2
    exact ⟨⟨.slice none 0 0, by rw [HEV.out]; rfl, by rw [HLV.out]; exact sb_nil _⟩, HB1.out⟩
  | true =>
    obtain ⟨hM, hN, hN2⟩ := HM.out rfl
    have HX := Kp.mk (HH.out rfl)
    have HEV : Kp (E = 0) := ⟨by rw [HE.out]; rfl⟩
    have HLV : Kp (LL = (List.range M).map fun i => (o i).isNone) := ⟨by rw [HLL.out]; rfl⟩
    clear HH HE HLL
    go_enter Try.func38, Try.ntmps38
    go_wp2_with fail
    refine (HV.out _ (by repeat (first | exact Below.refl _ _ | refine Below.alloc ?_ (by simp <;> omega) _ | refine bDrewN ?_ _ | refine Below.drew ?_))).mono ?_
    rintro en w1 ⟨rfl, hb1⟩
    have HB1 : Kp (Below w.heap.size w w1) := ⟨Below.trans (by repeat (first | refine Below.alloc ?_ (by (try simp) <;> omega) _ | refine bDrewN ?_ _ | refine Below.drew ?_ | refine Below.setCell ?_ (by (try simp) <;> omega) _ | exact Below.refl _ _)) (hb1.mono (by (try simp) <;> omega))⟩
    have hz1_0 : w.heap.size < w1.heap.size := by have := hb1.size; (try simp at this); omega
    have hz1_1 : w.heap.size + 1 < w1.heap.size := by have := hb1.size; (try simp at this); omega
    obtain ⟨hc, hf⟩ := bcell hb1
    have c1_0_0 : w1.cell? ⟨w.heap.size, 0, none⟩ = some ((.int .i64 N)) := (hc _ _ (by (try simp) <;> omega)).trans (by go_simp)
    have c1_0_1 : w1.cell? ⟨w.heap.size, 1, none⟩ = some (.int .i64 dp) := (hc _ _ (by (try simp) <;> omega)).trans (by go_simp)
    have c1_0_2 : w1.cell? ⟨w.heap.size, 2, none⟩ = some ((.slice g M c)) := (hc _ _ (by (try simp) <;> omega)).trans (by go_simp)
    have z1_0 : ∀ j, w1.frozen? ⟨w.heap.size, j, none⟩ = false := fun j => (hf _ _ (by (try simp) <;> omega)).trans (by go_simp)
    have c1_1_0 : w1.cell? ⟨w.heap.size + 1, 0, none⟩ = some (.int .i64 ex) := (hc _ _ (by (try simp) <;> omega)).trans (by go_simp)
    have c1_1_1 : w1.cell? ⟨w.heap.size + 1, 1, none⟩ = some (.int .i64 eb) := (hc _ _ (by (try simp) <;> omega)).trans (by go_simp)
    have c1_1_2 : w1.cell? ⟨w.heap.size + 1, 2, none⟩ = some (.int .i64 eh) := (hc _ _ (by (try simp) <;> omega)).trans (by go_simp)
    have z1_1 : ∀ j, w1.frozen? ⟨w.heap.size + 1, j, none⟩ = false := fun j => (hf _ _ (by (try simp) <;> omega)).trans (by go_simp)
    clear hc hf hb1
    have HCB : Kp (∀ V, Below w1.heap.size w1 V → V.cell? ⟨w.heap.size, 0, none⟩ = some (.int .i64 (N : Int)) ∧ V.cell? ⟨w.heap.size, 1, none⟩ = some (.int .i64 dp) ∧ V.cell? ⟨w.heap.size, 2, none⟩ = some (.slice g M c) ∧ V.cell? ⟨w.heap.size + 1, 0, none⟩ = some (.int .i64 ex) ∧ V.cell? ⟨w.heap.size + 1, 1, none⟩ = some (.int .i64 eb) ∧ V.cell? ⟨w.heap.size + 1, 2, none⟩ = some (.int .i64 eh)) := ⟨fun V hV => ⟨(hV.cell (p := ⟨_, 0, none⟩) hz1_0).trans c1_0_0, (hV.cell (p := ⟨_, 1, none⟩) hz1_0).trans c1_0_1, (hV.cell (p := ⟨_, 2, none⟩) hz1_0).trans c1_0_2, (hV.cell (p := ⟨_, 0, none⟩) hz1_1).trans c1_1_0, (hV.cell (p := ⟨_, 1, none⟩) hz1_1).trans c1_1_1, (hV.cell (p := ⟨_, 2, none⟩) hz1_1).trans c1_1_2⟩⟩
    have HO0 : Kp (OwnT w1 w1.heap.size (.slice none 0 0) ((List.range 0).map fun i => (o i).isNone)) := ⟨OwnT.nil _ _⟩
    clear HV z1_0 z1_1
    go_wp2_with fail
    clear c1_0_0 c1_0_1 c1_0_2 c1_1_0 c1_1_1 c1_1_2 hz1_0 hz1_1
    go_loopw [6, 19] (fun r i wr => ∃ k : Nat, k ≤ M ∧ i = .int .i64 k ∧ Kp (OwnT wr w1.heap.size r ((List.range k).map fun i => (o i).isNone)) ∧ Kp (Below w1.heap.size w1 wr)) (fun _ i _ => M - (intOf i).toNat)
    case atStart => exact ⟨0, Nat.zero_le _, rfl, HO0, ⟨Below.refl _ _⟩⟩
    case round =>
      clear HO0
      obtain ⟨k, hk, rfl, HO, HB⟩ := hrel
      have HBW := Kp.mk (HB1.out.trans (HB.out.mono HB1.out.size))
      by_cases hlt : k < M
      · obtain ⟨x, hx⟩ : ∃ x, L[k]? = some x := ⟨_, List.getElem?_eq_getElem (by rw [HLM.out]; exact hlt)⟩
        obtain ⟨b', o', rfl, hcz⟩ := HC.out k x hx
        have hbl := World.block_lt_of_cell? _ _ hcz
        have cx := (HBW.out.cell (p := ⟨b', o' + k, none⟩) hbl).trans hcz
        obtain ⟨q0, q1, q2, q3, q4, q5⟩ := HCB.out wr HB.out
        have o1 : (k : Int) < (M : Int) := by omega
        have o5 : k ≤ 1000 := by omega
        have HKX := Kp.mk fun W hW => HX.out W k x hx hW
        obtain ⟨pa, hpa⟩ : ∃ a, k % N = a := ⟨_, rfl⟩
        obtain ⟨pb, hpb⟩ : ∃ b, k / N = b := ⟨_, rfl⟩
        rw [hpa, hpb] at HKX
        have ha : pa ≤ 1000 := by rw [← hpa]; exact Nat.le_trans (Nat.mod_le _ _) o5
        have hb : pb ≤ 1000 := by rw [← hpb]; exact Nat.le_trans (Nat.div_le_self _ _) o5
        have e1 : ((k : Int)).tmod (N : Int) = (pa : Int) := by rw [Int.tmod_eq_emod_of_nonneg (by omega), ← Int.natCast_emod, hpa]
        have e2 : ((k : Int)).tdiv (N : Int) = (pb : Int) := by rw [Int.tdiv_eq_ediv_of_nonneg (by omega), ← Int.natCast_ediv, hpb]
        have e3 : ((k : Int)) / (N : Int) = (pb : Int) := by rw [← Int.natCast_ediv, hpb]
        have e5 : IntKind.i64.wrap (pa : Int) = (pa : Int) := IntWalk.i64_in _ (by omega)
        have e6 : IntKind.i64.wrap (pb : Int) = (pb : Int) := IntWalk.i64_in _ (by omega)
        have n0 : ¬ (N : Int) = 0 := by omega
        have hbr : b' < wr.heap.size := Nat.lt_of_lt_of_le hbl HBW.out.size
        clear hpa hpb hcz hx ha hb
        go_wp2_with fail
        have HHK : Kp (∀ d os, _) := ⟨fun d os => HKX.out (grow (redrawn wr d) os) (HBW.out.trans ((below_regrown wr d os).mono HBW.out.size))⟩
        have rg_q0 := fun d os => cell_regrown q0 d os
        have rg_q1 := fun d os => cell_regrown q1 d os
        have rg_q2 := fun d os => cell_regrown q2 d os
        have rg_q3 := fun d os => cell_regrown q3 d os
        have rg_q4 := fun d os => cell_regrown q4 d os
        have rg_q5 := fun d os => cell_regrown q5 d os
        have rg_cx := fun d os => cell_regrown cx d os
        clear q0 q1 q2 q3 q4 q5 cx HKX hbl
        cases hok : o k with
        | none =>
          have HST : Kp ((List.range (k + 1)).map (fun i => (o i).isNone) = (List.range k).map (fun i => (o i).isNone) ++ [true]) := ⟨by rw [List.range_succ, List.map_append]; simp [hok]⟩
          rw [hok] at HHK
          simp only [hidV] at HHK
          clear hok
          refine wp_region_quiet_below (by kernel_rfl) (by kernel_rfl) ?_
          repeat (any_goals (first | go_big_quiet_step (first | (with_reducible exact Calls.regrown_of (HHK.out _ _))) | quiet_step (first | (with_reducible exact Calls.regrown_of (HHK.out _ _)))))
          refine wpQuiet_nil ?_
          intro _ hqw
          obtain ⟨⟨dq, osq⟩, hqv⟩ := hqw
          subst hqv
          obtain ⟨wq, hqwq⟩ : ∃ wq, grow (redrawn (wr) dq) osq = wq := ⟨_, rfl⟩
          have hbwq : Below (wr).heap.size (wr) wq := by rw [← hqwq]; exact below_regrown _ dq osq
          rw [hqwq]
          clear hqwq
          have HBQ := Kp.mk (HB.out.trans (hbwq.mono HB.out.size))
          have hoq := HO.out.on hbwq
          clear hbwq HHK rg_cx rg_q0 rg_q1 rg_q2 rg_q3 rg_q4 rg_q5
          obtain ⟨X2, hX2⟩ : ∃ X2, wq.alloc (.cells #[.bool true] 4) = X2 := ⟨_, rfl⟩
          have hbz : Below wq.heap.size wq X2 := by rw [← hX2]; exact by repeat (first | exact Below.refl _ _ | refine Below.alloc ?_ (by simp <;> omega) _ | refine bDrewN ?_ _ | refine Below.drew ?_)
          have hx3 : X2.cell? ⟨wq.heap.size, 0, none⟩ = some (.bool true) := by subst hX2; go_simp
          have ho2 := hoq.on hbz
          obtain ⟨g6, c6, rfl⟩ := ho2.shape
          obtain ⟨g5, c5, w5, hrun, hown, hgrow⟩ := ho2.next hx3 (by simp; omega) (by have := HBQ.out.size; have := hbz.size; omega)
          have hbx : Below w1.heap.size w1 X2 := HBQ.out.trans (hbz.mono HBQ.out.size)
          have HB5 : Kp (Below w1.heap.size w1 w5) := ⟨hbx.grown hgrow hbx.size (fun j hj => (ho2.block hj).1)⟩
          rw [← HST.out] at hown
          have HO5 := Kp.mk hown
          obtain ⟨m, hm⟩ : ∃ m, ((List.range k).map fun i => (o i).isNone).length = m := ⟨_, rfl⟩
          rw [hm] at hrun HO5 ⊢
          rw [← hX2] at hrun
          clear hown hgrow hbz hx3 hbx ho2 hX2 hm HST hoq
          go_wp2
          go_roundw
          case rel => exact ⟨k + 1, by omega, by go_num, HO5, HB5⟩
          case measure => simp [intOf]; omega
        | some p =>
          obtain ⟨pc, pr⟩ := p
          have HST : Kp ((List.range (k + 1)).map (fun i => (o i).isNone) = (List.range k).map (fun i => (o i).isNone) ++ [false]) := ⟨by rw [List.range_succ, List.map_append]; simp [hok]⟩
          rw [hok] at HHK
          simp only [hidV] at HHK
          clear hok
          refine wp_region_quiet_below (by kernel_rfl) (by kernel_rfl) ?_
          repeat (any_goals (first | go_big_quiet_step (first | (with_reducible exact Calls.regrown_of (HHK.out _ _))) | quiet_step (first | (with_reducible exact Calls.regrown_of (HHK.out _ _)))))
          refine wpQuiet_nil ?_
          intro _ hqw
          obtain ⟨⟨dq, osq⟩, hqv⟩ := hqw
          subst hqv
          obtain ⟨wq, hqwq⟩ : ∃ wq, grow (redrawn (wr) dq) osq = wq := ⟨_, rfl⟩
          have hbwq : Below (wr).heap.size (wr) wq := by rw [← hqwq]; exact below_regrown _ dq osq
          rw [hqwq]
          clear hqwq
          have HBQ := Kp.mk (HB.out.trans (hbwq.mono HB.out.size))
          have hoq := HO.out.on hbwq
          clear hbwq HHK rg_cx rg_q0 rg_q1 rg_q2 rg_q3 rg_q4 rg_q5
          obtain ⟨X2, hX2⟩ : ∃ X2, wq.alloc (.cells #[.bool false] 4) = X2 := ⟨_, rfl⟩
          have hbz : Below wq.heap.size wq X2 := by rw [← hX2]; exact by repeat (first | exact Below.refl _ _ | refine Below.alloc ?_ (by simp <;> omega) _ | refine bDrewN ?_ _ | refine Below.drew ?_)
          have hx3 : X2.cell? ⟨wq.heap.size, 0, none⟩ = some (.bool false) := by subst hX2; go_simp
          have ho2 := hoq.on hbz
          obtain ⟨g6, c6, rfl⟩ := ho2.shape
          obtain ⟨g5, c5, w5, hrun, hown, hgrow⟩ := ho2.next hx3 (by simp; omega) (by have := HBQ.out.size; have := hbz.size; omega)
          have hbx : Below w1.heap.size w1 X2 := HBQ.out.trans (hbz.mono HBQ.out.size)
          have HB5 : Kp (Below w1.heap.size w1 w5) := ⟨hbx.grown hgrow hbx.size (fun j hj => (ho2.block hj).1)⟩
          rw [← HST.out] at hown
          have HO5 := Kp.mk hown
          obtain ⟨m, hm⟩ : ∃ m, ((List.range k).map fun i => (o i).isNone).length = m := ⟨_, rfl⟩
          rw [hm] at hrun HO5 ⊢
          rw [← hX2] at hrun
          clear hown hgrow hbz hx3 hbx ho2 hX2 hm HST hoq
          go_wp2
          go_roundw
          case rel => exact ⟨k + 1, by omega, by go_num, HO5, HB5⟩
          case measure => simp [intOf]; omega
      · have hkn : k = M := by omega
        subst hkn
        have o1 : ¬ (k : Int) < (k : Int) := by omega
        have HSB : Kp (SB wr u6 LL) := ⟨by rw [HLV.out]; exact HO.out.sb⟩
        obtain ⟨g7, c7, hsh⟩ := HO.out.shape
        rw [List.length_map, List.length_range] at hsh
        subst hsh
        go_wp2
        go_ret2
        exact ⟨⟨_, by rw [HEV.out]; rfl, HSB.out⟩, HBW.out⟩
theorem rAll_any (wd dp : Int) (v : Value) (L : List Int) (e : Ey) (w : World) (hv : IS w v L) (hl : L.length ≤ 9223372036854775807) :
    Calls Try.prog 38 #[.agg #[.int .i64 wd, .int .i64 dp, v], .agg #[.int .i64 e.x, .int .i64 e.b, .int .i64 e.h]] w fun en w' => (∃ u, en = .returned (.tuple #[u, .int .i64 (alE wd dp L e)]) ∧ SB w' u (alL wd dp L e)) ∧ Below w.heap.size w w' := by
  have HV : Kp (∀ W, Below w.heap.size w W → Calls Try.prog 19 #[.agg #[.int .i64 wd, .int .i64 dp, v], .agg #[.int .i64 e.x, .int .i64 e.b, .int .i64 e.h]] W fun en w' => en = .returned (.bool (gdB wd dp L && eyB wd e)) ∧ Below W.heap.size W w') := ⟨fun W hW => rValidEye_any wd dp v L e W (hv.below hW) hl⟩
  have HVV := Kp.mk hv
  cases hB : gdB wd dp L && eyB wd e with
  | false =>
    have hE : alE wd dp L e = 1 := by unfold alE; rw [hB]; rfl
    have hL2 : alL wd dp L e = [] := by unfold alL; rw [hE]; rfl
    rw [hB] at HV
    obtain ⟨g, c, rfl⟩ := hv.shape
    rw [hE, hL2]
    go_enter Try.func38, Try.ntmps38
    go_wp2_with fail
    refine (HV.out _ (by repeat (first | exact Below.refl _ _ | refine Below.alloc ?_ (by simp <;> omega) _ | refine bDrewN ?_ _ | refine Below.drew ?_))).mono ?_
    rintro en w1 ⟨rfl, hb1⟩
    have HB1 : Kp (Below w.heap.size w w1) := ⟨Below.trans (by repeat (first | exact Below.refl _ _ | refine Below.alloc ?_ (by simp <;> omega) _ | refine bDrewN ?_ _ | refine Below.drew ?_)) (hb1.mono (by simp <;> omega))⟩
    clear hb1
    go_wp2
    go_ret2
    exact ⟨⟨.slice none 0 0, rfl, sb_nil _⟩, HB1.out⟩
  | true =>
    have hB2 := hB
    rw [Bool.and_eq_true] at hB2
    obtain ⟨hg, he⟩ := hB2
    obtain ⟨⟨a1, a2⟩, ⟨b1, b2⟩, hlen, hal⟩ := gdB_iff hg
    obtain ⟨N, hN⟩ := Int.eq_ofNat_of_zero_le (show 0 ≤ wd by omega)
    obtain ⟨D, hD⟩ := Int.eq_ofNat_of_zero_le (show 0 ≤ dp by omega)
    subst hN hD
    have hl2 : L.length = N * D := by
      have : (L.length : Int) = ((N * D : Nat) : Int) := by rw [hlen, Int.natCast_mul]
      omega
    have hE : alE N D L e = 0 := by unfold alE; rw [hB]; rfl
    have hL2 : alL N D L e = (List.range L.length).map fun i => (hid N L e ((i % N : Nat) : Int) (i / N) (L.getD i 0)).isNone := by
      unfold alL
      rw [if_pos hE, Int.toNat_natCast]
      rfl
    have hg2 := gd_lenA hg
    rw [hB] at HV
    obtain ⟨g, c, rfl, -, hcell⟩ := hv
    refine rAll_st N D e.x e.b e.h g L.length c true L (fun i => hid N L e ((i % N : Nat) : Int) (i / N) (L.getD i 0)) _ _ w ⟨by rw [if_pos rfl]; exact hL2⟩ ⟨by rw [if_pos rfl]; exact hE⟩ ⟨fun _ => ⟨by omega, by omega, by omega⟩⟩ ⟨rfl⟩ HV ⟨hcell⟩ ⟨fun _ W i x hx hW => ?_⟩
    have hi := (List.getElem?_eq_some_iff.1 hx).1
    obtain ⟨h0, h1, h2⟩ := place_bd (hl2 ▸ hi)
    have hb := allIn_at hal hx
    have hxe : L.getD i 0 = x := by rw [List.getD_eq_getElem?_getD, hx]; rfl
    rw [hxe]
    exact rhider_any N D _ L e ((i % N : Nat) : Int) (i / N) x W (HVV.out.below hW) hg he ⟨by omega, by omega⟩ (by omega) ⟨by omega, by omega⟩
end Go.Proofs.Ytjnggchljilooaa.Sc
