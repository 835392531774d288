/-
  WALKS (layer 8, pest): the reference: Fits, Begins; lists compared.
-/
import Derived.Test.YthkamfjjfkpekaaPeRefL
namespace Go.Proofs.Ythkamfjjfkpekaa.Pe
open Go Go.RowKit Go.Proofs Go.Sort

set_option maxRecDepth 100000 in
set_option maxHeartbeats 1000000 in
theorem rFits_e (R x y begin : Int) (g : Option Addr) (M c : Nat) (gt : Option Addr) (N ct : Nat) (E : Int) (hE : E ≠ 0) (w : World)
    (HTR : Kp (∀ W, Below w.heap.size w W → Calls Try.prog 84 #[.agg #[.int .i64 R, .slice g M c, .int .i64 x, .int .i64 y], .slice gt N ct] W fun e w' => e = .returned (.int .i64 E) ∧ Below W.heap.size W w')) :
    Calls Try.prog 41 #[.agg #[.int .i64 R, .slice g M c, .int .i64 x, .int .i64 y], .slice gt N ct, .int .i64 begin] w fun e w' => e = .returned (.tuple #[.bool false, .int .i64 E]) ∧ Below w.heap.size w w' := by
  have i1 : (E == (0 : Int)) = false := by simp [hE]
  have i2 : (E != (0 : Int)) = true := by simp [hE]
  clear hE
  go_enter Try.func41, Try.ntmps41
  go_wp2_with fail
  refine (HTR.out _ (by repeat (first | exact Below.refl _ _ | refine Below.alloc ?_ (by simp <;> omega) _ | refine bDrewN ?_ _ | refine Below.drew ?_))).mono ?_
  rintro en w1 ⟨rfl, hb1⟩
  have HB1 : Kp (Below w.heap.size w w1) := ⟨Below.trans (by repeat (first | refine Below.alloc ?_ (by (try simp) <;> omega) _ | refine bDrewN ?_ _ | refine Below.drew ?_ | refine Below.setCell ?_ (by (try simp) <;> omega) _ | exact Below.refl _ _)) (hb1.mono (by (try simp) <;> omega))⟩
  have hz1_0 : w.heap.size < w1.heap.size := by have := hb1.size; (try simp at this); omega
  obtain ⟨hc, hf⟩ := bcell hb1
  have c1_0_0 : w1.cell? ⟨w.heap.size, 0, none⟩ = some (.int .i64 R) := (hc _ _ (by (try simp) <;> omega)).trans (by go_simp)
  have c1_0_1 : w1.cell? ⟨w.heap.size, 1, none⟩ = some ((.slice g M c)) := (hc _ _ (by (try simp) <;> omega)).trans (by go_simp)
  have c1_0_2 : w1.cell? ⟨w.heap.size, 2, none⟩ = some (.int .i64 x) := (hc _ _ (by (try simp) <;> omega)).trans (by go_simp)
  have c1_0_3 : w1.cell? ⟨w.heap.size, 3, none⟩ = some (.int .i64 y) := (hc _ _ (by (try simp) <;> omega)).trans (by go_simp)
  have z1_0 : ∀ j, w1.frozen? ⟨w.heap.size, j, none⟩ = false := fun j => (hf _ _ (by (try simp) <;> omega)).trans (by go_simp)
  clear hc hf hb1
  go_wp2
  go_ret2
  exact ⟨rfl, HB1.out⟩
set_option maxRecDepth 100000 in
set_option maxHeartbeats 1000000 in
theorem rFits_s (R x y begin : Int) (g : Option Addr) (M c : Nat) (gt : Option Addr) (N ct : Nat) (w : World)
    (HTR : Kp (∀ W, Below w.heap.size w W → Calls Try.prog 84 #[.agg #[.int .i64 R, .slice g M c, .int .i64 x, .int .i64 y], .slice gt N ct] W fun e w' => e = .returned (.int .i64 0) ∧ Below W.heap.size W w'))
    (HST : Kp (∀ W, Below w.heap.size w W → Calls Try.prog 65 #[.agg #[.int .i64 R, .slice g M c, .int .i64 x, .int .i64 y], .int .i64 begin] W fun e w' => e = .returned (.bool false) ∧ Below W.heap.size W w')) :
    Calls Try.prog 41 #[.agg #[.int .i64 R, .slice g M c, .int .i64 x, .int .i64 y], .slice gt N ct, .int .i64 begin] w fun e w' => e = .returned (.tuple #[.bool false, .int .i64 7]) ∧ Below w.heap.size w w' := by
  go_enter Try.func41, Try.ntmps41
  go_wp2_with fail
  refine (HTR.out _ (by repeat (first | exact Below.refl _ _ | refine Below.alloc ?_ (by simp <;> omega) _ | refine bDrewN ?_ _ | refine Below.drew ?_))).mono ?_
  rintro en w1 ⟨rfl, hb1⟩
  have HB1 : Kp (Below w.heap.size w w1) := ⟨Below.trans (by repeat (first | refine Below.alloc ?_ (by (try simp) <;> omega) _ | refine bDrewN ?_ _ | refine Below.drew ?_ | refine Below.setCell ?_ (by (try simp) <;> omega) _ | exact Below.refl _ _)) (hb1.mono (by (try simp) <;> omega))⟩
  have hz1_0 : w.heap.size < w1.heap.size := by have := hb1.size; (try simp at this); omega
  obtain ⟨hc, hf⟩ := bcell hb1
  have c1_0_0 : w1.cell? ⟨w.heap.size, 0, none⟩ = some (.int .i64 R) := (hc _ _ (by (try simp) <;> omega)).trans (by go_simp)
  have c1_0_1 : w1.cell? ⟨w.heap.size, 1, none⟩ = some ((.slice g M c)) := (hc _ _ (by (try simp) <;> omega)).trans (by go_simp)
  have c1_0_2 : w1.cell? ⟨w.heap.size, 2, none⟩ = some (.int .i64 x) := (hc _ _ (by (try simp) <;> omega)).trans (by go_simp)
  have c1_0_3 : w1.cell? ⟨w.heap.size, 3, none⟩ = some (.int .i64 y) := (hc _ _ (by (try simp) <;> omega)).trans (by go_simp)
  have z1_0 : ∀ j, w1.frozen? ⟨w.heap.size, j, none⟩ = false := fun j => (hf _ _ (by (try simp) <;> omega)).trans (by go_simp)
  clear hc hf hb1
  go_wp2_with fail
  refine (HST.out _ HB1.out).mono ?_
  rintro en w2 ⟨rfl, hb2⟩
  have HB2 : Kp (Below w.heap.size w w2) := ⟨Below.trans (by repeat (first | refine Below.alloc ?_ (by have := HB1.out.size; (try simp) <;> omega) _ | refine bDrewN ?_ _ | refine Below.drew ?_ | refine Below.setCell ?_ (by have := HB1.out.size; (try simp) <;> omega) _ | exact HB1.out)) (hb2.mono (by have := HB1.out.size; (try simp) <;> omega))⟩
  have hz2_0 : w.heap.size < w2.heap.size := by have := hb2.size; (try simp at this); omega
  obtain ⟨hc, hf⟩ := bcell hb2
  have c2_0_0 : w2.cell? ⟨w.heap.size, 0, none⟩ = some (.int .i64 R) := (hc _ _ (by (try simp) <;> omega)).trans (by go_simp)
  have c2_0_1 : w2.cell? ⟨w.heap.size, 1, none⟩ = some ((.slice g M c)) := (hc _ _ (by (try simp) <;> omega)).trans (by go_simp)
  have c2_0_2 : w2.cell? ⟨w.heap.size, 2, none⟩ = some (.int .i64 x) := (hc _ _ (by (try simp) <;> omega)).trans (by go_simp)
  have c2_0_3 : w2.cell? ⟨w.heap.size, 3, none⟩ = some (.int .i64 y) := (hc _ _ (by (try simp) <;> omega)).trans (by go_simp)
  have z2_0 : ∀ j, w2.frozen? ⟨w.heap.size, j, none⟩ = false := fun j => (hf _ _ (by (try simp) <;> omega)).trans (by go_simp)
  clear hc hf hb2 c1_0_0 c1_0_1 c1_0_2 c1_0_3 z1_0
  go_wp2
  go_ret2
  exact ⟨rfl, HB2.out⟩
set_option maxRecDepth 100000 in
set_option maxHeartbeats 1000000 in
theorem rFits_f (R x y begin : Int) (g : Option Addr) (M c : Nat) (gt : Option Addr) (N ct : Nat) (F : Bool) (w : World)
    (HTR : Kp (∀ W, Below w.heap.size w W → Calls Try.prog 84 #[.agg #[.int .i64 R, .slice g M c, .int .i64 x, .int .i64 y], .slice gt N ct] W fun e w' => e = .returned (.int .i64 0) ∧ Below W.heap.size W w'))
    (HST : Kp (∀ W, Below w.heap.size w W → Calls Try.prog 65 #[.agg #[.int .i64 R, .slice g M c, .int .i64 x, .int .i64 y], .int .i64 begin] W fun e w' => e = .returned (.bool true) ∧ Below W.heap.size W w'))
    (HFI : Kp (∀ W, Below w.heap.size w W → Calls Try.prog 85 #[.agg #[.int .i64 R, .slice g M c, .int .i64 x, .int .i64 y], .slice gt N ct, .int .i64 begin] W fun e w' => e = .returned (.bool F) ∧ Below W.heap.size W w')) :
    Calls Try.prog 41 #[.agg #[.int .i64 R, .slice g M c, .int .i64 x, .int .i64 y], .slice gt N ct, .int .i64 begin] w fun e w' => e = .returned (.tuple #[.bool F, .int .i64 0]) ∧ Below w.heap.size w w' := by
  go_enter Try.func41, Try.ntmps41
  go_wp2_with fail
  refine (HTR.out _ (by repeat (first | exact Below.refl _ _ | refine Below.alloc ?_ (by simp <;> omega) _ | refine bDrewN ?_ _ | refine Below.drew ?_))).mono ?_
  rintro en w1 ⟨rfl, hb1⟩
  have HB1 : Kp (Below w.heap.size w w1) := ⟨Below.trans (by repeat (first | refine Below.alloc ?_ (by (try simp) <;> omega) _ | refine bDrewN ?_ _ | refine Below.drew ?_ | refine Below.setCell ?_ (by (try simp) <;> omega) _ | exact Below.refl _ _)) (hb1.mono (by (try simp) <;> omega))⟩
  have hz1_0 : w.heap.size < w1.heap.size := by have := hb1.size; (try simp at this); omega
  obtain ⟨hc, hf⟩ := bcell hb1
  have c1_0_0 : w1.cell? ⟨w.heap.size, 0, none⟩ = some (.int .i64 R) := (hc _ _ (by (try simp) <;> omega)).trans (by go_simp)
  have c1_0_1 : w1.cell? ⟨w.heap.size, 1, none⟩ = some ((.slice g M c)) := (hc _ _ (by (try simp) <;> omega)).trans (by go_simp)
  have c1_0_2 : w1.cell? ⟨w.heap.size, 2, none⟩ = some (.int .i64 x) := (hc _ _ (by (try simp) <;> omega)).trans (by go_simp)
  have c1_0_3 : w1.cell? ⟨w.heap.size, 3, none⟩ = some (.int .i64 y) := (hc _ _ (by (try simp) <;> omega)).trans (by go_simp)
  have z1_0 : ∀ j, w1.frozen? ⟨w.heap.size, j, none⟩ = false := fun j => (hf _ _ (by (try simp) <;> omega)).trans (by go_simp)
  clear hc hf hb1
  go_wp2_with fail
  refine (HST.out _ HB1.out).mono ?_
  rintro en w2 ⟨rfl, hb2⟩
  have HB2 : Kp (Below w.heap.size w w2) := ⟨Below.trans (by repeat (first | refine Below.alloc ?_ (by have := HB1.out.size; (try simp) <;> omega) _ | refine bDrewN ?_ _ | refine Below.drew ?_ | refine Below.setCell ?_ (by have := HB1.out.size; (try simp) <;> omega) _ | exact HB1.out)) (hb2.mono (by have := HB1.out.size; (try simp) <;> omega))⟩
  have hz2_0 : w.heap.size < w2.heap.size := by have := hb2.size; (try simp at this); omega
  obtain ⟨hc, hf⟩ := bcell hb2
  have c2_0_0 : w2.cell? ⟨w.heap.size, 0, none⟩ = some (.int .i64 R) := (hc _ _ (by (try simp) <;> omega)).trans (by go_simp)
  have c2_0_1 : w2.cell? ⟨w.heap.size, 1, none⟩ = some ((.slice g M c)) := (hc _ _ (by (try simp) <;> omega)).trans (by go_simp)
  have c2_0_2 : w2.cell? ⟨w.heap.size, 2, none⟩ = some (.int .i64 x) := (hc _ _ (by (try simp) <;> omega)).trans (by go_simp)
  have c2_0_3 : w2.cell? ⟨w.heap.size, 3, none⟩ = some (.int .i64 y) := (hc _ _ (by (try simp) <;> omega)).trans (by go_simp)
  have z2_0 : ∀ j, w2.frozen? ⟨w.heap.size, j, none⟩ = false := fun j => (hf _ _ (by (try simp) <;> omega)).trans (by go_simp)
  clear hc hf hb2
  go_wp2_with fail
  refine (HFI.out _ HB2.out).mono ?_
  rintro en w3 ⟨rfl, hb3⟩
  have HB3 := Kp.mk (HB2.out.trans (hb3.mono HB2.out.size))
  clear hb3
  go_wp2
  go_ret2
  exact ⟨rfl, HB3.out⟩
theorem rFits_any (R x y begin : Int) (v u : Value) (ds : List Dr) (ts : List Tp) (w : World) (hv : DS w v ds) (hl : ds.length ≤ 9223372036854775807) (hu : TS w u ts) (htl : ts.length ≤ 9223372036854775806) :
    Calls Try.prog 41 #[.agg #[.int .i64 R, v, .int .i64 x, .int .i64 y], u, .int .i64 begin] w fun e w' => e = .returned (boolE (fitE R ds x y ts begin) (fitsB ds begin.toNat ts)) ∧ Below w.heap.size w w' := by
  have HTR : ∀ W, Below w.heap.size w W → Calls Try.prog 84 #[.agg #[.int .i64 R, v, .int .i64 x, .int .i64 y], u] W fun e w' => e = .returned (.int .i64 (trapE R ds x y ts)) ∧ Below W.heap.size W w' := fun W hW => rtrapped_any R x y v u ds ts W (hv.below hW) hl (hu.below hW) htl
  have HFI : trapE R ds x y ts = 0 → setB R begin = true → ∀ W, Below w.heap.size w W → Calls Try.prog 85 #[.agg #[.int .i64 R, v, .int .i64 x, .int .i64 y], u, .int .i64 begin] W fun e w' => e = .returned (.bool (fitsB ds begin.toNat ts)) ∧ Below W.heap.size W w' := fun h hs W hW => by
    obtain ⟨a, -, b⟩ := chkE_zero h
    obtain ⟨s1, s2⟩ := setB_lt hs
    exact rfits_ok R x y begin v u ds ts W (hv.below hW) (hu.below hW) (valB_ok a) b s1 s2
  obtain ⟨g, c, rfl⟩ := hv.shape
  obtain ⟨gt, ct, rfl⟩ := hu.shape
  by_cases hE : trapE R ds x y ts = 0
  · obtain ⟨a, -, b⟩ := chkE_zero hE
    have hk := valB_ok a
    obtain ⟨r1, r2⟩ := hk.rooms
    have hst : setB R begin = inB 0 (2 ^ R.toNat - 1) begin := by unfold setB; rw [inB_iff.2 ⟨r1, r2⟩, Bool.true_and]
    have HST : ∀ W, Below w.heap.size w W → Calls Try.prog 65 #[.agg #[.int .i64 R, .slice g ds.length c, .int .i64 x, .int .i64 y], .int .i64 begin] W fun e w' => e = .returned (.bool (setB R begin)) ∧ Below W.heap.size W w' := fun W hW => by
      rw [hst]
      exact rset_any R x y begin g ds.length c W r1 r2
    rw [hE] at HTR
    unfold fitE
    rw [a, b, Bool.true_and]
    cases hS : setB R begin with
    | false =>
      rw [hS] at HST
      exact rFits_s R x y begin g ds.length c gt ts.length ct w ⟨HTR⟩ ⟨HST⟩
    | true =>
      rw [hS] at HST
      exact rFits_f R x y begin g ds.length c gt ts.length ct _ w ⟨HTR⟩ ⟨HST⟩ ⟨HFI hE hS⟩
  · have e : fitE R ds x y ts begin = trapE R ds x y ts := by
      unfold fitE
      unfold trapE at hE ⊢
      cases hb : valB R ds x y <;> cases ht : trapsB R ts
      · rfl
      · rfl
      · rfl
      · rw [hb, ht] at hE; exact absurd rfl hE
    have e2 : boolE (trapE R ds x y ts) (fitsB ds begin.toNat ts) = .tuple #[.bool false, .int .i64 (trapE R ds x y ts)] := by unfold boolE; rw [if_neg hE]
    rw [e, e2]
    exact rFits_e R x y begin g ds.length c gt ts.length ct _ hE w ⟨HTR⟩
attribute [-go_sem] Builtin.append_
set_option maxRecDepth 100000 in
set_option maxHeartbeats 2000000 in
theorem rBegins_st (R : Nat) (x y : Int) (g : Option Addr) (M c : Nat) (gt : Option Addr) (N ct : Nat) (ds : List Dr) (ts : List Tp) (w : World) (hR : R ≤ 12)
    (HTR : Kp (∀ W, Below w.heap.size w W → Calls Try.prog 84 #[.agg #[.int .i64 (R : Int), .slice g M c, .int .i64 x, .int .i64 y], .slice gt N ct] W fun e w' => e = .returned (.int .i64 0) ∧ Below W.heap.size W w'))
    (HF2 : Kp (∀ k : Nat, k < R → ∀ W, Below w.heap.size w W → Calls Try.prog 85 #[.agg #[.int .i64 (R : Int), .slice g M c, .int .i64 x, .int .i64 y], .slice gt N ct, .int .i64 ((2 ^ k : Nat) : Int)] W fun e w' => e = .returned (.bool (fitsB ds (2 ^ k) ts)) ∧ Below W.heap.size W w')) :
    Calls Try.prog 43 #[.agg #[.int .i64 (R : Int), .slice g M c, .int .i64 x, .int .i64 y], .slice gt N ct] w fun e w' => ∃ v, e = .returned (.tuple #[v, .int .i64 0]) ∧ IS w' v (begF ds ts R) ∧ Below w.heap.size w w' := by
  go_enter Try.func43, Try.ntmps43
  go_wp2_with fail
  refine (HTR.out _ (by repeat (first | exact Below.refl _ _ | refine Below.alloc ?_ (by simp <;> omega) _ | refine bDrewN ?_ _ | refine Below.drew ?_))).mono ?_
  rintro en wq ⟨rfl, hbq⟩
  have HBQ : Kp (Below w.heap.size w wq) := ⟨Below.trans (by repeat (first | exact Below.refl _ _ | refine Below.alloc ?_ (by simp <;> omega) _ | refine bDrewN ?_ _ | refine Below.drew ?_)) (hbq.mono (by simp <;> omega))⟩
  have HC : Kp (wq.cell? ⟨w.heap.size, 0, none⟩ = some (.int .i64 (R : Int)) ∧ wq.cell? ⟨w.heap.size, 1, none⟩ = some (.slice g M c) ∧ wq.cell? ⟨w.heap.size, 2, none⟩ = some (.int .i64 x) ∧ wq.cell? ⟨w.heap.size, 3, none⟩ = some (.int .i64 y)) := ⟨(hbq.cell (p := ⟨w.heap.size, 0, none⟩) (by simp)).trans (by go_simp), (hbq.cell (p := ⟨w.heap.size, 1, none⟩) (by simp)).trans (by go_simp), (hbq.cell (p := ⟨w.heap.size, 2, none⟩) (by simp)).trans (by go_simp), (hbq.cell (p := ⟨w.heap.size, 3, none⟩) (by simp)).trans (by go_simp)⟩
  obtain ⟨B, hB⟩ : ∃ B, w.heap.size = B := ⟨_, rfl⟩
  rw [hB] at HC
  try simp only [hB]
  have HALL : Kp (∀ w', Below wq.heap.size wq w' → w'.cell? ⟨B, 0, none⟩ = some (.int .i64 (R : Int)) ∧ w'.cell? ⟨B, 1, none⟩ = some (.slice g M c) ∧ w'.cell? ⟨B, 2, none⟩ = some (.int .i64 x) ∧ w'.cell? ⟨B, 3, none⟩ = some (.int .i64 y)) := ⟨fun w' h => by
    obtain ⟨a0, a1, a2, a3⟩ := HC.out
    exact ⟨(h.cell (p := ⟨B, 0, none⟩) (World.block_lt_of_cell? _ _ a0)).trans a0, (h.cell (p := ⟨B, 1, none⟩) (World.block_lt_of_cell? _ _ a1)).trans a1, (h.cell (p := ⟨B, 2, none⟩) (World.block_lt_of_cell? _ _ a2)).trans a2, (h.cell (p := ⟨B, 3, none⟩) (World.block_lt_of_cell? _ _ a3)).trans a3⟩⟩
  clear hbq hB HC
  obtain ⟨q0, q1, q2, q3⟩ := HALL.out wq (Below.refl _ _)
  have HO0 : Kp (OwnI wq wq.heap.size (.slice none 0 0) (begF ds ts 0)) := ⟨OwnI.nil _ _⟩
  go_wp2_with fail
  clear q0 q1 q2 q3
  go_loopw [7, 17] (fun v i wr => ∃ k : Nat, k ≤ R ∧ i = .int .i64 k ∧ Kp (OwnI wr wq.heap.size v (begF ds ts k)) ∧ Kp (Below wq.heap.size wq wr)) (fun _ i _ => R - (intOf i).toNat)
  case atStart => exact ⟨0, Nat.zero_le _, rfl, HO0, ⟨Below.refl _ _⟩⟩
  case round =>
    clear HO0
    obtain ⟨k, hk, rfl, HO, HB⟩ := hrel
    by_cases hlt : k < R
    · have o1 : (k : Int) < (R : Int) := by omega
      have o4 : k ≤ 11 := by omega
      have e1 := pow_wrap o4
      have e2 : (2 : Int) ^ k = ((2 ^ k : Nat) : Int) := by simp
      have HST : Kp (begF ds ts (k + 1) = begF ds ts k ++ if fitsB ds (2 ^ k) ts then [(k : Int)] else []) := ⟨rfl⟩
      have HFK := Kp.mk (HF2.out k hlt)
      have HLN := Kp.mk (begF_len ds ts k)
      obtain ⟨T, hT⟩ : ∃ T : Int, ((2 ^ k : Nat) : Int) = T := ⟨_, rfl⟩
      obtain ⟨C, hC⟩ : ∃ C, fitsB ds (2 ^ k) ts = C := ⟨_, rfl⟩
      rw [hT, hC] at HFK
      rw [hT] at e1
      rw [hC] at HST
      clear hC e2 hT
      obtain ⟨c0, c1, c2, c3⟩ := HALL.out wr HB.out
      have HBW := Kp.mk (HBQ.out.trans (HB.out.mono HBQ.out.size))
      have K5 : Kp (∀ d os, _) := ⟨fun d os => HFK.out (grow (redrawn wr d) os) (HBW.out.trans ((below_regrown wr d os).mono HBW.out.size))⟩
      have rg_c0 := fun d os => cell_regrown c0 d os
      have rg_c1 := fun d os => cell_regrown c1 d os
      have rg_c2 := fun d os => cell_regrown c2 d os
      have rg_c3 := fun d os => cell_regrown c3 d os
      clear c0 c1 c2 c3
      go_wp2_with fail
      refine wp_region_quiet_below (by kernel_rfl) (by kernel_rfl) ?_
      repeat (any_goals (first | go_big_quiet_step (first | (with_reducible exact Calls.regrown_of (K5.out _ _))) | quiet_step (first | (with_reducible exact Calls.regrown_of (K5.out _ _)))))
      refine wpQuiet_nil ?_
      intro _ hqw
      obtain ⟨⟨dq, osq⟩, hqv⟩ := hqw
      subst hqv
      obtain ⟨wx, hqwx⟩ : ∃ wx, grow (redrawn (wr) dq) osq = wx := ⟨_, rfl⟩
      have hbwx : Below (wr).heap.size (wr) wx := by rw [← hqwx]; exact below_regrown _ dq osq
      rw [hqwx]
      clear hqwx
      have HBX := Kp.mk (HB.out.trans (hbwx.mono HB.out.size))
      have HOX := Kp.mk (HO.out.on hbwx)
      clear hbwx rg_c0 rg_c1 rg_c2 rg_c3 K5 HFK
      cases C with
      | false =>
        have HO2 : Kp (OwnI wx wq.heap.size u7 (begF ds ts (k + 1))) := ⟨by rw [HST.out, if_neg (by decide), List.append_nil]; exact HOX.out⟩
        go_wp2
        go_roundw
        case rel => exact ⟨k + 1, by omega, by go_num, HO2, HBX⟩
        case measure => simp [intOf]; omega
      | true =>
        have HX2 : Kp (begF ds ts (k + 1) = begF ds ts k ++ [(k : Int)]) := ⟨by rw [HST.out, if_pos rfl]⟩
        have hbz := (Below.refl wx.heap.size wx).alloc (Nat.le_refl _) (.cells #[.int .i64 (k : Int)] 3)
        have hx3 : (wx.alloc (.cells #[.int .i64 (k : Int)] 3)).cell? ⟨wx.heap.size, 0, none⟩ = some (.int .i64 (k : Int)) := by go_simp
        obtain ⟨g5, c5, w5, hrun, hown, hgrow, hat⟩ := (HOX.out.on hbz).next hx3 (by have := HLN.out; omega) (by have := HBX.out.size; rw [World.size_alloc]; omega)
        have hbw : Below wq.heap.size wq (wx.alloc (.cells #[.int .i64 (k : Int)] 3)) := HBX.out.trans (hbz.mono HBX.out.size)
        have HB5 : Kp (Below wq.heap.size wq w5) := ⟨hbw.grown hgrow hbw.size (fun j hj => ((HOX.out.on hbz).below_lt j hj).1)⟩
        have HO5 : Kp (OwnI w5 wq.heap.size (.slice g5 ((begF ds ts k).length + 1) c5) (begF ds ts (k + 1))) := ⟨by rw [HX2.out]; exact hown⟩
        clear hown hgrow hat hbz hx3 hbw
        go_wp2
        go_roundw
        case rel => exact ⟨k + 1, by omega, by go_num, HO5, HB5⟩
        case measure => simp [intOf]; omega
    · have hkn : k = R := by omega
      subst hkn
      have o1 : ¬ (k : Int) < (k : Int) := by omega
      go_wp2
      go_ret2
      exact ⟨_, rfl, HO.out.is, HBQ.out.trans (HB.out.mono HBQ.out.size)⟩
set_option maxRecDepth 100000 in
theorem rBegins_e (R x y : Int) (g : Option Addr) (M c : Nat) (gt : Option Addr) (N ct : Nat) (E : Int) (hE : E ≠ 0) (w : World)
    (HTR : Kp (∀ W, Below w.heap.size w W → Calls Try.prog 84 #[.agg #[.int .i64 R, .slice g M c, .int .i64 x, .int .i64 y], .slice gt N ct] W fun e w' => e = .returned (.int .i64 E) ∧ Below W.heap.size W w')) :
    Calls Try.prog 43 #[.agg #[.int .i64 R, .slice g M c, .int .i64 x, .int .i64 y], .slice gt N ct] w fun e w' => ∃ v, e = .returned (.tuple #[v, .int .i64 E]) ∧ IS w' v [] ∧ Below w.heap.size w w' := by
  have i1 : (E == (0 : Int)) = false := by simp [hE]
  have i2 : (E != (0 : Int)) = true := by simp [hE]
  clear hE
  go_enter Try.func43, Try.ntmps43
  go_wp2_with fail
  refine (HTR.out _ (by repeat (first | exact Below.refl _ _ | refine Below.alloc ?_ (by simp <;> omega) _ | refine bDrewN ?_ _ | refine Below.drew ?_))).mono ?_
  rintro en w1 ⟨rfl, hb1⟩
  have HB1 : Kp (Below w.heap.size w w1) := ⟨Below.trans (by repeat (first | exact Below.refl _ _ | refine Below.alloc ?_ (by simp <;> omega) _ | refine bDrewN ?_ _ | refine Below.drew ?_)) (hb1.mono (by simp <;> omega))⟩
  clear hb1
  go_wp2
  go_ret2
  exact ⟨_, rfl, is_nil _, HB1.out⟩
theorem rBegins_any (R x y : Int) (v u : Value) (ds : List Dr) (ts : List Tp) (w : World) (hv : DS w v ds) (hl : ds.length ≤ 9223372036854775807) (hu : TS w u ts) (htl : ts.length ≤ 9223372036854775806) :
    Calls Try.prog 43 #[.agg #[.int .i64 R, v, .int .i64 x, .int .i64 y], u] w fun e w' => ∃ r, e = .returned (.tuple #[r, .int .i64 (trapE R ds x y ts)]) ∧ IS w' r (if trapE R ds x y ts = 0 then begF ds ts R.toNat else []) ∧ Below w.heap.size w w' := by
  have HTR : ∀ W, Below w.heap.size w W → Calls Try.prog 84 #[.agg #[.int .i64 R, v, .int .i64 x, .int .i64 y], u] W fun e w' => e = .returned (.int .i64 (trapE R ds x y ts)) ∧ Below W.heap.size W w' := fun W hW => rtrapped_any R x y v u ds ts W (hv.below hW) hl (hu.below hW) htl
  have HFI : trapE R ds x y ts = 0 → ∀ k : Nat, k < R.toNat → ∀ W, Below w.heap.size w W → Calls Try.prog 85 #[.agg #[.int .i64 R, v, .int .i64 x, .int .i64 y], u, .int .i64 ((2 ^ k : Nat) : Int)] W fun e w' => e = .returned (.bool (fitsB ds (2 ^ k) ts)) ∧ Below W.heap.size W w' := fun h k hkr W hW => by
    obtain ⟨a, -, b⟩ := chkE_zero h
    have hk := valB_ok a
    have := rfits_ok R x y ((2 ^ k : Nat) : Int) v u ds ts W (hv.below hW) (hu.below hW) hk b (Int.natCast_nonneg _) (by rw [Int.toNat_natCast]; exact Nat.pow_lt_pow_right (by omega) hkr)
    rwa [Int.toNat_natCast] at this
  obtain ⟨g, c, rfl⟩ := hv.shape
  obtain ⟨gt, ct, rfl⟩ := hu.shape
  by_cases hE : trapE R ds x y ts = 0
  · have hr := (valB_ok (chkE_zero hE).1).rooms
    rw [if_pos hE, hE]
    rw [hE] at HTR
    have hf := HFI hE
    clear HFI hE
    obtain ⟨r, rfl⟩ := Int.eq_ofNat_of_zero_le (show 0 ≤ R by omega)
    rw [Int.toNat_natCast] at hf ⊢
    exact rBegins_st r x y g ds.length c gt ts.length ct ds ts w (by omega) ⟨HTR⟩ ⟨hf⟩
  · rw [if_neg hE]
    exact rBegins_e R x y g ds.length c gt ts.length ct _ hE w ⟨HTR⟩
set_option maxRecDepth 100000 in
set_option maxHeartbeats 1000000 in
/-- One list and itself. -/
theorem sameInts_any (v u : Value) (l : List Int) (w : World) (hv : IS w v l) (hu : IS w u l) (hl : l.length ≤ 9223372036854775806) : Calls Try.prog 39 #[v, u] w fun e w' => e = .returned (.bool true) ∧ Below w.heap.size w w' := by
  obtain ⟨g1, c1, rfl, -, h1⟩ := hv
  obtain ⟨g2, c2, rfl, -, h2⟩ := hu
  have H1 := Kp.mk h1
  have H2 := Kp.mk h2
  obtain ⟨N, hN⟩ : ∃ N, l.length = N := ⟨_, rfl⟩
  have HN := Kp.mk hN
  rw [hN] at hl ⊢
  clear h1 h2 hN
  go_enter Try.func39, Try.ntmps39
  go_wp2
  go_loopw [13] (fun i wr => ∃ k : Nat, k ≤ N ∧ i = .int .i64 k ∧ Kp (Below w.heap.size w wr)) (fun i _ => N - (intOf i).toNat)
  case atStart => exact ⟨0, Nat.zero_le _, rfl, ⟨by repeat (first | exact Below.refl _ _ | refine Below.alloc ?_ (by simp <;> omega) _ | refine bDrewN ?_ _ | refine Below.drew ?_)⟩⟩
  case round =>
    obtain ⟨k, hk, rfl, HB⟩ := hrel
    by_cases hlt : k < N
    · obtain ⟨z, hz⟩ : ∃ z, l[k]? = some z := ⟨_, List.getElem?_eq_getElem (by rw [HN.out]; exact hlt)⟩
      obtain ⟨b1, o1, hg, k1⟩ := H1.out k z hz
      subst hg
      obtain ⟨b2, o2, hg, k2⟩ := H2.out k z hz
      subst hg
      have d1 := (HB.out.cell (p := ⟨b1, o1 + k, none⟩) (World.block_lt_of_cell? _ _ k1)).trans k1
      have d2 := (HB.out.cell (p := ⟨b2, o2 + k, none⟩) (World.block_lt_of_cell? _ _ k2)).trans k2
      have q1 : (k : Int) < (N : Int) := by omega
      have q4 : IntKind.i64.wrap ((k : Int) + 1) = (k : Int) + 1 := IntWalk.i64_in _ (by omega)
      have rg_d1 := fun d os => cell_regrown d1 d os
      have rg_d2 := fun d os => cell_regrown d2 d os
      clear hz k1 k2 d1 d2
      go_wp2_with fail
      refine wp_region_quiet_below (by kernel_rfl) (by kernel_rfl) ?_
      repeat (any_goals (first | go_big_quiet_step (fail) | quiet_step (fail)))
      refine wpQuiet_nil ?_
      intro _ hqw
      obtain ⟨⟨dq, osq⟩, hqv⟩ := hqw
      subst hqv
      obtain ⟨wq, hqwq⟩ : ∃ wq, grow (redrawn (wr) dq) osq = wq := ⟨_, rfl⟩
      have hbwq : Below (wr).heap.size (wr) wq := by rw [← hqwq]; exact below_regrown _ dq osq
      rw [hqwq]
      clear hqwq
      have HBQ := Kp.mk (HB.out.trans (hbwq.mono HB.out.size))
      clear hbwq rg_d1 rg_d2
      go_wp2
      go_roundw
      case rel => exact ⟨k + 1, by omega, by go_num, HBQ⟩
      case measure => simp [intOf]; omega
    · have hkn : k = N := by omega
      have q1 : ¬ (k : Int) < (N : Int) := by omega
      go_wp2
      go_ret
      exact ⟨rfl, HB.out⟩
end Go.Proofs.Ythkamfjjfkpekaa.Pe
