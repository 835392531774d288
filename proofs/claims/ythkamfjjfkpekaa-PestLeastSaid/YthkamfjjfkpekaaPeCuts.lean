/-
  WALKS (layer 8, pest): Cuts and Cost of the program.
-/
import Derived.Test.YthkamfjjfkpekaaPeComes
namespace Go.Proofs.Ythkamfjjfkpekaa.Pe
open Go Go.RowKit Go.Proofs Go.Sort

/-- A truth and an error. -/
def boolE (E : Int) (C : Bool) : Value := if E = 0 then .tuple #[.bool C, .int .i64 0] else .tuple #[.bool false, .int .i64 E]
set_option maxRecDepth 100000 in
set_option maxHeartbeats 1000000 in
theorem Cuts_any (R x y : Int) (v u : Value) (ds : List Dr) (sl : List Int) (w : World) (hv : DS w v ds) (hl : ds.length ≤ 9223372036854775807) (hu : IS w u sl) (hsl : sl.length ≤ 9223372036854775807) :
    Calls Try.prog 21 #[.agg #[.int .i64 R, v, .int .i64 x, .int .i64 y], u] w fun e w' => e = .returned (boolE (askE R ds x y sl) (bits .and .i64 (comesT ds x sl : Nat) y == 0)) ∧ Below w.heap.size w w' := by
  have HC : Kp (∀ W, Below w.heap.size w W → Calls Try.prog 15 #[.agg #[.int .i64 R, v, .int .i64 x, .int .i64 y], u] W fun e w' => e = .returned (numE (askE R ds x y sl) (comesT ds x sl : Nat)) ∧ Below W.heap.size W w') := ⟨fun W hW => Comes_any R x y v u ds sl W (hv.below hW) hl (hu.below hW) hsl⟩
  obtain ⟨E, hE⟩ : ∃ E, askE R ds x y sl = E := ⟨_, rfl⟩
  obtain ⟨T, hT⟩ : ∃ T : Int, (comesT ds x sl : Int) = T := ⟨_, rfl⟩
  rw [hE, hT] at HC
  rw [hE, hT]
  obtain ⟨g, c, rfl⟩ := hv.shape
  obtain ⟨gu, cu, rfl⟩ := hu.shape
  obtain ⟨M, hM⟩ : ∃ M, ds.length = M := ⟨_, rfl⟩
  obtain ⟨N, hN⟩ : ∃ N, sl.length = N := ⟨_, rfl⟩
  rw [hM, hN] at HC
  rw [hM, hN]
  clear hv hu hl hsl hE hT hM hN
  by_cases h0 : E = 0
  · subst h0
    have HV : Kp (numE 0 T = .tuple #[.int .i64 T, .int .i64 0]) := ⟨rfl⟩
    rw [HV.out] at HC
    obtain ⟨C, hC⟩ : ∃ C, (bits .and .i64 T y == 0) = C := ⟨_, rfl⟩
    have HB : Kp (boolE 0 C = .tuple #[.bool C, .int .i64 0]) := ⟨rfl⟩
    rw [hC, HB.out]
    cases C with
    | true =>
      replace hC : bits .and .i64 T y = 0 := by simpa using hC
      have HCC := Kp.mk hC
      clear hC
      go_enter Try.func21, Try.ntmps21
      go_wp2_with fail
      refine (HC.out _ (by repeat (first | exact Below.refl _ _ | refine Below.alloc ?_ (by simp <;> omega) _ | refine bDrewN ?_ _ | refine Below.drew ?_))).mono ?_
      rintro en w1 ⟨rfl, hb1⟩
      have HB1 : Kp (Below w.heap.size w w1) := ⟨Below.trans (by repeat (first | refine Below.alloc ?_ (by (try simp) <;> omega) _ | refine bDrewN ?_ _ | refine Below.drew ?_ | refine Below.setCell ?_ (by (try simp) <;> omega) _ | exact Below.refl _ _)) (hb1.mono (by (try simp) <;> omega))⟩
      have hz1_0 : w.heap.size < w1.heap.size := by have := hb1.size; (try simp at this); omega
      obtain ⟨hc, hf⟩ := bcell hb1
      have c1_0_0 : w1.cell? ⟨w.heap.size, 0, none⟩ = some (.int .i64 R) := (hc _ _ (by (try simp) <;> omega)).trans (by go_simp)
      have c1_0_1 : w1.cell? ⟨w.heap.size, 1, none⟩ = some ((.slice g M c)) := (hc _ _ (by (try simp) <;> omega)).trans (by go_simp)
      have c1_0_2 : w1.cell? ⟨w.heap.size, 2, none⟩ = some (.int .i64 x) := (hc _ _ (by (try simp) <;> omega)).trans (by go_simp)
      have c1_0_3 : w1.cell? ⟨w.heap.size, 3, none⟩ = some (.int .i64 y) := (hc _ _ (by (try simp) <;> omega)).trans (by go_simp)
      have z1_0 : ∀ j, w1.frozen? ⟨w.heap.size, j, none⟩ = false := fun j => (hf _ _ (by (try simp) <;> omega)).trans (by go_simp)
      clear hc hf hb1
      have hC := HCC.out
      go_wp2
      go_ret2
      exact ⟨rfl, HB1.out⟩
    | false =>
      have HCC := Kp.mk hC
      clear hC
      go_enter Try.func21, Try.ntmps21
      go_wp2_with fail
      refine (HC.out _ (by repeat (first | exact Below.refl _ _ | refine Below.alloc ?_ (by simp <;> omega) _ | refine bDrewN ?_ _ | refine Below.drew ?_))).mono ?_
      rintro en w1 ⟨rfl, hb1⟩
      have HB1 : Kp (Below w.heap.size w w1) := ⟨Below.trans (by repeat (first | refine Below.alloc ?_ (by (try simp) <;> omega) _ | refine bDrewN ?_ _ | refine Below.drew ?_ | refine Below.setCell ?_ (by (try simp) <;> omega) _ | exact Below.refl _ _)) (hb1.mono (by (try simp) <;> omega))⟩
      have hz1_0 : w.heap.size < w1.heap.size := by have := hb1.size; (try simp at this); omega
      obtain ⟨hc, hf⟩ := bcell hb1
      have c1_0_0 : w1.cell? ⟨w.heap.size, 0, none⟩ = some (.int .i64 R) := (hc _ _ (by (try simp) <;> omega)).trans (by go_simp)
      have c1_0_1 : w1.cell? ⟨w.heap.size, 1, none⟩ = some ((.slice g M c)) := (hc _ _ (by (try simp) <;> omega)).trans (by go_simp)
      have c1_0_2 : w1.cell? ⟨w.heap.size, 2, none⟩ = some (.int .i64 x) := (hc _ _ (by (try simp) <;> omega)).trans (by go_simp)
      have c1_0_3 : w1.cell? ⟨w.heap.size, 3, none⟩ = some (.int .i64 y) := (hc _ _ (by (try simp) <;> omega)).trans (by go_simp)
      have z1_0 : ∀ j, w1.frozen? ⟨w.heap.size, j, none⟩ = false := fun j => (hf _ _ (by (try simp) <;> omega)).trans (by go_simp)
      clear hc hf hb1
      have hC := HCC.out
      go_wp2
      go_ret2
      exact ⟨rfl, HB1.out⟩
  · have HV : Kp (numE E T = .tuple #[.int .i64 0, .int .i64 E]) := ⟨by unfold numE; rw [if_neg h0]⟩
    have HB : Kp (∀ C, boolE E C = .tuple #[.bool false, .int .i64 E]) := ⟨fun C => by unfold boolE; rw [if_neg h0]⟩
    rw [HV.out] at HC
    rw [HB.out]
    have i1 : (E == (0 : Int)) = false := by simp [h0]
    clear h0 HB HV
    go_enter Try.func21, Try.ntmps21
    go_wp2_with fail
    refine (HC.out _ (by repeat (first | exact Below.refl _ _ | refine Below.alloc ?_ (by simp <;> omega) _ | refine bDrewN ?_ _ | refine Below.drew ?_))).mono ?_
    rintro en w1 ⟨rfl, hb1⟩
    have HB1 : Kp (Below w.heap.size w w1) := ⟨Below.trans (by repeat (first | refine Below.alloc ?_ (by (try simp) <;> omega) _ | refine bDrewN ?_ _ | refine Below.drew ?_ | refine Below.setCell ?_ (by (try simp) <;> omega) _ | exact Below.refl _ _)) (hb1.mono (by (try simp) <;> omega))⟩
    have hz1_0 : w.heap.size < w1.heap.size := by have := hb1.size; (try simp at this); omega
    obtain ⟨hc, hf⟩ := bcell hb1
    have c1_0_0 : w1.cell? ⟨w.heap.size, 0, none⟩ = some (.int .i64 R) := (hc _ _ (by (try simp) <;> omega)).trans (by go_simp)
    have c1_0_1 : w1.cell? ⟨w.heap.size, 1, none⟩ = some ((.slice g M c)) := (hc _ _ (by (try simp) <;> omega)).trans (by go_simp)
    have c1_0_2 : w1.cell? ⟨w.heap.size, 2, none⟩ = some (.int .i64 x) := (hc _ _ (by (try simp) <;> omega)).trans (by go_simp)
    have c1_0_3 : w1.cell? ⟨w.heap.size, 3, none⟩ = some (.int .i64 y) := (hc _ _ (by (try simp) <;> omega)).trans (by go_simp)
    have z1_0 : ∀ j, w1.frozen? ⟨w.heap.size, j, none⟩ = false := fun j => (hf _ _ (by (try simp) <;> omega)).trans (by go_simp)
    clear hc hf hb1
    go_wp2
    go_ret2
    exact ⟨rfl, HB1.out⟩
end Go.Proofs.Ythkamfjjfkpekaa.Pe
