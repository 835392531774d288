/-
  The law CarveFaces returns true at every input: Faces, Girth and Spare answer as the reference's for any block and layer. No conditions.
-/
import Derived.Test.YtcjlijiifhggfaaCvGirSp
import Derived.Test.YtcjlijiifhggfaaCvRefRT
import Derived.Test.YtcjlijiifhggfaaCvRefU
import Derived.Test.YtcjlijiifhggfaaCvGrKit
import Derived.Test.YtcjlijiifhggfaaCvAwake
import Derived.Test.YtcjlijiifhggfaaCvOpen
/-
  THE WALK of the law CarveFaces.
-/
namespace Go.Proofs.Ytcjlijiifhggfaa.Cv
open Go Go.RowKit Go.Sort

theorem blk_nat {n : Int} {m : Nat} (h : blockB n m = true) : ∃ s : Nat, n = s ∧ 1 ≤ s ∧ s ≤ 10 ∧ m = s * s * s := by
  have hb2 := h
  unfold blockB at hb2
  rw [Bool.and_eq_true, decide_eq_true_eq] at hb2
  have hs := side_iff.1 hb2.1
  obtain ⟨s, rfl⟩ : ∃ s : Nat, n = s := ⟨n.toNat, by omega⟩
  exact ⟨s, rfl, by omega, by omega, by have := hb2.2; rw [← Int.natCast_mul, ← Int.natCast_mul] at this; exact Int.ofNat.inj this⟩
theorem Faces_inv (n : Int) (g1 : Option Addr) (m c1 : Nat) (w : World) (h : blockB n m = false) : Calls Try.prog 15 #[.agg #[.int .i64 n, .slice g1 m c1]] w fun e w' => e = .returned (.tuple #[.int .i64 0, .int .i64 1]) ∧ Below w.heap.size w w' := by
  have HB : Kp (∀ W, Calls Try.prog 32 #[.agg #[.int .i64 n, .slice g1 m c1]] W fun e w' => e = .returned (.bool false) ∧ Below W.heap.size W w') := ⟨fun W => h ▸ ValidBlock_any n g1 m c1 W⟩
  clear h
  go_enter Try.func15, Try.ntmps15
  go_wp2_with fail
  refine (HB.out _).mono ?_
  rintro en w1 ⟨rfl, hb1⟩
  have HB1 : Kp (Below w.heap.size w w1) := ⟨Below.trans (by repeat (first | refine Below.alloc ?_ (by (try simp) <;> omega) _ | refine bDrewN ?_ _ | refine Below.drew ?_ | refine Below.setCell ?_ (by (try simp) <;> omega) _ | exact Below.refl _ _)) (hb1.mono (by (try simp) <;> omega))⟩
  have hz1_0 : w.heap.size < w1.heap.size := by have := hb1.size; (try simp at this); omega
  obtain ⟨hc, hf⟩ := bcell hb1
  have c1_0_0 : w1.cell? ⟨w.heap.size, 0, none⟩ = some (.int .i64 n) := (hc _ _ (by (try simp) <;> omega)).trans (by go_simp)
  have c1_0_1 : w1.cell? ⟨w.heap.size, 1, none⟩ = some ((.slice g1 m c1)) := (hc _ _ (by (try simp) <;> omega)).trans (by go_simp)
  have z1_0 : ∀ j, w1.frozen? ⟨w.heap.size, j, none⟩ = false := fun j => (hf _ _ (by (try simp) <;> omega)).trans (by go_simp)
  clear hc hf hb1
  go_wp2
  go_ret2
  exact ⟨rfl, HB1.out⟩
theorem rGirth_out (n z : Int) (g1 : Option Addr) (m c1 : Nat) (w : World) (h : blockB n m = true) (hz : ixB z n = false) : Calls Try.prog 18 #[.agg #[.int .i64 n, .slice g1 m c1], .int .i64 z] w fun e w' => e = .returned (.tuple #[.int .i64 0, .int .i64 7]) ∧ Below w.heap.size w w' := by
  have HB : Kp (∀ W, Calls Try.prog 22 #[.agg #[.int .i64 n, .slice g1 m c1]] W fun e w' => e = .returned (.bool true) ∧ Below W.heap.size W w') := ⟨fun W => h ▸ rValidBlock_any n g1 m c1 W⟩
  obtain ⟨s, rfl, hs1, hs2, -⟩ := blk_nat h
  have HWI : Kp (∀ W, Calls Try.prog 47 #[.int .i64 z, .int .i64 0, .int .i64 (s - 1)] W fun e w' => e = .returned (.bool false) ∧ W = w') := ⟨fun W => by
    have e1 : (decide (0 ≤ z) && decide (z ≤ (s : Int) - 1)) = false := by rw [rin_eq]; exact hz
    rw [← e1]
    exact rwithin_any z 0 ((s : Int) - 1) W⟩
  have e1 : IntKind.i64.wrap ((s : Int) - 1) = (s : Int) - 1 := IntWalk.i64_in _ (by omega)
  clear h hz hs1 hs2
  go_enter Try.func18, Try.ntmps18
  go_wp2_with fail
  refine (HB.out _).mono ?_
  rintro en w1 ⟨rfl, hb1⟩
  have HB1 : Kp (Below w.heap.size w w1) := ⟨Below.trans (by repeat (first | refine Below.alloc ?_ (by (try simp) <;> omega) _ | refine bDrewN ?_ _ | refine Below.drew ?_ | refine Below.setCell ?_ (by (try simp) <;> omega) _ | exact Below.refl _ _)) (hb1.mono (by (try simp) <;> omega))⟩
  have hz1_0 : w.heap.size < w1.heap.size := by have := hb1.size; (try simp at this); omega
  obtain ⟨hc, hf⟩ := bcell hb1
  have c1_0_0 : w1.cell? ⟨w.heap.size, 0, none⟩ = some (.int .i64 s) := (hc _ _ (by (try simp) <;> omega)).trans (by go_simp)
  have c1_0_1 : w1.cell? ⟨w.heap.size, 1, none⟩ = some ((.slice g1 m c1)) := (hc _ _ (by (try simp) <;> omega)).trans (by go_simp)
  have z1_0 : ∀ j, w1.frozen? ⟨w.heap.size, j, none⟩ = false := fun j => (hf _ _ (by (try simp) <;> omega)).trans (by go_simp)
  clear hc hf hb1
  go_wp2_with fail
  refine (HWI.out _).mono ?_
  rintro en w1' ⟨rfl, rfl⟩
  go_wp2
  go_ret2
  exact ⟨rfl, HB1.out⟩
theorem Faces_any (n : Int) (u : Value) (h : List Bool) (w : World) (hu : LB w u h) : Calls Try.prog 15 #[.agg #[.int .i64 n, u]] w fun e w' => e = .returned (.tuple #[.int .i64 (fcN n h : Nat), .int .i64 (fcE n h.length)]) ∧ Below w.heap.size w w' := by
  cases hb : blockB n h.length with
  | false =>
    have e1 : fcE n h.length = 1 := by unfold fcE; rw [hb]; rfl
    have e2 : fcN n h = 0 := by unfold fcN; rw [hb]; rfl
    rw [e1, e2]
    obtain ⟨g1, c1, rfl⟩ := hu.shape
    exact Faces_inv n g1 h.length c1 w hb
  | true =>
    obtain ⟨s, rfl, h1, h2, h3⟩ := blk_nat hb
    have e1 : fcE s h.length = 0 := by unfold fcE; rw [hb]; rfl
    have e2 : fcN s h = (facesL s h).length := by unfold fcN; rw [hb]; rfl
    rw [e1, e2]
    exact Faces_in s u h w hu h1 h2 h3
theorem rFaces_any (n : Int) (u : Value) (h : List Bool) (w : World) (hu : LB w u h) : Calls Try.prog 16 #[.agg #[.int .i64 n, u]] w fun e w' => e = .returned (.tuple #[.int .i64 (fcN n h : Nat), .int .i64 (fcE n h.length)]) ∧ Below w.heap.size w w' := by
  cases hb : blockB n h.length with
  | false =>
    have e1 : fcE n h.length = 1 := by unfold fcE; rw [hb]; rfl
    have e2 : fcN n h = 0 := by unfold fcN; rw [hb]; rfl
    rw [e1, e2]
    obtain ⟨g1, c1, rfl⟩ := hu.shape
    exact rFaces_inv n g1 h.length c1 w hb
  | true =>
    obtain ⟨s, rfl, h1, h2, h3⟩ := blk_nat hb
    have e1 : fcE s h.length = 0 := by unfold fcE; rw [hb]; rfl
    have e2 : fcN s h = (facesL s h).length := by unfold fcN; rw [hb]; rfl
    rw [e1, e2]
    exact rFaces_in s u h w hu h1 h2 h3 hb
theorem Girth_any (n z : Int) (u : Value) (h : List Bool) (w : World) (hu : LB w u h) : Calls Try.prog 17 #[.agg #[.int .i64 n, u], .int .i64 z] w fun e w' => e = .returned (.tuple #[.int .i64 (giN n h z : Nat), .int .i64 (giE n h.length z)]) ∧ Below w.heap.size w w' := by
  cases hb : blockB n h.length with
  | false =>
    have e1 : giE n h.length z = 1 := by unfold giE; rw [hb]; rfl
    have e2 : giN n h z = 0 := by unfold giN; rw [hb]; rfl
    rw [e1, e2]
    obtain ⟨g1, c1, rfl⟩ := hu.shape
    exact Girth_inv n z g1 h.length c1 w hb
  | true =>
    cases hz : ixB z n with
    | false =>
      have e1 : giE n h.length z = 7 := by unfold giE; rw [hb, hz]; rfl
      have e2 : giN n h z = 0 := by unfold giN; rw [hb, hz]; rfl
      rw [e1, e2]
      obtain ⟨g1, c1, rfl⟩ := hu.shape
      exact Girth_out n z g1 h.length c1 w hb hz
    | true =>
      obtain ⟨s, rfl, h1, h2, h3⟩ := blk_nat hb
      have e1 : giE s h.length z = 0 := by unfold giE; rw [hb, hz]; rfl
      have e2 : giN s h z = girO s h z (grainsL s h) := by unfold giN; rw [hb, hz]; rfl
      rw [e1, e2]
      exact Girth_in s z u h w hu h1 h2 h3 hz
theorem rGirth_any (n z : Int) (u : Value) (h : List Bool) (w : World) (hu : LB w u h) : Calls Try.prog 18 #[.agg #[.int .i64 n, u], .int .i64 z] w fun e w' => e = .returned (.tuple #[.int .i64 (giN n h z : Nat), .int .i64 (giE n h.length z)]) ∧ Below w.heap.size w w' := by
  cases hb : blockB n h.length with
  | false =>
    have e1 : giE n h.length z = 1 := by unfold giE; rw [hb]; rfl
    have e2 : giN n h z = 0 := by unfold giN; rw [hb]; rfl
    rw [e1, e2]
    obtain ⟨g1, c1, rfl⟩ := hu.shape
    exact rGirth_inv n z g1 h.length c1 w hb
  | true =>
    cases hz : ixB z n with
    | false =>
      have e1 : giE n h.length z = 7 := by unfold giE; rw [hb, hz]; rfl
      have e2 : giN n h z = 0 := by unfold giN; rw [hb, hz]; rfl
      rw [e1, e2]
      obtain ⟨g1, c1, rfl⟩ := hu.shape
      exact rGirth_out n z g1 h.length c1 w hb hz
    | true =>
      obtain ⟨s, rfl, h1, h2, h3⟩ := blk_nat hb
      have e1 : giE s h.length z = 0 := by unfold giE; rw [hb, hz]; rfl
      have e2 : giN s h z = girO s h z (grainsL s h) := by unfold giN; rw [hb, hz]; rfl
      rw [e1, e2]
      exact rGirth_in s z u h w hu h1 h2 h3 hb hz
theorem Spare_any (n : Int) (u : Value) (h : List Bool) (w : World) (hu : LB w u h) : Calls Try.prog 19 #[.agg #[.int .i64 n, u]] w fun e w' => ∃ g c, e = .returned (.tuple #[.slice g (spL n h).length c, .int .i64 (spE n h)]) ∧ GS w' (.slice g (spL n h).length c) (spL n h) ∧ Below w.heap.size w w' := by
  cases hb : blockB n h.length with
  | false =>
    have e1 : spE n h = 1 := by unfold spE; rw [hb]; rfl
    have e2 : spL n h = [] := by unfold spL; rw [hb]; rfl
    rw [e1, e2]
    obtain ⟨g1, c1, rfl⟩ := hu.shape
    exact (Spare_inv n g1 h.length c1 w hb).mono fun en w' ⟨ha, hbw⟩ => ⟨none, 0, ha, (OwnG.nil w' 0).gs, hbw⟩
  | true =>
    obtain ⟨s, rfl, h1, h2, h3⟩ := blk_nat hb
    have e1 : spE s h = 0 := by unfold spE; rw [hb]; rfl
    have e2 : spL s h = spareG s h := by unfold spL; rw [hb]; rfl
    rw [e1, e2]
    refine (Spare_in s u h w hu h1 h2 h3).mono ?_
    rintro en w' ⟨r, rfl, ⟨B0, -, ho⟩, hbw⟩
    obtain ⟨g, c, rfl⟩ := ho.gs.shape
    exact ⟨g, c, rfl, ho.gs, hbw⟩
theorem rSpare_any (n : Int) (u : Value) (h : List Bool) (w : World) (hu : LB w u h) : Calls Try.prog 20 #[.agg #[.int .i64 n, u]] w fun e w' => ∃ g c, e = .returned (.tuple #[.slice g (spL n h).length c, .int .i64 (spE n h)]) ∧ GS w' (.slice g (spL n h).length c) (spL n h) ∧ Below w.heap.size w w' := by
  cases hb : blockB n h.length with
  | false =>
    have e1 : spE n h = 1 := by unfold spE; rw [hb]; rfl
    have e2 : spL n h = [] := by unfold spL; rw [hb]; rfl
    rw [e1, e2]
    obtain ⟨g1, c1, rfl⟩ := hu.shape
    exact (rSpare_inv n g1 h.length c1 w hb).mono fun en w' ⟨ha, hbw⟩ => ⟨none, 0, ha, (OwnG.nil w' 0).gs, hbw⟩
  | true =>
    obtain ⟨s, rfl, h1, h2, h3⟩ := blk_nat hb
    have e1 : spE s h = 0 := by unfold spE; rw [hb]; rfl
    have e2 : spL s h = spareG s h := by unfold spL; rw [hb]; rfl
    rw [e1, e2]
    refine (rSpare_in s u h w hu h1 h2 h3 hb).mono ?_
    rintro en w' ⟨r, rfl, ⟨B0, -, ho⟩, hbw⟩
    obtain ⟨g, c, rfl⟩ := ho.gs.shape
    exact ⟨g, c, rfl, ho.gs, hbw⟩
theorem spL_len (n : Int) (h : List Bool) : (spL n h).length ≤ 1000 := by
  unfold spL
  split
  · rename_i hb
    obtain ⟨s, rfl, h1, h2, h3⟩ := blk_nat hb
    unfold spareG
    exact Nat.le_trans (List.length_filter_le _ _) (Nat.le_trans (grains_few _ h) (cube_bd h2).2)
  · exact Nat.zero_le _
set_option maxRecDepth 100000 in
set_option maxHeartbeats 4000000 in
theorem lawFaces_any (n z : Int) (u : Value) (h : List Bool) (w : World) (hu : LB w u h) :
    Calls Try.prog 4 #[.agg #[.int .i64 n, u], .int .i64 z] w fun e w' => e = .returned (.bool true) ∧ Below w.heap.size w w' := by
  have HF1 : Kp (∀ W, Below w.heap.size w W → Calls Try.prog 15 #[.agg #[.int .i64 n, u]] W fun e w' => e = .returned (.tuple #[.int .i64 (fcN n h : Nat), .int .i64 (fcE n h.length)]) ∧ Below W.heap.size W w') := ⟨fun W hW => Faces_any n u h W (hu.below hW)⟩
  have HF2 : Kp (∀ W, Below w.heap.size w W → Calls Try.prog 16 #[.agg #[.int .i64 n, u]] W fun e w' => e = .returned (.tuple #[.int .i64 (fcN n h : Nat), .int .i64 (fcE n h.length)]) ∧ Below W.heap.size W w') := ⟨fun W hW => rFaces_any n u h W (hu.below hW)⟩
  have HG1 : Kp (∀ W, Below w.heap.size w W → Calls Try.prog 17 #[.agg #[.int .i64 n, u], .int .i64 z] W fun e w' => e = .returned (.tuple #[.int .i64 (giN n h z : Nat), .int .i64 (giE n h.length z)]) ∧ Below W.heap.size W w') := ⟨fun W hW => Girth_any n z u h W (hu.below hW)⟩
  have HG2 : Kp (∀ W, Below w.heap.size w W → Calls Try.prog 18 #[.agg #[.int .i64 n, u], .int .i64 z] W fun e w' => e = .returned (.tuple #[.int .i64 (giN n h z : Nat), .int .i64 (giE n h.length z)]) ∧ Below W.heap.size W w') := ⟨fun W hW => rGirth_any n z u h W (hu.below hW)⟩
  have HS1 : Kp (∀ W, Below w.heap.size w W → Calls Try.prog 19 #[.agg #[.int .i64 n, u]] W fun e w' => ∃ g c, e = .returned (.tuple #[.slice g (spL n h).length c, .int .i64 (spE n h)]) ∧ GS w' (.slice g (spL n h).length c) (spL n h) ∧ Below W.heap.size W w') := ⟨fun W hW => Spare_any n u h W (hu.below hW)⟩
  have HS2 : Kp (∀ W, Below w.heap.size w W → Calls Try.prog 20 #[.agg #[.int .i64 n, u]] W fun e w' => ∃ g c, e = .returned (.tuple #[.slice g (spL n h).length c, .int .i64 (spE n h)]) ∧ GS w' (.slice g (spL n h).length c) (spL n h) ∧ Below W.heap.size W w') := ⟨fun W hW => rSpare_any n u h W (hu.below hW)⟩
  have HSG : Kp (∀ W g g' c c', GS W (.slice g (spL n h).length c) (spL n h) → GS W (.slice g' (spL n h).length c') (spL n h) → Calls Try.prog 21 #[.slice g (spL n h).length c, .slice g' (spL n h).length c'] W fun e w' => e = .returned (.bool true) ∧ Below W.heap.size W w') := ⟨fun W g g' c c' h1 h2 => (rsameG_yes _ _ _ W (by have := spL_len n h; omega) h1 h2).mono fun e w' hh => ⟨hh.1, by obtain ⟨m, rfl⟩ := hh.2; exact bDrewN (Below.refl _ _) _⟩⟩
  have HAW : Kp (∀ W, Calls Try.prog 8 #[] W fun e w' => e = .returned (.bool true) ∧ Below W.heap.size W w') := ⟨fun W => awake_any W⟩
  obtain ⟨g1, c1, rfl⟩ := hu.shape
  obtain ⟨FN, hFN⟩ : ∃ N, fcN n h = N := ⟨_, rfl⟩
  obtain ⟨FE, hFE⟩ : ∃ N, fcE n h.length = N := ⟨_, rfl⟩
  obtain ⟨GN, hGN⟩ : ∃ N, giN n h z = N := ⟨_, rfl⟩
  obtain ⟨GE, hGE⟩ : ∃ N, giE n h.length z = N := ⟨_, rfl⟩
  obtain ⟨SE, hSE⟩ : ∃ N, spE n h = N := ⟨_, rfl⟩
  obtain ⟨SL, hSL⟩ : ∃ N, spL n h = N := ⟨_, rfl⟩
  rw [hFN, hFE] at HF1 HF2
  rw [hGN, hGE] at HG1 HG2
  rw [hSE, hSL] at HS1 HS2
  rw [hSL] at HSG
  obtain ⟨K, hK⟩ : ∃ K, SL.length = K := ⟨_, rfl⟩
  rw [hK] at HS1 HS2 HSG
  obtain ⟨M, hM⟩ : ∃ M, h.length = M := ⟨_, rfl⟩
  rw [hM] at HF1 HF2 HG1 HG2 HS1 HS2
  have HLG : Kp (∀ W Y, W.cell? ⟨Y, 0, none⟩ = some (.int .i64 n) → W.cell? ⟨Y, 1, none⟩ = some (.slice g1 M c1) → Calls Try.prog 7 #[.slice (some ⟨Y, 0, none⟩) 1 1] W fun e w' => e = .returned (.bool (decide (M ≤ 2000))) ∧ Below W.heap.size W w') := ⟨fun W Y h0 h1 => light_any n g1 M c1 Y W h0 h1⟩
  have t1 : ((FN : Int) == (FN : Int)) = true := by simp
  have t2 : (FE == FE) = true := by simp
  have t3 : ((GN : Int) == (GN : Int)) = true := by simp
  have t4 : (GE == GE) = true := by simp
  have t5 : (SE == SE) = true := by simp
  rw [hM]
  obtain ⟨R, hR⟩ : ∃ R, decide (M ≤ 2000) = R := ⟨_, rfl⟩
  rw [hR] at HLG
  clear hu hFN hFE hGN hGE hSE hSL hK hM hR
  go_enter Try.func4, Try.ntmps4
  go_wp2_with fail
  refine (HLG.out _ _ (by go_simp) (by go_simp)).mono ?_
  rintro en w1 ⟨rfl, hb1⟩
  have HB1 : Kp (Below w.heap.size w w1) := ⟨Below.trans (by repeat (first | refine Below.alloc ?_ (by (try simp) <;> omega) _ | refine bDrewN ?_ _ | refine Below.drew ?_ | refine Below.setCell ?_ (by (try simp) <;> omega) _ | exact Below.refl _ _)) (hb1.mono (by (try simp) <;> omega))⟩
  have hz1_0 : w.heap.size < w1.heap.size := by have := hb1.size; (try simp at this); omega
  obtain ⟨hc, hf⟩ := bcell hb1
  have c1_0_0 : w1.cell? ⟨w.heap.size, 0, none⟩ = some (.int .i64 n) := (hc _ _ (by (try simp) <;> omega)).trans (by go_simp)
  have c1_0_1 : w1.cell? ⟨w.heap.size, 1, none⟩ = some ((.slice g1 M c1)) := (hc _ _ (by (try simp) <;> omega)).trans (by go_simp)
  have z1_0 : ∀ j, w1.frozen? ⟨w.heap.size, j, none⟩ = false := fun j => (hf _ _ (by (try simp) <;> omega)).trans (by go_simp)
  clear hc hf hb1
  clear HLG
  cases R
  case false =>
    go_wp2_with fail
    refine (HAW.out _).mono ?_
    rintro en w2 ⟨rfl, hb2⟩
    have HB2 := Kp.mk (HB1.out.trans (hb2.mono HB1.out.size))
    clear hb2
    go_wp2
    go_ret
    exact ⟨rfl, HB2.out⟩
  case true =>
  go_wp2_with fail
  refine (HF1.out _ HB1.out).mono ?_
  rintro en w2 ⟨rfl, hb2⟩
  have HB2 : Kp (Below w.heap.size w w2) := ⟨Below.trans (by repeat (first | refine Below.alloc ?_ (by have := HB1.out.size; (try simp) <;> omega) _ | refine bDrewN ?_ _ | refine Below.drew ?_ | refine Below.setCell ?_ (by have := HB1.out.size; (try simp) <;> omega) _ | exact HB1.out)) (hb2.mono (by have := HB1.out.size; (try simp) <;> omega))⟩
  have hz2_0 : w.heap.size < w2.heap.size := by have := hb2.size; (try simp at this); omega
  obtain ⟨hc, hf⟩ := bcell hb2
  have c2_0_0 : w2.cell? ⟨w.heap.size, 0, none⟩ = some (.int .i64 n) := (hc _ _ (by (try simp) <;> omega)).trans (by go_simp)
  have c2_0_1 : w2.cell? ⟨w.heap.size, 1, none⟩ = some ((.slice g1 M c1)) := (hc _ _ (by (try simp) <;> omega)).trans (by go_simp)
  have z2_0 : ∀ j, w2.frozen? ⟨w.heap.size, j, none⟩ = false := fun j => (hf _ _ (by (try simp) <;> omega)).trans (by go_simp)
  clear hc hf hb2
  go_wp2_with fail
  refine (HF2.out _ HB2.out).mono ?_
  rintro en w3 ⟨rfl, hb3⟩
  have HB3 : Kp (Below w.heap.size w w3) := ⟨Below.trans (by repeat (first | refine Below.alloc ?_ (by have := HB2.out.size; (try simp) <;> omega) _ | refine bDrewN ?_ _ | refine Below.drew ?_ | refine Below.setCell ?_ (by have := HB2.out.size; (try simp) <;> omega) _ | exact HB2.out)) (hb3.mono (by have := HB2.out.size; (try simp) <;> omega))⟩
  have hz3_0 : w.heap.size < w3.heap.size := by have := hb3.size; (try simp at this); omega
  obtain ⟨hc, hf⟩ := bcell hb3
  have c3_0_0 : w3.cell? ⟨w.heap.size, 0, none⟩ = some (.int .i64 n) := (hc _ _ (by (try simp) <;> omega)).trans (by go_simp)
  have c3_0_1 : w3.cell? ⟨w.heap.size, 1, none⟩ = some ((.slice g1 M c1)) := (hc _ _ (by (try simp) <;> omega)).trans (by go_simp)
  have z3_0 : ∀ j, w3.frozen? ⟨w.heap.size, j, none⟩ = false := fun j => (hf _ _ (by (try simp) <;> omega)).trans (by go_simp)
  clear hc hf hb3
  go_wp2_with fail
  refine (HG1.out _ HB3.out).mono ?_
  rintro en w4 ⟨rfl, hb4⟩
  have HB4 : Kp (Below w.heap.size w w4) := ⟨Below.trans (by repeat (first | refine Below.alloc ?_ (by have := HB3.out.size; (try simp) <;> omega) _ | refine bDrewN ?_ _ | refine Below.drew ?_ | refine Below.setCell ?_ (by have := HB3.out.size; (try simp) <;> omega) _ | exact HB3.out)) (hb4.mono (by have := HB3.out.size; (try simp) <;> omega))⟩
  have hz4_0 : w.heap.size < w4.heap.size := by have := hb4.size; (try simp at this); omega
  obtain ⟨hc, hf⟩ := bcell hb4
  have c4_0_0 : w4.cell? ⟨w.heap.size, 0, none⟩ = some (.int .i64 n) := (hc _ _ (by (try simp) <;> omega)).trans (by go_simp)
  have c4_0_1 : w4.cell? ⟨w.heap.size, 1, none⟩ = some ((.slice g1 M c1)) := (hc _ _ (by (try simp) <;> omega)).trans (by go_simp)
  have z4_0 : ∀ j, w4.frozen? ⟨w.heap.size, j, none⟩ = false := fun j => (hf _ _ (by (try simp) <;> omega)).trans (by go_simp)
  clear hc hf hb4
  go_wp2_with fail
  refine (HG2.out _ HB4.out).mono ?_
  rintro en w5 ⟨rfl, hb5⟩
  have HB5 : Kp (Below w.heap.size w w5) := ⟨Below.trans (by repeat (first | refine Below.alloc ?_ (by have := HB4.out.size; (try simp) <;> omega) _ | refine bDrewN ?_ _ | refine Below.drew ?_ | refine Below.setCell ?_ (by have := HB4.out.size; (try simp) <;> omega) _ | exact HB4.out)) (hb5.mono (by have := HB4.out.size; (try simp) <;> omega))⟩
  have hz5_0 : w.heap.size < w5.heap.size := by have := hb5.size; (try simp at this); omega
  obtain ⟨hc, hf⟩ := bcell hb5
  have c5_0_0 : w5.cell? ⟨w.heap.size, 0, none⟩ = some (.int .i64 n) := (hc _ _ (by (try simp) <;> omega)).trans (by go_simp)
  have c5_0_1 : w5.cell? ⟨w.heap.size, 1, none⟩ = some ((.slice g1 M c1)) := (hc _ _ (by (try simp) <;> omega)).trans (by go_simp)
  have z5_0 : ∀ j, w5.frozen? ⟨w.heap.size, j, none⟩ = false := fun j => (hf _ _ (by (try simp) <;> omega)).trans (by go_simp)
  clear hc hf hb5
  go_wp2_with fail
  refine (HS1.out _ HB5.out).mono ?_
  rintro en w6 ⟨ga, ca, rfl, ha, hb6⟩
  have HA6 := Kp.mk ha
  clear ha
  have HB6 : Kp (Below w.heap.size w w6) := ⟨Below.trans (by repeat (first | refine Below.alloc ?_ (by have := HB5.out.size; (try simp) <;> omega) _ | refine bDrewN ?_ _ | refine Below.drew ?_ | refine Below.setCell ?_ (by have := HB5.out.size; (try simp) <;> omega) _ | exact HB5.out)) (hb6.mono (by have := HB5.out.size; (try simp) <;> omega))⟩
  have hz6_0 : w.heap.size < w6.heap.size := by have := hb6.size; (try simp at this); omega
  obtain ⟨hc, hf⟩ := bcell hb6
  have c6_0_0 : w6.cell? ⟨w.heap.size, 0, none⟩ = some (.int .i64 n) := (hc _ _ (by (try simp) <;> omega)).trans (by go_simp)
  have c6_0_1 : w6.cell? ⟨w.heap.size, 1, none⟩ = some ((.slice g1 M c1)) := (hc _ _ (by (try simp) <;> omega)).trans (by go_simp)
  have z6_0 : ∀ j, w6.frozen? ⟨w.heap.size, j, none⟩ = false := fun j => (hf _ _ (by (try simp) <;> omega)).trans (by go_simp)
  clear hc hf hb6
  go_wp2_with fail
  refine (HS2.out _ HB6.out).mono ?_
  rintro en w7 ⟨gb, cb, rfl, hb, hb7⟩
  have HA7 := Kp.mk (HA6.out.below hb7)
  have HB7x := Kp.mk hb
  clear hb
  have HB7 : Kp (Below w.heap.size w w7) := ⟨Below.trans (by repeat (first | refine Below.alloc ?_ (by have := HB6.out.size; (try simp) <;> omega) _ | refine bDrewN ?_ _ | refine Below.drew ?_ | refine Below.setCell ?_ (by have := HB6.out.size; (try simp) <;> omega) _ | exact HB6.out)) (hb7.mono (by have := HB6.out.size; (try simp) <;> omega))⟩
  have hz7_0 : w.heap.size < w7.heap.size := by have := hb7.size; (try simp at this); omega
  obtain ⟨hc, hf⟩ := bcell hb7
  have c7_0_0 : w7.cell? ⟨w.heap.size, 0, none⟩ = some (.int .i64 n) := (hc _ _ (by (try simp) <;> omega)).trans (by go_simp)
  have c7_0_1 : w7.cell? ⟨w.heap.size, 1, none⟩ = some ((.slice g1 M c1)) := (hc _ _ (by (try simp) <;> omega)).trans (by go_simp)
  have z7_0 : ∀ j, w7.frozen? ⟨w.heap.size, j, none⟩ = false := fun j => (hf _ _ (by (try simp) <;> omega)).trans (by go_simp)
  clear hc hf hb7
  go_wp2_with fail
  refine (HSG.out _ _ _ _ _ HA7.out HB7x.out).mono ?_
  rintro en w8 ⟨rfl, hb8⟩
  have HB8 : Kp (Below w.heap.size w w8) := ⟨Below.trans (by repeat (first | refine Below.alloc ?_ (by have := HB7.out.size; (try simp) <;> omega) _ | refine bDrewN ?_ _ | refine Below.drew ?_ | refine Below.setCell ?_ (by have := HB7.out.size; (try simp) <;> omega) _ | exact HB7.out)) (hb8.mono (by have := HB7.out.size; (try simp) <;> omega))⟩
  have hz8_0 : w.heap.size < w8.heap.size := by have := hb8.size; (try simp at this); omega
  obtain ⟨hc, hf⟩ := bcell hb8
  have c8_0_0 : w8.cell? ⟨w.heap.size, 0, none⟩ = some (.int .i64 n) := (hc _ _ (by (try simp) <;> omega)).trans (by go_simp)
  have c8_0_1 : w8.cell? ⟨w.heap.size, 1, none⟩ = some ((.slice g1 M c1)) := (hc _ _ (by (try simp) <;> omega)).trans (by go_simp)
  have z8_0 : ∀ j, w8.frozen? ⟨w.heap.size, j, none⟩ = false := fun j => (hf _ _ (by (try simp) <;> omega)).trans (by go_simp)
  clear hc hf hb8
  go_wp2_with fail
  refine (HAW.out _).mono ?_
  rintro en w9 ⟨rfl, hb9⟩
  have HB9 := Kp.mk (HB8.out.trans (hb9.mono HB8.out.size))
  clear hb9
  go_wp2
  go_ret
  exact ⟨rfl, HB9.out⟩
end Go.Proofs.Ytcjlijiifhggfaa.Cv
namespace Go.Proofs.Ytcjlijiifhggfaa.Cv
open Go.ChangeShapes Go.WideShapes Go.ChangeAt Go.RowKit

set_option maxRecDepth 100000 in
theorem faces_lifted (os : Os) (started : os.Started) (H : Type) (enc : TypeId × Value → H) :
    ReturnsInHanded {} Try.checked os 4 .any (Rows.carveFacesSpec.pre6 enc Try.prog Try.f4 Rows.carveFacesRow.domain false) (Rows.carveFacesSpec.post enc Try.prog Try.f4 false true false false) := by
  refine returnsInHanded_of_change (C := Try.checked) own started (by kernel_rfl) Try.func4
    (ChangeSpec.witness6 (enc := enc) (C := Try.checked) false ⟨#[], #[.agg #[.int .i64 0, .slice none 0 0], .int .i64 0], []⟩ 8 (by kernel_rfl) (by kernel_rfl) (by kernel_rfl) (by kernel_rfl)) ?_
  intro W base args ds gs before hval0 hW _ _
  have hval : ∀ (j : Nat) t v, Try.f4.params[j]? = some t → args[j]? = some v → Value.okWide Try.prog W .any base t v := hval0
  have hW' := hW
  obtain ⟨p, q, hA0, hV, rfl, hfz, hnd⟩ := hW
  have hA : DataW.TrodAll enc Try.prog W 0 (fun _ => true) true Try.f4.params.toList args.toList ds p := hA0
  rw [Try.params4] at hA hval
  obtain ⟨v0, v1, d0, d1, p0, p1, rfl, rfl, rfl, h0, h1⟩ := trodAll_two hA
  obtain ⟨rfl, rfl⟩ := trodVars_none hV
  obtain ⟨s0, k0, L0, rfl, hs0, -, -⟩ := open_block (hval 0 24 v0 rfl rfl) h0
  obtain ⟨n1, rfl, rfl, rfl, wn1⟩ := open_int Try.underlying3 (hval 1 3 v1 rfl rfl) h1
  clear hA0 hval0
  simp only [List.append_nil] at hW'
  have hlt : ∀ x ∈ p0, x.block < W.heap.size := fun x hx => hW'.lt x (by simpa using hx)
  have hp0 : ∀ x ∈ p0, x.block < W.heap.size := fun x hx => hlt x (by simp [hx])
  refine (lawFaces_any s0 n1 k0 L0 W hs0).mono fun e W' ⟨he, hg⟩ => ?_
  subst he
  exact ⟨_, rfl, _, _, _, [], _, [], hW', trodAll_mk1 (shut_bool Try.underlying4 _), trodAll_mk2 (Below.trod laidOutL (by kernel_rfl) (of_decide_eq_true (by kernel_rfl)) h0 hg hp0) (shut_int Try.underlying3 wn1), rfl, hg.frame _, fun h => by cases h⟩

theorem faces_said : Rows.CarveFacesSaid :=
  OpenClaim.holds_of_wide 4 Try.f4 rfl rfl rfl rfl rfl rfl rfl ⟨rfl, rfl, rfl, rfl, rfl⟩ rfl rfl rfl rfl rfl (by kernel_rfl) Try.func4 (by kernel_rfl)
    (of_decide_eq_true (by kernel_rfl)) (by unfold Func.isWrapper; first | (rw [if_pos (by decide +kernel)]; kernel_rfl) | (rw [if_neg (by decide +kernel)]; exact ⟨rfl, rfl⟩))
    (fun os started H enc _ => faces_lifted os started H enc)
end Go.Proofs.Ytcjlijiifhggfaa.Cv
