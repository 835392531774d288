/-
  WALKS (layer 5, carve): View at any block; what is dark; small blocks and views.
-/
import Derived.Test.YtcjlijiifhggfaaCvViewN
namespace Go.Proofs.Ytcjlijiifhggfaa.Cv
open Go Go.RowKit Go.Sort

theorem View_in (s : Nat) (v : Value) (h : List Bool) (ax : Int) (f : Nat) (sq : Gr → Int × Int) (hax : AxF ax f sq) (hx : ixB ax 3 = true) (w : World) (hs : 1 ≤ s) (hs2 : s ≤ 10) (hl : h.length = s * s * s) (hv : LB w v h) :
    Calls Try.prog 63 #[.agg #[.int .i64 s, v], .int .i64 ax] w fun en w' => ∃ v, en = .returned (.tuple #[v, .int .i64 0]) ∧ VB w' v s ((cnts s (s * s) sq (grainsL s h)).map fun n => decide (0 < n)) ∧ Below w.heap.size w w' := by
  have hb : blockB s h.length = true := by
    unfold blockB
    rw [side_iff.2 (by omega), decide_eq_true (by rw [hl, Int.natCast_mul, Int.natCast_mul])]; rfl
  have HX : Kp (∀ W, Below w.heap.size w W → Calls Try.prog 87 #[.agg #[.int .i64 s, v], .int .i64 ax] W fun en w' => ∃ u, en = .returned (.agg #[.int .i64 s, u]) ∧ OB W.heap.size w' u ((cnts s (s * s) sq (grainsL s h)).map fun n => decide (0 < n)) ∧ Below W.heap.size W w') := ⟨fun W hW => view_any s v h ax f sq hax W hs hs2 hl (hv.below hW)⟩
  obtain ⟨g, c, rfl⟩ := hv.shape
  have HB : Kp (∀ W, Calls Try.prog 32 #[.agg #[.int .i64 s, .slice g h.length c]] W fun e w' => e = .returned (.bool true) ∧ Below W.heap.size W w') := ⟨fun W => hb ▸ ValidBlock_any s g h.length c W⟩
  have HA : Kp (∀ W, Calls Try.prog 53 #[.int .i64 ax] W fun e w' => e = .returned (.bool true) ∧ W = w') := ⟨fun W => hx ▸ isAxis_any ax W⟩
  obtain ⟨L, hL⟩ : ∃ L, (cnts s (s * s) sq (grainsL s h)).map (fun n => decide (0 < n)) = L := ⟨_, rfl⟩
  rw [hL] at HX ⊢
  clear hl hv hb hL hax hx
  go_enter Try.func63, Try.ntmps63
  go_wp2_with fail
  refine (HB.out _).mono ?_
  rintro en w1 ⟨rfl, hb1⟩
  have HB1 : Kp (Below w.heap.size w w1) := ⟨Below.trans (by repeat (first | refine Below.alloc ?_ (by (try simp) <;> omega) _ | refine bDrewN ?_ _ | refine Below.drew ?_ | refine Below.setCell ?_ (by (try simp) <;> omega) _ | exact Below.refl _ _)) (hb1.mono (by (try simp) <;> omega))⟩
  have hz1_0 : w.heap.size < w1.heap.size := by have := hb1.size; (try simp at this); omega
  have hz1_1 : w.heap.size + 1 < w1.heap.size := by have := hb1.size; (try simp at this); omega
  obtain ⟨hc, hf⟩ := bcell hb1
  have c1_0_0 : w1.cell? ⟨w.heap.size, 0, none⟩ = some (.int .i64 s) := (hc _ _ (by (try simp) <;> omega)).trans (by go_simp)
  have c1_0_1 : w1.cell? ⟨w.heap.size, 1, none⟩ = some ((.slice g h.length c)) := (hc _ _ (by (try simp) <;> omega)).trans (by go_simp)
  have z1_0 : ∀ j, w1.frozen? ⟨w.heap.size, j, none⟩ = false := fun j => (hf _ _ (by (try simp) <;> omega)).trans (by go_simp)
  have c1_1_0 : w1.cell? ⟨w.heap.size + 1, 0, none⟩ = some (.int .i64 0) := (hc _ _ (by (try simp) <;> omega)).trans (by go_simp)
  have c1_1_1 : w1.cell? ⟨w.heap.size + 1, 1, none⟩ = some ((.slice none 0 0)) := (hc _ _ (by (try simp) <;> omega)).trans (by go_simp)
  have z1_1 : ∀ j, w1.frozen? ⟨w.heap.size + 1, j, none⟩ = false := fun j => (hf _ _ (by (try simp) <;> omega)).trans (by go_simp)
  clear hc hf hb1
  go_wp2_with fail
  refine (HA.out _).mono ?_
  rintro en w2 ⟨rfl, rfl⟩
  go_wp2_with fail
  refine (HX.out _ HB1.out).mono ?_
  rintro en w2 ⟨u, rfl, hu, hb2⟩
  obtain ⟨gu, cu, rfl⟩ := hu.lb.shape
  have HR : Kp (OB (w.heap.size + 1 + 1) w2 _ L) := ⟨hu.more (by omega)⟩
  clear hu
  have HB2 : Kp (Below w.heap.size w w2) := ⟨Below.trans (by repeat (first | refine Below.alloc ?_ (by have := HB1.out.size; (try simp) <;> omega) _ | refine bDrewN ?_ _ | refine Below.drew ?_ | refine Below.setCell ?_ (by have := HB1.out.size; (try simp) <;> omega) _ | exact HB1.out)) (hb2.mono (by have := HB1.out.size; (try simp) <;> omega))⟩
  have hz2_0 : w.heap.size + 1 < w2.heap.size := by have := hb2.size; (try simp at this); omega
  obtain ⟨hc, hf⟩ := bcell hb2
  have c2_0_0 : w2.cell? ⟨w.heap.size + 1, 0, none⟩ = some (.int .i64 0) := (hc _ _ (by (try simp) <;> omega)).trans (by go_simp)
  have c2_0_1 : w2.cell? ⟨w.heap.size + 1, 1, none⟩ = some ((.slice none 0 0)) := (hc _ _ (by (try simp) <;> omega)).trans (by go_simp)
  have z2_0 : ∀ j, w2.frozen? ⟨w.heap.size + 1, j, none⟩ = false := fun j => (hf _ _ (by (try simp) <;> omega)).trans (by go_simp)
  clear hc hf hb2 c1_0_0 c1_0_1 z1_0 c1_1_0 c1_1_1 z1_1
  go_wp2
  have HB3 : Below w.heap.size w ((w2.setCell ⟨w.heap.size + 1, 0, none⟩ (.int .i64 s)).setCell ⟨w.heap.size + 1, 1, none⟩ (.slice gu L.length cu)) := by (have hzS := HB2.out.size; (repeat (with_reducible first | exact HB2.out | refine Below.setCell ?_ ?_ _ | refine Below.alloc ?_ ?_ _ | refine Below.drew ?_ | refine bDrewN ?_ _)); all_goals ((try simp) <;> omega))
  have hV2 := (HR.out.set (w.heap.size + 1) 0 (.int .i64 s) (by omega)).set (w.heap.size + 1) 1 (.slice gu L.length cu) (by omega)
  exact bodyPost_ret (v := .tuple #[.agg #[.int .i64 s, .slice gu L.length cu], .int .i64 0]) (by simp [results, Try.results63, go_sem, c2_0_0, c2_0_1]) rfl ⟨_, rfl, ⟨_, rfl, hV2.lb⟩, HB3⟩
theorem View_bad (n : Int) (g : Option Addr) (m c : Nat) (ax : Int) (w : World) (hb : blockB n m = false) :
    Calls Try.prog 63 #[.agg #[.int .i64 n, .slice g m c], .int .i64 ax] w fun e w' => e = .returned (.tuple #[.agg #[.int .i64 0, .slice none 0 0], .int .i64 1]) ∧ Below w.heap.size w w' := by
  have HB : Kp (∀ W, Calls Try.prog 32 #[.agg #[.int .i64 n, .slice g m c]] W fun e w' => e = .returned (.bool false) ∧ Below W.heap.size W w') := ⟨fun W => hb ▸ ValidBlock_any n g m c W⟩
  clear hb
  go_enter Try.func63, Try.ntmps63
  go_wp2_with fail
  refine (HB.out _).mono ?_
  rintro en w1 ⟨rfl, hb1⟩
  have HB1 : Kp (Below w.heap.size w w1) := ⟨Below.trans (by repeat (first | refine Below.alloc ?_ (by (try simp) <;> omega) _ | refine bDrewN ?_ _ | refine Below.drew ?_ | refine Below.setCell ?_ (by (try simp) <;> omega) _ | exact Below.refl _ _)) (hb1.mono (by (try simp) <;> omega))⟩
  have hz1_0 : w.heap.size < w1.heap.size := by have := hb1.size; (try simp at this); omega
  have hz1_1 : w.heap.size + 1 < w1.heap.size := by have := hb1.size; (try simp at this); omega
  obtain ⟨hc, hf⟩ := bcell hb1
  have c1_0_0 : w1.cell? ⟨w.heap.size, 0, none⟩ = some (.int .i64 n) := (hc _ _ (by (try simp) <;> omega)).trans (by go_simp)
  have c1_0_1 : w1.cell? ⟨w.heap.size, 1, none⟩ = some ((.slice g m c)) := (hc _ _ (by (try simp) <;> omega)).trans (by go_simp)
  have z1_0 : ∀ j, w1.frozen? ⟨w.heap.size, j, none⟩ = false := fun j => (hf _ _ (by (try simp) <;> omega)).trans (by go_simp)
  have c1_1_0 : w1.cell? ⟨w.heap.size + 1, 0, none⟩ = some (.int .i64 0) := (hc _ _ (by (try simp) <;> omega)).trans (by go_simp)
  have c1_1_1 : w1.cell? ⟨w.heap.size + 1, 1, none⟩ = some ((.slice none 0 0)) := (hc _ _ (by (try simp) <;> omega)).trans (by go_simp)
  have z1_1 : ∀ j, w1.frozen? ⟨w.heap.size + 1, j, none⟩ = false := fun j => (hf _ _ (by (try simp) <;> omega)).trans (by go_simp)
  clear hc hf hb1
  go_wp2
  exact bodyPost_ret (v := .tuple #[.agg #[.int .i64 0, .slice none 0 0], .int .i64 1]) (by simp [results, Try.results63, go_sem, c1_1_0, c1_1_1]) rfl ⟨rfl, by (have hzS := HB1.out.size; (repeat (with_reducible first | exact HB1.out | refine Below.setCell ?_ ?_ _ | refine Below.alloc ?_ ?_ _ | refine Below.drew ?_ | refine bDrewN ?_ _)); all_goals ((try simp) <;> omega))⟩
theorem View_at (s k : Nat) (u : Value) (h : List Bool) (w : World) (hk : k < 3) (hs : 1 ≤ s) (hs2 : s ≤ 10) (hl : h.length = s * s * s) (hu : LB w u h) :
    Calls Try.prog 63 #[.agg #[.int .i64 s, u], .int .i64 (k : Int)] w fun e w' => ∃ g c, e = .returned (.tuple #[.agg #[.int .i64 s, .slice g (s * s) c], .int .i64 0]) ∧ LB w' (.slice g (s * s) c) (viewL s k h) ∧ Below w.heap.size w w' := by
  obtain ⟨f, hf⟩ := axFs k hk
  refine (View_in s u h k f (axSq k) hf (by unfold ixB; simp; omega) w hs hs2 hl hu).mono ?_
  rintro e w' ⟨v, rfl, ⟨x, rfl, hx⟩, hb⟩
  rw [cnts_view] at hx
  obtain ⟨g, c, rfl⟩ := hx.shape
  rw [viewL_len] at hx ⊢
  exact ⟨g, c, rfl, hx, hb⟩
theorem light_any (s : Int) (g : Option Addr) (n c Y : Nat) (w : World) (h0 : w.cell? ⟨Y, 0, none⟩ = some (.int .i64 s)) (h1 : w.cell? ⟨Y, 1, none⟩ = some (.slice g n c)) :
    Calls Try.prog 7 #[.slice (some ⟨Y, 0, none⟩) 1 1] w fun e w' => e = .returned (.bool (decide (n ≤ 2000))) ∧ Below w.heap.size w w' := by
  have hYl := World.block_lt_of_cell? _ _ h0
  have HC := Lib.hid (And.intro h0 h1)
  clear h0 h1
  go_enter Try.func7, Try.ntmps7
  go_wp2
  go_loopw [7] (fun i wr => ∃ k : Nat, k ≤ 1 ∧ i = .int .i64 (k : Int) ∧ Kp ((k = 1 → n ≤ 2000) ∧ Below w.heap.size w wr)) (fun i _ => 1 - (intOf i).toNat)
  case atStart => exact ⟨0, by omega, rfl, ⟨by omega, Below.refl _ _⟩⟩
  case round =>
    obtain ⟨k, hk, rfl, HB⟩ := hrel
    by_cases hlt : k < 1
    · obtain rfl : k = 0 := by omega
      have c0 : wr.cell? ⟨Y, 0, none⟩ = some (.int .i64 s) := (HB.out.2.cell (p := ⟨Y, 0, none⟩) hYl).trans HC.out.1
      have c1 : wr.cell? ⟨Y, 1, none⟩ = some (.slice g n c) := (HB.out.2.cell (p := ⟨Y, 1, none⟩) hYl).trans HC.out.2
      have hzr := HB.out.2.size
      by_cases hn : n ≤ 2000
      · have o1 : ¬ (2000 : Int) < (n : Int) := by omega
        have HB2 : Kp ((1 = 1 → n ≤ 2000) ∧ Below w.heap.size w (wr.alloc (.cells #[.int .i64 s, .slice g n c] 24))) := ⟨fun _ => hn, HB.out.2.alloc hzr _⟩
        go_wp2
        go_roundw
        case rel => exact ⟨1, by omega, by go_num, HB2⟩
        case measure => simp [intOf]
      · have o1 : (2000 : Int) < (n : Int) := by omega
        have HD : Kp (decide (n ≤ 2000) = false) := ⟨decide_eq_false hn⟩
        have HB2 : Kp (Below w.heap.size w (wr.alloc (.cells #[.int .i64 s, .slice g n c] 24))) := ⟨HB.out.2.alloc hzr _⟩
        clear hn
        go_wp2
        go_ret
        exact ⟨ret_bool HD.out.symm, HB2.out⟩
    · have HD : Kp (decide (n ≤ 2000) = true) := ⟨decide_eq_true (HB.out.1 (by omega))⟩
      have o1 : ¬ (k : Int) < 1 := by omega
      go_wp2
      go_ret
      exact ⟨ret_bool HD.out.symm, HB.out.2⟩
theorem darkB_no {A B : List Bool} {i : Nat} (ha : A[i]? = some true) (hb : B[i]? = some false) : darkB A B = false := by
  unfold darkB
  rw [decide_eq_false_iff_not]
  intro h
  have := h i (List.getElem?_eq_some_iff.1 ha).1 (by rw [List.getD_eq_getElem?_getD, ha]; rfl)
  rw [List.getD_eq_getElem?_getD, hb] at this
  cases this
end Go.Proofs.Ytcjlijiifhggfaa.Cv
