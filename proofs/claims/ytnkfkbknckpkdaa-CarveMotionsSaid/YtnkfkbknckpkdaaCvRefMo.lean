/-
  WALKS (layer 5, carve): Mirrored and Turned, by the reference.
-/
import Derived.Test.YtnkfkbknckpkdaaCvRefK
import Derived.Test.YtnkfkbknckpkdaaCvMove
namespace Go.Proofs.Ytnkfkbknckpkdaa.Cv
open Go Go.RowKit Go.Sort

theorem dl_start {w w2 W3 : World} {B M s N : Nat} {L : List Bool} {t : TypeId} (h : w2.alloc (.cells #[.int .i64 s, .slice (some ⟨M, 0, none⟩) N N] t) = W3) (hN : 0 < N) (hb : Below w.heap.size w w2) (hm : MR M N N L w2) (b0 : w2.cell? ⟨B, 0, none⟩ = some (.int .i64 s)) (r0 : w2.cell? ⟨B + 1, 0, none⟩ = some (.int .i64 0)) (r1 : w2.cell? ⟨B + 1, 1, none⟩ = some (.slice none 0 0)) (rz : ∀ j, w2.frozen? ⟨B + 1, j, none⟩ = false) :
    DlI w B M N w2.heap.size s N L W3 ∧ M ≠ w2.heap.size ∧ Below w2.heap.size w2 W3 := by
  subst h
  have hb2 : Below w2.heap.size w2 (w2.alloc (.cells #[.int .i64 s, .slice (some ⟨M, 0, none⟩) N N] t)) := by repeat (first | exact Below.refl _ _ | refine Below.alloc ?_ (by simp <;> omega) _ | refine bDrewN ?_ _ | refine Below.drew ?_)
  have l : ∀ {b i : Nat} {v : Value}, w2.cell? ⟨b, i, none⟩ = some v → (w2.alloc (.cells #[.int .i64 s, .slice (some ⟨M, 0, none⟩) N N] t)).cell? ⟨b, i, none⟩ = some v := fun hv => (hb2.cell (p := ⟨_, _, none⟩) (World.block_lt_of_cell? _ _ hv)).trans hv
  exact ⟨⟨hb.alloc hb.size _, hm.on hN hb2, l b0, by go_simp, by go_simp, l r0, l r1, fun j => (hb2.frozen (p := ⟨B + 1, j, none⟩) (World.block_lt_of_cell? _ ⟨B + 1, 0, none⟩ r0)).trans (rz j)⟩, Nat.ne_of_lt (hm.lt hN), hb2⟩
/-- One grain more that moves. -/
theorem mv_more {s j : Nat} {f : Gr → Gr} {L : List Gr} {x : Gr} (hx : L[j]? = some x) (hp : insB s (f x) = true) :
    ∃ q : Nat, idx s (f x) = q ∧ q < s * s * s ∧ (∃ y, (metL s ((L.take j).map f))[q]? = some y) ∧ metL s ((L.take (j + 1)).map f) = (metL s ((L.take j).map f)).set q true := by
  obtain ⟨q, h1, h2, h3, h4⟩ := metL_at (l := (L.take j).map f) (mem_places hp)
  refine ⟨q, h1, h2, ⟨_, h3⟩, ?_⟩
  have hk' := (List.getElem?_eq_some_iff.1 hx).1
  have e : L[j] = x := (List.getElem?_eq_some_iff.1 hx).2
  rw [List.take_succ_eq_append_getElem hk', e, List.map_append]
  exact h4
theorem rMirrored_inv (n ax : Int) (g : Option Addr) (m c : Nat) (w : World) (hb : blockB n m = false) : Calls Try.prog 11 #[.agg #[.int .i64 n, .slice g m c], .int .i64 ax] w (OfNo w 1) := by
  have HB : Kp (∀ W, Calls Try.prog 27 #[.agg #[.int .i64 n, .slice g m c]] W fun e w' => e = .returned (.bool false) ∧ Below W.heap.size W w') := ⟨fun W => hb ▸ rValidBlock_any n g m c W⟩
  clear hb
  go_enter Try.func11, Try.ntmps11
  go_wp2_with fail
  refine (HB.out _).mono ?_
  rintro en w1 ⟨rfl, hb1⟩
  have HB1 : Kp (Below w.heap.size w w1) := ⟨Below.trans (by repeat (first | refine Below.alloc ?_ (by (try simp) <;> omega) _ | refine bDrewN ?_ _ | refine Below.drew ?_ | refine Below.setCell ?_ (by (try simp) <;> omega) _ | exact Below.refl _ _)) (hb1.mono (by (try simp) <;> omega))⟩
  have hz1_0 : w.heap.size < w1.heap.size := by have := hb1.size; (try simp at this); omega
  have hz1_1 : w.heap.size + 1 < w1.heap.size := by have := hb1.size; (try simp at this); omega
  obtain ⟨hc, hf⟩ := bcell hb1
  have c1_0_0 : w1.cell? ⟨w.heap.size, 0, none⟩ = some (.int .i64 n) := (hc _ _ (by (try simp) <;> omega)).trans (by go_simp)
  have c1_0_1 : w1.cell? ⟨w.heap.size, 1, none⟩ = some ((.slice g m c)) := (hc _ _ (by (try simp) <;> omega)).trans (by go_simp)
  have z1_0 : ∀ j, w1.frozen? ⟨w.heap.size, j, none⟩ = false := fun j => (hf _ _ (by (try simp) <;> omega)).trans (by go_simp)
  have c1_1_0 : w1.cell? ⟨w.heap.size + 1, 0, none⟩ = some (.int .i64 0) := (hc _ _ (by (try simp) <;> omega)).trans (by go_simp)
  have c1_1_1 : w1.cell? ⟨w.heap.size + 1, 1, none⟩ = some ((.slice none 0 0)) := (hc _ _ (by (try simp) <;> omega)).trans (by go_simp)
  have z1_1 : ∀ j, w1.frozen? ⟨w.heap.size + 1, j, none⟩ = false := fun j => (hf _ _ (by (try simp) <;> omega)).trans (by go_simp)
  clear hc hf hb1
  go_wp2
  exact bodyPost_ret (v := .tuple #[.agg #[.int .i64 0, .slice none 0 0], .int .i64 1]) (by simp [results, Try.results11, go_sem, c1_1_0, c1_1_1]) rfl ⟨rfl, by (have hzS := HB1.out.size; (repeat (with_reducible first | exact HB1.out | refine Below.setCell ?_ ?_ _ | refine Below.alloc ?_ ?_ _ | refine Below.drew ?_ | refine bDrewN ?_ _)); all_goals ((try simp) <;> omega))⟩
theorem rMirrored_axis (n ax : Int) (g : Option Addr) (m c : Nat) (w : World) (hb : blockB n m = true) (hx : ixB ax 3 = false) : Calls Try.prog 11 #[.agg #[.int .i64 n, .slice g m c], .int .i64 ax] w (OfNo w 7) := by
  have HB : Kp (∀ W, Calls Try.prog 27 #[.agg #[.int .i64 n, .slice g m c]] W fun e w' => e = .returned (.bool true) ∧ Below W.heap.size W w') := ⟨fun W => hb ▸ rValidBlock_any n g m c W⟩
  have HI : Kp (∀ W, Calls Try.prog 39 #[.int .i64 ax, .int .i64 0, .int .i64 2] W fun e w' => e = .returned (.bool false) ∧ W = w') := ⟨fun W => by
    have hw := rwithin_any ax 0 2 W
    have e : (decide ((0 : Int) ≤ ax) && decide (ax ≤ 2)) = false := by
      rw [← hx]
      unfold ixB
      congr 1
      exact decide_eq_decide.2 (by omega)
    rwa [e] at hw⟩
  clear hb hx
  go_enter Try.func11, Try.ntmps11
  go_wp2_with fail
  refine (HB.out _).mono ?_
  rintro en w1 ⟨rfl, hb1⟩
  have HB1 : Kp (Below w.heap.size w w1) := ⟨Below.trans (by repeat (first | refine Below.alloc ?_ (by (try simp) <;> omega) _ | refine bDrewN ?_ _ | refine Below.drew ?_ | refine Below.setCell ?_ (by (try simp) <;> omega) _ | exact Below.refl _ _)) (hb1.mono (by (try simp) <;> omega))⟩
  have hz1_0 : w.heap.size < w1.heap.size := by have := hb1.size; (try simp at this); omega
  have hz1_1 : w.heap.size + 1 < w1.heap.size := by have := hb1.size; (try simp at this); omega
  obtain ⟨hc, hf⟩ := bcell hb1
  have c1_0_0 : w1.cell? ⟨w.heap.size, 0, none⟩ = some (.int .i64 n) := (hc _ _ (by (try simp) <;> omega)).trans (by go_simp)
  have c1_0_1 : w1.cell? ⟨w.heap.size, 1, none⟩ = some ((.slice g m c)) := (hc _ _ (by (try simp) <;> omega)).trans (by go_simp)
  have z1_0 : ∀ j, w1.frozen? ⟨w.heap.size, j, none⟩ = false := fun j => (hf _ _ (by (try simp) <;> omega)).trans (by go_simp)
  have c1_1_0 : w1.cell? ⟨w.heap.size + 1, 0, none⟩ = some (.int .i64 0) := (hc _ _ (by (try simp) <;> omega)).trans (by go_simp)
  have c1_1_1 : w1.cell? ⟨w.heap.size + 1, 1, none⟩ = some ((.slice none 0 0)) := (hc _ _ (by (try simp) <;> omega)).trans (by go_simp)
  have z1_1 : ∀ j, w1.frozen? ⟨w.heap.size + 1, j, none⟩ = false := fun j => (hf _ _ (by (try simp) <;> omega)).trans (by go_simp)
  clear hc hf hb1
  go_wp2_with fail
  refine (HI.out _).mono ?_
  rintro en w2 ⟨rfl, rfl⟩
  go_wp2
  exact bodyPost_ret (v := .tuple #[.agg #[.int .i64 0, .slice none 0 0], .int .i64 7]) (by simp [results, Try.results11, go_sem, c1_1_0, c1_1_1]) rfl ⟨rfl, by (have hzS := HB1.out.size; (repeat (with_reducible first | exact HB1.out | refine Below.setCell ?_ ?_ _ | refine Below.alloc ?_ ?_ _ | refine Below.drew ?_ | refine bDrewN ?_ _)); all_goals ((try simp) <;> omega))⟩
theorem rTurned_inv (n q : Int) (g : Option Addr) (m c : Nat) (w : World) (hb : blockB n m = false) : Calls Try.prog 13 #[.agg #[.int .i64 n, .slice g m c], .int .i64 q] w (OfNo w 1) := by
  have HB : Kp (∀ W, Calls Try.prog 27 #[.agg #[.int .i64 n, .slice g m c]] W fun e w' => e = .returned (.bool false) ∧ Below W.heap.size W w') := ⟨fun W => hb ▸ rValidBlock_any n g m c W⟩
  clear hb
  go_enter Try.func13, Try.ntmps13
  go_wp2_with fail
  refine (HB.out _).mono ?_
  rintro en w1 ⟨rfl, hb1⟩
  have HB1 : Kp (Below w.heap.size w w1) := ⟨Below.trans (by repeat (first | refine Below.alloc ?_ (by (try simp) <;> omega) _ | refine bDrewN ?_ _ | refine Below.drew ?_ | refine Below.setCell ?_ (by (try simp) <;> omega) _ | exact Below.refl _ _)) (hb1.mono (by (try simp) <;> omega))⟩
  have hz1_0 : w.heap.size < w1.heap.size := by have := hb1.size; (try simp at this); omega
  have hz1_1 : w.heap.size + 1 < w1.heap.size := by have := hb1.size; (try simp at this); omega
  obtain ⟨hc, hf⟩ := bcell hb1
  have c1_0_0 : w1.cell? ⟨w.heap.size, 0, none⟩ = some (.int .i64 n) := (hc _ _ (by (try simp) <;> omega)).trans (by go_simp)
  have c1_0_1 : w1.cell? ⟨w.heap.size, 1, none⟩ = some ((.slice g m c)) := (hc _ _ (by (try simp) <;> omega)).trans (by go_simp)
  have z1_0 : ∀ j, w1.frozen? ⟨w.heap.size, j, none⟩ = false := fun j => (hf _ _ (by (try simp) <;> omega)).trans (by go_simp)
  have c1_1_0 : w1.cell? ⟨w.heap.size + 1, 0, none⟩ = some (.int .i64 0) := (hc _ _ (by (try simp) <;> omega)).trans (by go_simp)
  have c1_1_1 : w1.cell? ⟨w.heap.size + 1, 1, none⟩ = some ((.slice none 0 0)) := (hc _ _ (by (try simp) <;> omega)).trans (by go_simp)
  have z1_1 : ∀ j, w1.frozen? ⟨w.heap.size + 1, j, none⟩ = false := fun j => (hf _ _ (by (try simp) <;> omega)).trans (by go_simp)
  clear hc hf hb1
  go_wp2
  exact bodyPost_ret (v := .tuple #[.agg #[.int .i64 0, .slice none 0 0], .int .i64 1]) (by simp [results, Try.results13, go_sem, c1_1_0, c1_1_1]) rfl ⟨rfl, by (have hzS := HB1.out.size; (repeat (with_reducible first | exact HB1.out | refine Below.setCell ?_ ?_ _ | refine Below.alloc ?_ ?_ _ | refine Below.drew ?_ | refine bDrewN ?_ _)); all_goals ((try simp) <;> omega))⟩
set_option maxRecDepth 100000 in
set_option maxHeartbeats 4000000 in
theorem rMir0 (s : Nat) (u : Value) (h : List Bool) (w : World) (hs1 : 1 ≤ s) (hs2 : s ≤ 10) (hl : h.length = s * s * s) (hv : LB w u h) :
    Calls Try.prog 11 #[.agg #[.int .i64 s, u], .int .i64 0] w fun en w' => ∃ r, en = .returned (.tuple #[r, .int .i64 0]) ∧ VF w.heap.size w' r s (metL s ((grainsL s h).map (mirG s 0))) ∧ Below w.heap.size w w' := by
  have hb : blockB s h.length = true := by
    unfold blockB
    rw [side_iff.2 (by omega), decide_eq_true (by rw [hl, Int.natCast_mul, Int.natCast_mul])]; rfl
  have HG : Kp (∀ W, Below w.heap.size w W → Calls Try.prog 41 #[.agg #[.int .i64 s, u]] W fun e w' => ∃ r, e = .returned r ∧ (∃ B0, W.heap.size ≤ B0 ∧ OwnG w' B0 r (grainsL s h)) ∧ Below W.heap.size W w') := ⟨fun W hW => rgrains_any s u h W hs1 hs2 hl (hv.below hW)⟩
  obtain ⟨g, c, rfl⟩ := hv.shape
  have HVB : Kp (∀ W, Calls Try.prog 27 #[.agg #[.int .i64 s, .slice g h.length c]] W fun e w' => e = .returned (.bool true) ∧ Below W.heap.size W w') := ⟨fun W => hb ▸ rValidBlock_any s g h.length c W⟩
  have HEM : Kp (∀ W, Calls Try.prog 40 #[.int .i64 s] W fun e w' => ∃ M, e = .returned (.agg #[.int .i64 s, .slice (some ⟨M, 0, none⟩) (s * s * s) (s * s * s)]) ∧ W.heap.size < M ∧ MR M (s * s * s) (s * s * s) (List.replicate (s * s * s) false) w' ∧ Below W.heap.size W w') := ⟨fun W => rempty_any s hs2 W⟩
  have HPL : Kp (∀ W x, insB s x = true → Calls Try.prog 42 #[.int .i64 s, .agg #[.int .i64 x.x, .int .i64 x.y, .int .i64 x.z]] W fun e w' => e = .returned (.int .i64 (idx s x)) ∧ Below W.heap.size W w') := ⟨fun W x hx => rplace_any hs2 x hx W⟩
  have HLT : Kp (∀ x ∈ grainsL s h, insB s x = true) := ⟨fun x hx => (grains_in hx).1⟩
  have HFEW : Kp ((grainsL s h).length ≤ 1000) := ⟨Nat.le_trans (grains_few s h) (cube_bd hs2).2⟩
  have H10 := Kp.mk hs2
  have hP : 0 < s * s * s := Nat.mul_pos (Nat.mul_pos hs1 hs1) hs1
  have HN1 : Kp (s * s * s ≤ 1000) := ⟨(cube_bd hs2).2⟩
  obtain ⟨N, hN⟩ : ∃ N, s * s * s = N := ⟨_, rfl⟩
  have HNS := Kp.mk hN
  rw [hN] at HEM hP hl HN1
  rw [hl] at HG HVB
  rw [hl]
  have HP := Kp.mk hP
  have e1 : IntKind.i64.wrap ((s : Int) - 1) = (s : Int) - 1 := IntWalk.i64_in _ (by omega)
  obtain ⟨L, hL⟩ : ∃ L, grainsL s h = L := ⟨_, rfl⟩
  rw [hL] at HG HLT HFEW ⊢
  have HI : Kp (∀ W, Calls Try.prog 39 #[.int .i64 0, .int .i64 0, .int .i64 2] W fun e w' => e = .returned (.bool true) ∧ W = w') := ⟨fun W => rwithin_any 0 0 2 W⟩
  clear hb hv hl hN hL hs1 hs2 hP
  go_enter Try.func11, Try.ntmps11
  go_wp2_with fail
  refine (HVB.out _).mono ?_
  rintro en w1 ⟨rfl, hb1⟩
  have HB1 : Kp (Below w.heap.size w w1) := ⟨Below.trans (by repeat (first | refine Below.alloc ?_ (by (try simp) <;> omega) _ | refine bDrewN ?_ _ | refine Below.drew ?_ | refine Below.setCell ?_ (by (try simp) <;> omega) _ | exact Below.refl _ _)) (hb1.mono (by (try simp) <;> omega))⟩
  have hz1_0 : w.heap.size < w1.heap.size := by have := hb1.size; (try simp at this); omega
  have hz1_1 : w.heap.size + 1 < w1.heap.size := by have := hb1.size; (try simp at this); omega
  obtain ⟨hc, hf⟩ := bcell hb1
  have c1_0_0 : w1.cell? ⟨w.heap.size, 0, none⟩ = some (.int .i64 s) := (hc _ _ (by (try simp) <;> omega)).trans (by go_simp)
  have c1_0_1 : w1.cell? ⟨w.heap.size, 1, none⟩ = some ((.slice g N c)) := (hc _ _ (by (try simp) <;> omega)).trans (by go_simp)
  have z1_0 : ∀ j, w1.frozen? ⟨w.heap.size, j, none⟩ = false := fun j => (hf _ _ (by (try simp) <;> omega)).trans (by go_simp)
  have c1_1_0 : w1.cell? ⟨w.heap.size + 1, 0, none⟩ = some (.int .i64 0) := (hc _ _ (by (try simp) <;> omega)).trans (by go_simp)
  have c1_1_1 : w1.cell? ⟨w.heap.size + 1, 1, none⟩ = some ((.slice none 0 0)) := (hc _ _ (by (try simp) <;> omega)).trans (by go_simp)
  have z1_1 : ∀ j, w1.frozen? ⟨w.heap.size + 1, j, none⟩ = false := fun j => (hf _ _ (by (try simp) <;> omega)).trans (by go_simp)
  clear hc hf hb1
  go_wp2_with fail
  refine (HI.out _).mono ?_
  rintro en wi ⟨rfl, rfl⟩
  go_wp2_with fail
  refine (HEM.out _).mono ?_
  rintro en w2 ⟨M, rfl, hM, hmr, hb2⟩
  have HB2 : Kp (Below w.heap.size w w2) := ⟨Below.trans (by repeat (first | refine Below.alloc ?_ (by have := HB1.out.size; (try simp) <;> omega) _ | refine bDrewN ?_ _ | refine Below.drew ?_ | refine Below.setCell ?_ (by have := HB1.out.size; (try simp) <;> omega) _ | exact HB1.out)) (hb2.mono (by have := HB1.out.size; (try simp) <;> omega))⟩
  have hz2_0 : w.heap.size < w2.heap.size := by have := hb2.size; (try simp at this); omega
  have hz2_1 : w.heap.size + 1 < w2.heap.size := by have := hb2.size; (try simp at this); omega
  obtain ⟨hc, hf⟩ := bcell hb2
  have c2_0_0 : w2.cell? ⟨w.heap.size, 0, none⟩ = some (.int .i64 s) := (hc _ _ (by (try simp) <;> omega)).trans (by go_simp)
  have c2_0_1 : w2.cell? ⟨w.heap.size, 1, none⟩ = some ((.slice g N c)) := (hc _ _ (by (try simp) <;> omega)).trans (by go_simp)
  have z2_0 : ∀ j, w2.frozen? ⟨w.heap.size, j, none⟩ = false := fun j => (hf _ _ (by (try simp) <;> omega)).trans (by go_simp)
  have c2_1_0 : w2.cell? ⟨w.heap.size + 1, 0, none⟩ = some (.int .i64 0) := (hc _ _ (by (try simp) <;> omega)).trans (by go_simp)
  have c2_1_1 : w2.cell? ⟨w.heap.size + 1, 1, none⟩ = some ((.slice none 0 0)) := (hc _ _ (by (try simp) <;> omega)).trans (by go_simp)
  have z2_1 : ∀ j, w2.frozen? ⟨w.heap.size + 1, j, none⟩ = false := fun j => (hf _ _ (by (try simp) <;> omega)).trans (by go_simp)
  clear hc hf hb2 c1_0_0 c1_0_1 z1_0 c1_1_0 c1_1_1 z1_1
  go_wp2_with fail
  obtain ⟨W3, hW3⟩ : ∃ W3, w2.alloc (.cells #[.int .i64 s, .slice (some ⟨M, 0, none⟩) N N] 24) = W3 := ⟨_, rfl⟩
  rw [hW3]
  obtain ⟨hd3, hne, hb3⟩ := dl_start hW3 HP.out HB2.out hmr c2_0_0 c2_1_0 c2_1_1 z2_1
  have a0 := (hb3.cell (p := ⟨w.heap.size, 0, none⟩) hz2_0).trans c2_0_0
  have a1 := (hb3.cell (p := ⟨w.heap.size, 1, none⟩) hz2_0).trans c2_0_1
  obtain ⟨Q, hQ⟩ : ∃ Q, w2.heap.size = Q := ⟨_, rfl⟩
  obtain ⟨B, hB⟩ : ∃ B, w.heap.size = B := ⟨_, rfl⟩
  have HBB := Kp.mk hB
  have HM1 : Kp (B + 1 < M) := ⟨by omega⟩
  rw [hQ] at hd3 hne
  rw [hB] at hd3 a0 a1
  simp only [hQ, hB]
  have HD3 := Kp.mk hd3
  have HNE := Kp.mk hne
  clear hW3 hd3 hne hb3 c2_0_0 c2_0_1 z2_0 hz2_0 c2_1_0 c2_1_1 z2_1 hz2_1 HB2 hmr hM hQ
  refine (HG.out _ HD3.out.below).mono ?_
  rintro en w4 ⟨r, rfl, ⟨B0, hB0, ho⟩, hb4⟩
  have HM0 : Kp (M < B0) := ⟨Nat.lt_of_lt_of_le (HD3.out.mr.lt HP.out) hB0⟩
  have HD : Kp (DlI w B M N Q s N (metL s ((L.take 0).map (mirG s 0))) w4) := ⟨by rw [List.take_zero, List.map_nil, metL_nil, HNS.out]; exact HD3.out.on HP.out hb4⟩
  obtain ⟨gr, cr, rfl⟩ := ho.gs.shape
  have HO := Kp.mk ho
  clear ho hb4 hB0 a0 a1 HD3 HG hB
  go_wp2
  obtain ⟨K, hK⟩ : ∃ K, L.length = K := ⟨_, rfl⟩
  have HK := Kp.mk hK
  rw [hK]
  rw [hK] at HO
  clear hK
  go_loopw [23] (fun i wr => ∃ j : Nat, j ≤ K ∧ i = .int .i64 j ∧ Kp (OwnG wr B0 (.slice gr K cr) L) ∧ Kp (DlI w B M N Q s N (metL s ((L.take j).map (mirG s 0))) wr)) (fun i _ => K - (intOf i).toNat)
  case atStart => exact ⟨0, Nat.zero_le _, rfl, HO, HD⟩
  case round =>
    clear HD HO
    obtain ⟨j, hj, rfl, HO, HD⟩ := hrel
    by_cases hlt : j < K
    · obtain ⟨x, hx⟩ : ∃ x, L[j]? = some x := ⟨_, List.getElem?_eq_getElem (by rw [HK.out]; exact hlt)⟩
      obtain ⟨g', c', e', -, hi⟩ := HO.out.gs
      obtain ⟨b, oo, hg, hbl, d1, d2, d3⟩ := hi j x hx
      simp only [Value.slice.injEq] at e'
      obtain ⟨e1', -, -⟩ := e'
      rw [hg] at e1'
      subst e1'
      have o1 : (j : Int) < (K : Int) := by omega
      have o4 : j ≤ 1000 := by have := HFEW.out; have := HK.out; omega
      have hin := HLT.out x (List.mem_of_getElem? hx)
      obtain ⟨q, hq1, hq2, ⟨yv, hy⟩, hq4⟩ := mv_more (f := mirG s 0) hx (mir_ins hin)
      have hidx : idx s ⟨((s : Int) - 1 - x.x), x.y, x.z⟩ = (q : Int) := hq1
      have HSX : Kp (∀ W, Calls Try.prog 42 #[.int .i64 s, .agg #[.int .i64 ((s : Int) - 1 - x.x), .int .i64 x.y, .int .i64 x.z]] W fun e w' => e = .returned (.int .i64 q) ∧ Below W.heap.size W w') := ⟨fun W => hidx ▸ HPL.out W ⟨((s : Int) - 1 - x.x), x.y, x.z⟩ (mir_ins (k := 0) hin)⟩
      obtain ⟨⟨i0, i1⟩, ⟨i2, i3⟩, i4, i5⟩ := ins_iff.1 hin
      have e2 : IntKind.i64.wrap ((s : Int) - 1 - x.x) = (s : Int) - 1 - x.x := IntWalk.i64_in _ (by have := H10.out; omega)
      have hbz : Below wr.heap.size wr (wr.alloc (.cells #[.int .i64 ((s : Int) - 1 - x.x), .int .i64 x.y, .int .i64 x.z] 48)) := by repeat (first | exact Below.refl _ _ | refine Below.alloc ?_ (by simp <;> omega) _ | refine bDrewN ?_ _ | refine Below.drew ?_)
      have HD2 := Kp.mk (HD.out.on HP.out hbz)
      have HO2 := Kp.mk (HO.out.on hbz)
      have HTK : Kp (metL s ((L.take (j + 1)).map (mirG s 0)) = (metL s ((L.take j).map (mirG s 0))).set q true ∧ q < N) := ⟨hq4, by rw [← HNS.out]; exact hq2⟩
      have HY := Kp.mk hy
      have hqN := HTK.out.2
      have p0 := HD.out.b0
      have hBl := World.block_lt_of_cell? _ _ p0
      clear hx hin hbz hq1 hq2 hy hq4 hi hg hbl hidx i0 i1 i2 i3 i4 i5
      go_wp2
      obtain ⟨w5, hw5⟩ : ∃ w5, wr.alloc (.cells #[.int .i64 ((s : Int) - 1 - x.x), .int .i64 x.y, .int .i64 x.z] 48) = w5 := ⟨_, rfl⟩
      rw [hw5] at HD2 HO2
      obtain ⟨G, hG⟩ : ∃ G, wr.heap.size = G := ⟨_, rfl⟩
      have f0 : w5.cell? ⟨G, 0, none⟩ = some (.int .i64 ((s : Int) - 1 - x.x)) := by subst hG; subst hw5; simp [go_sem]
      have f1 : w5.cell? ⟨G, 1, none⟩ = some (.int .i64 x.y) := by subst hG; subst hw5; simp [go_sem]
      have f2 : w5.cell? ⟨G, 2, none⟩ = some (.int .i64 x.z) := by subst hG; subst hw5; simp [go_sem]
      have q0 := HD2.out.b0
      have q1 := HD2.out.c1
      have q3 := HD2.out.mr.cell HY.out
      have q4 := HD2.out.mr.z q
      have hQl := World.block_lt_of_cell? _ _ q1
      have hMl := World.block_lt_of_cell? _ _ q3
      have o5 : (q : Int) < (N : Int) := by omega
      rw [hw5, hG]
      clear hw5 hG d1 d2 d3 hqN p0 hBl
      go_region_with (go_at_call 42; refine (HSX.out _).mono ?_; rintro en w6 ⟨rfl, hb6⟩; have hbw : Below w5.heap.size w5 w6 := (by (repeat (with_reducible first | exact Below.refl _ _ | refine Below.drew ?_ | refine bDrewN ?_ _)) : Below w5.heap.size w5 _).trans hb6; have n1 := (hbw.cell (p := ⟨Q, 1, none⟩) hQl).trans q1; have n3 := (hbw.cell (p := ⟨M, q, none⟩) hMl).trans q3; have n4 := (hbw.frozen (p := ⟨M, q, none⟩) hMl).trans q4; clear hb6)
      all_goals
        go_wp2
        go_roundw
        case rel =>
          exact ⟨j + 1, by omega, by go_num, ⟨(HO2.out.on hbw).put HM0.out⟩, ⟨(HD2.out.on HP.out hbw).put HTK.out.2 HTK.out.1 HNE.out HM1.out HBB.out⟩⟩
        case measure => simp [intOf]; omega
    · have hkn : j = K := by omega
      have hD := HD.out
      rw [hkn, ← HK.out, List.take_length] at hD
      have HO2 := Kp.mk hD
      have q0 := hD.c0
      have q1 := hD.c1
      have p0 := hD.r0
      have p1 := hD.r1
      have pz := hD.rz
      have o2 : ¬ (j : Int) < (K : Int) := by omega
      clear hD HD HO
      go_wp2
      refine bodyPost_ret (v := .tuple #[.agg #[.int .i64 s, .slice (some ⟨M, 0, none⟩) N N], .int .i64 0]) ?_ rfl ?_
      · simp [results, Try.results11, go_sem, p0, p1]
      have hb : Below w.heap.size w ((wr.setCell ⟨B + 1, 0, none⟩ (.int .i64 s)).setCell ⟨B + 1, 1, none⟩ (.slice (some ⟨M, 0, none⟩) N N)) := (HO2.out.below.setCell (by have := HBB.out; simp only; omega) _).setCell (by have := HBB.out; simp only; omega) _
      have g1 := setCell_grown wr (B + 1) 0 (.int .i64 s)
      have g2 := setCell_grown (wr.setCell ⟨B + 1, 0, none⟩ (.int .i64 s)) (B + 1) 1 (.slice (some ⟨M, 0, none⟩) N N)
      have hne : some M ≠ some (B + 1) := fun e => Nat.ne_of_gt HM1.out (Option.some.inj e)
      have hM := HO2.out.mr.lt HP.out
      exact ⟨_, rfl, ⟨_, rfl, (HO2.out.mr.same (Nat.le_trans g1.size g2.size) ((g2.block M (Nat.lt_of_lt_of_le hM g1.size) hne).trans (g1.block M hM hne))).fb (by have := HBB.out; have := HM1.out; omega)⟩, hb⟩
set_option maxRecDepth 100000 in
set_option maxHeartbeats 4000000 in
theorem rMir1 (s : Nat) (u : Value) (h : List Bool) (w : World) (hs1 : 1 ≤ s) (hs2 : s ≤ 10) (hl : h.length = s * s * s) (hv : LB w u h) :
    Calls Try.prog 11 #[.agg #[.int .i64 s, u], .int .i64 1] w fun en w' => ∃ r, en = .returned (.tuple #[r, .int .i64 0]) ∧ VF w.heap.size w' r s (metL s ((grainsL s h).map (mirG s 1))) ∧ Below w.heap.size w w' := by
  have hb : blockB s h.length = true := by
    unfold blockB
    rw [side_iff.2 (by omega), decide_eq_true (by rw [hl, Int.natCast_mul, Int.natCast_mul])]; rfl
  have HG : Kp (∀ W, Below w.heap.size w W → Calls Try.prog 41 #[.agg #[.int .i64 s, u]] W fun e w' => ∃ r, e = .returned r ∧ (∃ B0, W.heap.size ≤ B0 ∧ OwnG w' B0 r (grainsL s h)) ∧ Below W.heap.size W w') := ⟨fun W hW => rgrains_any s u h W hs1 hs2 hl (hv.below hW)⟩
  obtain ⟨g, c, rfl⟩ := hv.shape
  have HVB : Kp (∀ W, Calls Try.prog 27 #[.agg #[.int .i64 s, .slice g h.length c]] W fun e w' => e = .returned (.bool true) ∧ Below W.heap.size W w') := ⟨fun W => hb ▸ rValidBlock_any s g h.length c W⟩
  have HEM : Kp (∀ W, Calls Try.prog 40 #[.int .i64 s] W fun e w' => ∃ M, e = .returned (.agg #[.int .i64 s, .slice (some ⟨M, 0, none⟩) (s * s * s) (s * s * s)]) ∧ W.heap.size < M ∧ MR M (s * s * s) (s * s * s) (List.replicate (s * s * s) false) w' ∧ Below W.heap.size W w') := ⟨fun W => rempty_any s hs2 W⟩
  have HPL : Kp (∀ W x, insB s x = true → Calls Try.prog 42 #[.int .i64 s, .agg #[.int .i64 x.x, .int .i64 x.y, .int .i64 x.z]] W fun e w' => e = .returned (.int .i64 (idx s x)) ∧ Below W.heap.size W w') := ⟨fun W x hx => rplace_any hs2 x hx W⟩
  have HLT : Kp (∀ x ∈ grainsL s h, insB s x = true) := ⟨fun x hx => (grains_in hx).1⟩
  have HFEW : Kp ((grainsL s h).length ≤ 1000) := ⟨Nat.le_trans (grains_few s h) (cube_bd hs2).2⟩
  have H10 := Kp.mk hs2
  have hP : 0 < s * s * s := Nat.mul_pos (Nat.mul_pos hs1 hs1) hs1
  have HN1 : Kp (s * s * s ≤ 1000) := ⟨(cube_bd hs2).2⟩
  obtain ⟨N, hN⟩ : ∃ N, s * s * s = N := ⟨_, rfl⟩
  have HNS := Kp.mk hN
  rw [hN] at HEM hP hl HN1
  rw [hl] at HG HVB
  rw [hl]
  have HP := Kp.mk hP
  have e1 : IntKind.i64.wrap ((s : Int) - 1) = (s : Int) - 1 := IntWalk.i64_in _ (by omega)
  obtain ⟨L, hL⟩ : ∃ L, grainsL s h = L := ⟨_, rfl⟩
  rw [hL] at HG HLT HFEW ⊢
  have HI : Kp (∀ W, Calls Try.prog 39 #[.int .i64 1, .int .i64 0, .int .i64 2] W fun e w' => e = .returned (.bool true) ∧ W = w') := ⟨fun W => rwithin_any 1 0 2 W⟩
  clear hb hv hl hN hL hs1 hs2 hP
  go_enter Try.func11, Try.ntmps11
  go_wp2_with fail
  refine (HVB.out _).mono ?_
  rintro en w1 ⟨rfl, hb1⟩
  have HB1 : Kp (Below w.heap.size w w1) := ⟨Below.trans (by repeat (first | refine Below.alloc ?_ (by (try simp) <;> omega) _ | refine bDrewN ?_ _ | refine Below.drew ?_ | refine Below.setCell ?_ (by (try simp) <;> omega) _ | exact Below.refl _ _)) (hb1.mono (by (try simp) <;> omega))⟩
  have hz1_0 : w.heap.size < w1.heap.size := by have := hb1.size; (try simp at this); omega
  have hz1_1 : w.heap.size + 1 < w1.heap.size := by have := hb1.size; (try simp at this); omega
  obtain ⟨hc, hf⟩ := bcell hb1
  have c1_0_0 : w1.cell? ⟨w.heap.size, 0, none⟩ = some (.int .i64 s) := (hc _ _ (by (try simp) <;> omega)).trans (by go_simp)
  have c1_0_1 : w1.cell? ⟨w.heap.size, 1, none⟩ = some ((.slice g N c)) := (hc _ _ (by (try simp) <;> omega)).trans (by go_simp)
  have z1_0 : ∀ j, w1.frozen? ⟨w.heap.size, j, none⟩ = false := fun j => (hf _ _ (by (try simp) <;> omega)).trans (by go_simp)
  have c1_1_0 : w1.cell? ⟨w.heap.size + 1, 0, none⟩ = some (.int .i64 0) := (hc _ _ (by (try simp) <;> omega)).trans (by go_simp)
  have c1_1_1 : w1.cell? ⟨w.heap.size + 1, 1, none⟩ = some ((.slice none 0 0)) := (hc _ _ (by (try simp) <;> omega)).trans (by go_simp)
  have z1_1 : ∀ j, w1.frozen? ⟨w.heap.size + 1, j, none⟩ = false := fun j => (hf _ _ (by (try simp) <;> omega)).trans (by go_simp)
  clear hc hf hb1
  go_wp2_with fail
  refine (HI.out _).mono ?_
  rintro en wi ⟨rfl, rfl⟩
  go_wp2_with fail
  refine (HEM.out _).mono ?_
  rintro en w2 ⟨M, rfl, hM, hmr, hb2⟩
  have HB2 : Kp (Below w.heap.size w w2) := ⟨Below.trans (by repeat (first | refine Below.alloc ?_ (by have := HB1.out.size; (try simp) <;> omega) _ | refine bDrewN ?_ _ | refine Below.drew ?_ | refine Below.setCell ?_ (by have := HB1.out.size; (try simp) <;> omega) _ | exact HB1.out)) (hb2.mono (by have := HB1.out.size; (try simp) <;> omega))⟩
  have hz2_0 : w.heap.size < w2.heap.size := by have := hb2.size; (try simp at this); omega
  have hz2_1 : w.heap.size + 1 < w2.heap.size := by have := hb2.size; (try simp at this); omega
  obtain ⟨hc, hf⟩ := bcell hb2
  have c2_0_0 : w2.cell? ⟨w.heap.size, 0, none⟩ = some (.int .i64 s) := (hc _ _ (by (try simp) <;> omega)).trans (by go_simp)
  have c2_0_1 : w2.cell? ⟨w.heap.size, 1, none⟩ = some ((.slice g N c)) := (hc _ _ (by (try simp) <;> omega)).trans (by go_simp)
  have z2_0 : ∀ j, w2.frozen? ⟨w.heap.size, j, none⟩ = false := fun j => (hf _ _ (by (try simp) <;> omega)).trans (by go_simp)
  have c2_1_0 : w2.cell? ⟨w.heap.size + 1, 0, none⟩ = some (.int .i64 0) := (hc _ _ (by (try simp) <;> omega)).trans (by go_simp)
  have c2_1_1 : w2.cell? ⟨w.heap.size + 1, 1, none⟩ = some ((.slice none 0 0)) := (hc _ _ (by (try simp) <;> omega)).trans (by go_simp)
  have z2_1 : ∀ j, w2.frozen? ⟨w.heap.size + 1, j, none⟩ = false := fun j => (hf _ _ (by (try simp) <;> omega)).trans (by go_simp)
  clear hc hf hb2 c1_0_0 c1_0_1 z1_0 c1_1_0 c1_1_1 z1_1
  go_wp2_with fail
  obtain ⟨W3, hW3⟩ : ∃ W3, w2.alloc (.cells #[.int .i64 s, .slice (some ⟨M, 0, none⟩) N N] 24) = W3 := ⟨_, rfl⟩
  rw [hW3]
  obtain ⟨hd3, hne, hb3⟩ := dl_start hW3 HP.out HB2.out hmr c2_0_0 c2_1_0 c2_1_1 z2_1
  have a0 := (hb3.cell (p := ⟨w.heap.size, 0, none⟩) hz2_0).trans c2_0_0
  have a1 := (hb3.cell (p := ⟨w.heap.size, 1, none⟩) hz2_0).trans c2_0_1
  obtain ⟨Q, hQ⟩ : ∃ Q, w2.heap.size = Q := ⟨_, rfl⟩
  obtain ⟨B, hB⟩ : ∃ B, w.heap.size = B := ⟨_, rfl⟩
  have HBB := Kp.mk hB
  have HM1 : Kp (B + 1 < M) := ⟨by omega⟩
  rw [hQ] at hd3 hne
  rw [hB] at hd3 a0 a1
  simp only [hQ, hB]
  have HD3 := Kp.mk hd3
  have HNE := Kp.mk hne
  clear hW3 hd3 hne hb3 c2_0_0 c2_0_1 z2_0 hz2_0 c2_1_0 c2_1_1 z2_1 hz2_1 HB2 hmr hM hQ
  refine (HG.out _ HD3.out.below).mono ?_
  rintro en w4 ⟨r, rfl, ⟨B0, hB0, ho⟩, hb4⟩
  have HM0 : Kp (M < B0) := ⟨Nat.lt_of_lt_of_le (HD3.out.mr.lt HP.out) hB0⟩
  have HD : Kp (DlI w B M N Q s N (metL s ((L.take 0).map (mirG s 1))) w4) := ⟨by rw [List.take_zero, List.map_nil, metL_nil, HNS.out]; exact HD3.out.on HP.out hb4⟩
  obtain ⟨gr, cr, rfl⟩ := ho.gs.shape
  have HO := Kp.mk ho
  clear ho hb4 hB0 a0 a1 HD3 HG hB
  go_wp2
  obtain ⟨K, hK⟩ : ∃ K, L.length = K := ⟨_, rfl⟩
  have HK := Kp.mk hK
  rw [hK]
  rw [hK] at HO
  clear hK
  go_loopw [23] (fun i wr => ∃ j : Nat, j ≤ K ∧ i = .int .i64 j ∧ Kp (OwnG wr B0 (.slice gr K cr) L) ∧ Kp (DlI w B M N Q s N (metL s ((L.take j).map (mirG s 1))) wr)) (fun i _ => K - (intOf i).toNat)
  case atStart => exact ⟨0, Nat.zero_le _, rfl, HO, HD⟩
  case round =>
    clear HD HO
    obtain ⟨j, hj, rfl, HO, HD⟩ := hrel
    by_cases hlt : j < K
    · obtain ⟨x, hx⟩ : ∃ x, L[j]? = some x := ⟨_, List.getElem?_eq_getElem (by rw [HK.out]; exact hlt)⟩
      obtain ⟨g', c', e', -, hi⟩ := HO.out.gs
      obtain ⟨b, oo, hg, hbl, d1, d2, d3⟩ := hi j x hx
      simp only [Value.slice.injEq] at e'
      obtain ⟨e1', -, -⟩ := e'
      rw [hg] at e1'
      subst e1'
      have o1 : (j : Int) < (K : Int) := by omega
      have o4 : j ≤ 1000 := by have := HFEW.out; have := HK.out; omega
      have hin := HLT.out x (List.mem_of_getElem? hx)
      obtain ⟨q, hq1, hq2, ⟨yv, hy⟩, hq4⟩ := mv_more (f := mirG s 1) hx (mir_ins hin)
      have hidx : idx s ⟨x.x, ((s : Int) - 1 - x.y), x.z⟩ = (q : Int) := hq1
      have HSX : Kp (∀ W, Calls Try.prog 42 #[.int .i64 s, .agg #[.int .i64 x.x, .int .i64 ((s : Int) - 1 - x.y), .int .i64 x.z]] W fun e w' => e = .returned (.int .i64 q) ∧ Below W.heap.size W w') := ⟨fun W => hidx ▸ HPL.out W ⟨x.x, ((s : Int) - 1 - x.y), x.z⟩ (mir_ins (k := 1) hin)⟩
      obtain ⟨⟨i0, i1⟩, ⟨i2, i3⟩, i4, i5⟩ := ins_iff.1 hin
      have e2 : IntKind.i64.wrap ((s : Int) - 1 - x.y) = (s : Int) - 1 - x.y := IntWalk.i64_in _ (by have := H10.out; omega)
      have hbz : Below wr.heap.size wr (wr.alloc (.cells #[.int .i64 x.x, .int .i64 ((s : Int) - 1 - x.y), .int .i64 x.z] 48)) := by repeat (first | exact Below.refl _ _ | refine Below.alloc ?_ (by simp <;> omega) _ | refine bDrewN ?_ _ | refine Below.drew ?_)
      have HD2 := Kp.mk (HD.out.on HP.out hbz)
      have HO2 := Kp.mk (HO.out.on hbz)
      have HTK : Kp (metL s ((L.take (j + 1)).map (mirG s 1)) = (metL s ((L.take j).map (mirG s 1))).set q true ∧ q < N) := ⟨hq4, by rw [← HNS.out]; exact hq2⟩
      have HY := Kp.mk hy
      have hqN := HTK.out.2
      have p0 := HD.out.b0
      have hBl := World.block_lt_of_cell? _ _ p0
      clear hx hin hbz hq1 hq2 hy hq4 hi hg hbl hidx i0 i1 i2 i3 i4 i5
      go_wp2
      obtain ⟨w5, hw5⟩ : ∃ w5, wr.alloc (.cells #[.int .i64 x.x, .int .i64 ((s : Int) - 1 - x.y), .int .i64 x.z] 48) = w5 := ⟨_, rfl⟩
      rw [hw5] at HD2 HO2
      obtain ⟨G, hG⟩ : ∃ G, wr.heap.size = G := ⟨_, rfl⟩
      have f0 : w5.cell? ⟨G, 0, none⟩ = some (.int .i64 x.x) := by subst hG; subst hw5; simp [go_sem]
      have f1 : w5.cell? ⟨G, 1, none⟩ = some (.int .i64 ((s : Int) - 1 - x.y)) := by subst hG; subst hw5; simp [go_sem]
      have f2 : w5.cell? ⟨G, 2, none⟩ = some (.int .i64 x.z) := by subst hG; subst hw5; simp [go_sem]
      have q0 := HD2.out.b0
      have q1 := HD2.out.c1
      have q3 := HD2.out.mr.cell HY.out
      have q4 := HD2.out.mr.z q
      have hQl := World.block_lt_of_cell? _ _ q1
      have hMl := World.block_lt_of_cell? _ _ q3
      have o5 : (q : Int) < (N : Int) := by omega
      rw [hw5, hG]
      clear hw5 hG d1 d2 d3 hqN p0 hBl
      go_region_with (go_at_call 42; refine (HSX.out _).mono ?_; rintro en w6 ⟨rfl, hb6⟩; have hbw : Below w5.heap.size w5 w6 := (by (repeat (with_reducible first | exact Below.refl _ _ | refine Below.drew ?_ | refine bDrewN ?_ _)) : Below w5.heap.size w5 _).trans hb6; have n1 := (hbw.cell (p := ⟨Q, 1, none⟩) hQl).trans q1; have n3 := (hbw.cell (p := ⟨M, q, none⟩) hMl).trans q3; have n4 := (hbw.frozen (p := ⟨M, q, none⟩) hMl).trans q4; clear hb6)
      all_goals
        go_wp2
        go_roundw
        case rel =>
          exact ⟨j + 1, by omega, by go_num, ⟨(HO2.out.on hbw).put HM0.out⟩, ⟨(HD2.out.on HP.out hbw).put HTK.out.2 HTK.out.1 HNE.out HM1.out HBB.out⟩⟩
        case measure => simp [intOf]; omega
    · have hkn : j = K := by omega
      have hD := HD.out
      rw [hkn, ← HK.out, List.take_length] at hD
      have HO2 := Kp.mk hD
      have q0 := hD.c0
      have q1 := hD.c1
      have p0 := hD.r0
      have p1 := hD.r1
      have pz := hD.rz
      have o2 : ¬ (j : Int) < (K : Int) := by omega
      clear hD HD HO
      go_wp2
      refine bodyPost_ret (v := .tuple #[.agg #[.int .i64 s, .slice (some ⟨M, 0, none⟩) N N], .int .i64 0]) ?_ rfl ?_
      · simp [results, Try.results11, go_sem, p0, p1]
      have hb : Below w.heap.size w ((wr.setCell ⟨B + 1, 0, none⟩ (.int .i64 s)).setCell ⟨B + 1, 1, none⟩ (.slice (some ⟨M, 0, none⟩) N N)) := (HO2.out.below.setCell (by have := HBB.out; simp only; omega) _).setCell (by have := HBB.out; simp only; omega) _
      have g1 := setCell_grown wr (B + 1) 0 (.int .i64 s)
      have g2 := setCell_grown (wr.setCell ⟨B + 1, 0, none⟩ (.int .i64 s)) (B + 1) 1 (.slice (some ⟨M, 0, none⟩) N N)
      have hne : some M ≠ some (B + 1) := fun e => Nat.ne_of_gt HM1.out (Option.some.inj e)
      have hM := HO2.out.mr.lt HP.out
      exact ⟨_, rfl, ⟨_, rfl, (HO2.out.mr.same (Nat.le_trans g1.size g2.size) ((g2.block M (Nat.lt_of_lt_of_le hM g1.size) hne).trans (g1.block M hM hne))).fb (by have := HBB.out; have := HM1.out; omega)⟩, hb⟩
set_option maxRecDepth 100000 in
set_option maxHeartbeats 4000000 in
theorem rMir2 (s : Nat) (u : Value) (h : List Bool) (w : World) (hs1 : 1 ≤ s) (hs2 : s ≤ 10) (hl : h.length = s * s * s) (hv : LB w u h) :
    Calls Try.prog 11 #[.agg #[.int .i64 s, u], .int .i64 2] w fun en w' => ∃ r, en = .returned (.tuple #[r, .int .i64 0]) ∧ VF w.heap.size w' r s (metL s ((grainsL s h).map (mirG s 2))) ∧ Below w.heap.size w w' := by
  have hb : blockB s h.length = true := by
    unfold blockB
    rw [side_iff.2 (by omega), decide_eq_true (by rw [hl, Int.natCast_mul, Int.natCast_mul])]; rfl
  have HG : Kp (∀ W, Below w.heap.size w W → Calls Try.prog 41 #[.agg #[.int .i64 s, u]] W fun e w' => ∃ r, e = .returned r ∧ (∃ B0, W.heap.size ≤ B0 ∧ OwnG w' B0 r (grainsL s h)) ∧ Below W.heap.size W w') := ⟨fun W hW => rgrains_any s u h W hs1 hs2 hl (hv.below hW)⟩
  obtain ⟨g, c, rfl⟩ := hv.shape
  have HVB : Kp (∀ W, Calls Try.prog 27 #[.agg #[.int .i64 s, .slice g h.length c]] W fun e w' => e = .returned (.bool true) ∧ Below W.heap.size W w') := ⟨fun W => hb ▸ rValidBlock_any s g h.length c W⟩
  have HEM : Kp (∀ W, Calls Try.prog 40 #[.int .i64 s] W fun e w' => ∃ M, e = .returned (.agg #[.int .i64 s, .slice (some ⟨M, 0, none⟩) (s * s * s) (s * s * s)]) ∧ W.heap.size < M ∧ MR M (s * s * s) (s * s * s) (List.replicate (s * s * s) false) w' ∧ Below W.heap.size W w') := ⟨fun W => rempty_any s hs2 W⟩
  have HPL : Kp (∀ W x, insB s x = true → Calls Try.prog 42 #[.int .i64 s, .agg #[.int .i64 x.x, .int .i64 x.y, .int .i64 x.z]] W fun e w' => e = .returned (.int .i64 (idx s x)) ∧ Below W.heap.size W w') := ⟨fun W x hx => rplace_any hs2 x hx W⟩
  have HLT : Kp (∀ x ∈ grainsL s h, insB s x = true) := ⟨fun x hx => (grains_in hx).1⟩
  have HFEW : Kp ((grainsL s h).length ≤ 1000) := ⟨Nat.le_trans (grains_few s h) (cube_bd hs2).2⟩
  have H10 := Kp.mk hs2
  have hP : 0 < s * s * s := Nat.mul_pos (Nat.mul_pos hs1 hs1) hs1
  have HN1 : Kp (s * s * s ≤ 1000) := ⟨(cube_bd hs2).2⟩
  obtain ⟨N, hN⟩ : ∃ N, s * s * s = N := ⟨_, rfl⟩
  have HNS := Kp.mk hN
  rw [hN] at HEM hP hl HN1
  rw [hl] at HG HVB
  rw [hl]
  have HP := Kp.mk hP
  have e1 : IntKind.i64.wrap ((s : Int) - 1) = (s : Int) - 1 := IntWalk.i64_in _ (by omega)
  obtain ⟨L, hL⟩ : ∃ L, grainsL s h = L := ⟨_, rfl⟩
  rw [hL] at HG HLT HFEW ⊢
  have HI : Kp (∀ W, Calls Try.prog 39 #[.int .i64 2, .int .i64 0, .int .i64 2] W fun e w' => e = .returned (.bool true) ∧ W = w') := ⟨fun W => rwithin_any 2 0 2 W⟩
  clear hb hv hl hN hL hs1 hs2 hP
  go_enter Try.func11, Try.ntmps11
  go_wp2_with fail
  refine (HVB.out _).mono ?_
  rintro en w1 ⟨rfl, hb1⟩
  have HB1 : Kp (Below w.heap.size w w1) := ⟨Below.trans (by repeat (first | refine Below.alloc ?_ (by (try simp) <;> omega) _ | refine bDrewN ?_ _ | refine Below.drew ?_ | refine Below.setCell ?_ (by (try simp) <;> omega) _ | exact Below.refl _ _)) (hb1.mono (by (try simp) <;> omega))⟩
  have hz1_0 : w.heap.size < w1.heap.size := by have := hb1.size; (try simp at this); omega
  have hz1_1 : w.heap.size + 1 < w1.heap.size := by have := hb1.size; (try simp at this); omega
  obtain ⟨hc, hf⟩ := bcell hb1
  have c1_0_0 : w1.cell? ⟨w.heap.size, 0, none⟩ = some (.int .i64 s) := (hc _ _ (by (try simp) <;> omega)).trans (by go_simp)
  have c1_0_1 : w1.cell? ⟨w.heap.size, 1, none⟩ = some ((.slice g N c)) := (hc _ _ (by (try simp) <;> omega)).trans (by go_simp)
  have z1_0 : ∀ j, w1.frozen? ⟨w.heap.size, j, none⟩ = false := fun j => (hf _ _ (by (try simp) <;> omega)).trans (by go_simp)
  have c1_1_0 : w1.cell? ⟨w.heap.size + 1, 0, none⟩ = some (.int .i64 0) := (hc _ _ (by (try simp) <;> omega)).trans (by go_simp)
  have c1_1_1 : w1.cell? ⟨w.heap.size + 1, 1, none⟩ = some ((.slice none 0 0)) := (hc _ _ (by (try simp) <;> omega)).trans (by go_simp)
  have z1_1 : ∀ j, w1.frozen? ⟨w.heap.size + 1, j, none⟩ = false := fun j => (hf _ _ (by (try simp) <;> omega)).trans (by go_simp)
  clear hc hf hb1
  go_wp2_with fail
  refine (HI.out _).mono ?_
  rintro en wi ⟨rfl, rfl⟩
  go_wp2_with fail
  refine (HEM.out _).mono ?_
  rintro en w2 ⟨M, rfl, hM, hmr, hb2⟩
  have HB2 : Kp (Below w.heap.size w w2) := ⟨Below.trans (by repeat (first | refine Below.alloc ?_ (by have := HB1.out.size; (try simp) <;> omega) _ | refine bDrewN ?_ _ | refine Below.drew ?_ | refine Below.setCell ?_ (by have := HB1.out.size; (try simp) <;> omega) _ | exact HB1.out)) (hb2.mono (by have := HB1.out.size; (try simp) <;> omega))⟩
  have hz2_0 : w.heap.size < w2.heap.size := by have := hb2.size; (try simp at this); omega
  have hz2_1 : w.heap.size + 1 < w2.heap.size := by have := hb2.size; (try simp at this); omega
  obtain ⟨hc, hf⟩ := bcell hb2
  have c2_0_0 : w2.cell? ⟨w.heap.size, 0, none⟩ = some (.int .i64 s) := (hc _ _ (by (try simp) <;> omega)).trans (by go_simp)
  have c2_0_1 : w2.cell? ⟨w.heap.size, 1, none⟩ = some ((.slice g N c)) := (hc _ _ (by (try simp) <;> omega)).trans (by go_simp)
  have z2_0 : ∀ j, w2.frozen? ⟨w.heap.size, j, none⟩ = false := fun j => (hf _ _ (by (try simp) <;> omega)).trans (by go_simp)
  have c2_1_0 : w2.cell? ⟨w.heap.size + 1, 0, none⟩ = some (.int .i64 0) := (hc _ _ (by (try simp) <;> omega)).trans (by go_simp)
  have c2_1_1 : w2.cell? ⟨w.heap.size + 1, 1, none⟩ = some ((.slice none 0 0)) := (hc _ _ (by (try simp) <;> omega)).trans (by go_simp)
  have z2_1 : ∀ j, w2.frozen? ⟨w.heap.size + 1, j, none⟩ = false := fun j => (hf _ _ (by (try simp) <;> omega)).trans (by go_simp)
  clear hc hf hb2 c1_0_0 c1_0_1 z1_0 c1_1_0 c1_1_1 z1_1
  go_wp2_with fail
  obtain ⟨W3, hW3⟩ : ∃ W3, w2.alloc (.cells #[.int .i64 s, .slice (some ⟨M, 0, none⟩) N N] 24) = W3 := ⟨_, rfl⟩
  rw [hW3]
  obtain ⟨hd3, hne, hb3⟩ := dl_start hW3 HP.out HB2.out hmr c2_0_0 c2_1_0 c2_1_1 z2_1
  have a0 := (hb3.cell (p := ⟨w.heap.size, 0, none⟩) hz2_0).trans c2_0_0
  have a1 := (hb3.cell (p := ⟨w.heap.size, 1, none⟩) hz2_0).trans c2_0_1
  obtain ⟨Q, hQ⟩ : ∃ Q, w2.heap.size = Q := ⟨_, rfl⟩
  obtain ⟨B, hB⟩ : ∃ B, w.heap.size = B := ⟨_, rfl⟩
  have HBB := Kp.mk hB
  have HM1 : Kp (B + 1 < M) := ⟨by omega⟩
  rw [hQ] at hd3 hne
  rw [hB] at hd3 a0 a1
  simp only [hQ, hB]
  have HD3 := Kp.mk hd3
  have HNE := Kp.mk hne
  clear hW3 hd3 hne hb3 c2_0_0 c2_0_1 z2_0 hz2_0 c2_1_0 c2_1_1 z2_1 hz2_1 HB2 hmr hM hQ
  refine (HG.out _ HD3.out.below).mono ?_
  rintro en w4 ⟨r, rfl, ⟨B0, hB0, ho⟩, hb4⟩
  have HM0 : Kp (M < B0) := ⟨Nat.lt_of_lt_of_le (HD3.out.mr.lt HP.out) hB0⟩
  have HD : Kp (DlI w B M N Q s N (metL s ((L.take 0).map (mirG s 2))) w4) := ⟨by rw [List.take_zero, List.map_nil, metL_nil, HNS.out]; exact HD3.out.on HP.out hb4⟩
  obtain ⟨gr, cr, rfl⟩ := ho.gs.shape
  have HO := Kp.mk ho
  clear ho hb4 hB0 a0 a1 HD3 HG hB
  go_wp2
  obtain ⟨K, hK⟩ : ∃ K, L.length = K := ⟨_, rfl⟩
  have HK := Kp.mk hK
  rw [hK]
  rw [hK] at HO
  clear hK
  go_loopw [23] (fun i wr => ∃ j : Nat, j ≤ K ∧ i = .int .i64 j ∧ Kp (OwnG wr B0 (.slice gr K cr) L) ∧ Kp (DlI w B M N Q s N (metL s ((L.take j).map (mirG s 2))) wr)) (fun i _ => K - (intOf i).toNat)
  case atStart => exact ⟨0, Nat.zero_le _, rfl, HO, HD⟩
  case round =>
    clear HD HO
    obtain ⟨j, hj, rfl, HO, HD⟩ := hrel
    by_cases hlt : j < K
    · obtain ⟨x, hx⟩ : ∃ x, L[j]? = some x := ⟨_, List.getElem?_eq_getElem (by rw [HK.out]; exact hlt)⟩
      obtain ⟨g', c', e', -, hi⟩ := HO.out.gs
      obtain ⟨b, oo, hg, hbl, d1, d2, d3⟩ := hi j x hx
      simp only [Value.slice.injEq] at e'
      obtain ⟨e1', -, -⟩ := e'
      rw [hg] at e1'
      subst e1'
      have o1 : (j : Int) < (K : Int) := by omega
      have o4 : j ≤ 1000 := by have := HFEW.out; have := HK.out; omega
      have hin := HLT.out x (List.mem_of_getElem? hx)
      obtain ⟨q, hq1, hq2, ⟨yv, hy⟩, hq4⟩ := mv_more (f := mirG s 2) hx (mir_ins hin)
      have hidx : idx s ⟨x.x, x.y, ((s : Int) - 1 - x.z)⟩ = (q : Int) := hq1
      have HSX : Kp (∀ W, Calls Try.prog 42 #[.int .i64 s, .agg #[.int .i64 x.x, .int .i64 x.y, .int .i64 ((s : Int) - 1 - x.z)]] W fun e w' => e = .returned (.int .i64 q) ∧ Below W.heap.size W w') := ⟨fun W => hidx ▸ HPL.out W ⟨x.x, x.y, ((s : Int) - 1 - x.z)⟩ (mir_ins (k := 2) hin)⟩
      obtain ⟨⟨i0, i1⟩, ⟨i2, i3⟩, i4, i5⟩ := ins_iff.1 hin
      have e2 : IntKind.i64.wrap ((s : Int) - 1 - x.z) = (s : Int) - 1 - x.z := IntWalk.i64_in _ (by have := H10.out; omega)
      have hbz : Below wr.heap.size wr (wr.alloc (.cells #[.int .i64 x.x, .int .i64 x.y, .int .i64 ((s : Int) - 1 - x.z)] 48)) := by repeat (first | exact Below.refl _ _ | refine Below.alloc ?_ (by simp <;> omega) _ | refine bDrewN ?_ _ | refine Below.drew ?_)
      have HD2 := Kp.mk (HD.out.on HP.out hbz)
      have HO2 := Kp.mk (HO.out.on hbz)
      have HTK : Kp (metL s ((L.take (j + 1)).map (mirG s 2)) = (metL s ((L.take j).map (mirG s 2))).set q true ∧ q < N) := ⟨hq4, by rw [← HNS.out]; exact hq2⟩
      have HY := Kp.mk hy
      have hqN := HTK.out.2
      have p0 := HD.out.b0
      have hBl := World.block_lt_of_cell? _ _ p0
      clear hx hin hbz hq1 hq2 hy hq4 hi hg hbl hidx i0 i1 i2 i3 i4 i5
      go_wp2
      obtain ⟨w5, hw5⟩ : ∃ w5, wr.alloc (.cells #[.int .i64 x.x, .int .i64 x.y, .int .i64 ((s : Int) - 1 - x.z)] 48) = w5 := ⟨_, rfl⟩
      rw [hw5] at HD2 HO2
      obtain ⟨G, hG⟩ : ∃ G, wr.heap.size = G := ⟨_, rfl⟩
      have f0 : w5.cell? ⟨G, 0, none⟩ = some (.int .i64 x.x) := by subst hG; subst hw5; simp [go_sem]
      have f1 : w5.cell? ⟨G, 1, none⟩ = some (.int .i64 x.y) := by subst hG; subst hw5; simp [go_sem]
      have f2 : w5.cell? ⟨G, 2, none⟩ = some (.int .i64 ((s : Int) - 1 - x.z)) := by subst hG; subst hw5; simp [go_sem]
      have q0 := HD2.out.b0
      have q1 := HD2.out.c1
      have q3 := HD2.out.mr.cell HY.out
      have q4 := HD2.out.mr.z q
      have hQl := World.block_lt_of_cell? _ _ q1
      have hMl := World.block_lt_of_cell? _ _ q3
      have o5 : (q : Int) < (N : Int) := by omega
      rw [hw5, hG]
      clear hw5 hG d1 d2 d3 hqN p0 hBl
      go_region_with (go_at_call 42; refine (HSX.out _).mono ?_; rintro en w6 ⟨rfl, hb6⟩; have hbw : Below w5.heap.size w5 w6 := (by (repeat (with_reducible first | exact Below.refl _ _ | refine Below.drew ?_ | refine bDrewN ?_ _)) : Below w5.heap.size w5 _).trans hb6; have n1 := (hbw.cell (p := ⟨Q, 1, none⟩) hQl).trans q1; have n3 := (hbw.cell (p := ⟨M, q, none⟩) hMl).trans q3; have n4 := (hbw.frozen (p := ⟨M, q, none⟩) hMl).trans q4; clear hb6)
      all_goals
        go_wp2
        go_roundw
        case rel =>
          exact ⟨j + 1, by omega, by go_num, ⟨(HO2.out.on hbw).put HM0.out⟩, ⟨(HD2.out.on HP.out hbw).put HTK.out.2 HTK.out.1 HNE.out HM1.out HBB.out⟩⟩
        case measure => simp [intOf]; omega
    · have hkn : j = K := by omega
      have hD := HD.out
      rw [hkn, ← HK.out, List.take_length] at hD
      have HO2 := Kp.mk hD
      have q0 := hD.c0
      have q1 := hD.c1
      have p0 := hD.r0
      have p1 := hD.r1
      have pz := hD.rz
      have o2 : ¬ (j : Int) < (K : Int) := by omega
      clear hD HD HO
      go_wp2
      refine bodyPost_ret (v := .tuple #[.agg #[.int .i64 s, .slice (some ⟨M, 0, none⟩) N N], .int .i64 0]) ?_ rfl ?_
      · simp [results, Try.results11, go_sem, p0, p1]
      have hb : Below w.heap.size w ((wr.setCell ⟨B + 1, 0, none⟩ (.int .i64 s)).setCell ⟨B + 1, 1, none⟩ (.slice (some ⟨M, 0, none⟩) N N)) := (HO2.out.below.setCell (by have := HBB.out; simp only; omega) _).setCell (by have := HBB.out; simp only; omega) _
      have g1 := setCell_grown wr (B + 1) 0 (.int .i64 s)
      have g2 := setCell_grown (wr.setCell ⟨B + 1, 0, none⟩ (.int .i64 s)) (B + 1) 1 (.slice (some ⟨M, 0, none⟩) N N)
      have hne : some M ≠ some (B + 1) := fun e => Nat.ne_of_gt HM1.out (Option.some.inj e)
      have hM := HO2.out.mr.lt HP.out
      exact ⟨_, rfl, ⟨_, rfl, (HO2.out.mr.same (Nat.le_trans g1.size g2.size) ((g2.block M (Nat.lt_of_lt_of_le hM g1.size) hne).trans (g1.block M hM hne))).fb (by have := HBB.out; have := HM1.out; omega)⟩, hb⟩
/-- A boxed grain that may be written. -/
structure GrZ (W : World) (U : Nat) (x : Gr) : Prop where
  at_ : GrAt W U x
  z0 : W.frozen? ⟨U, 0, none⟩ = false
  z1 : W.frozen? ⟨U, 1, none⟩ = false
theorem grz_turn {W : World} {U s : Nat} {g : Gr} (h : GrZ W U g) : GrZ ((W.setCell ⟨U, 0, none⟩ (.int .i64 ((s : Int) - 1 - g.y))).setCell ⟨U, 1, none⟩ (.int .i64 g.x)) U (rotG s g) := by
  obtain ⟨⟨a0, a1, a2⟩, z0, z1⟩ := h
  refine ⟨⟨?_, ?_, ?_⟩, ?_, ?_⟩ <;> simp [go_sem, rotG, a0, a1, a2, z0, z1]
set_option maxRecDepth 100000 in
set_option maxHeartbeats 4000000 in
theorem rTurn (s : Nat) (qq : Int) (u : Value) (h : List Bool) (w : World) (hs1 : 1 ≤ s) (hs2 : s ≤ 10) (hl : h.length = s * s * s) (hv : LB w u h) :
    Calls Try.prog 13 #[.agg #[.int .i64 s, u], .int .i64 qq] w fun en w' => ∃ r, en = .returned (.tuple #[r, .int .i64 0]) ∧ VF w.heap.size w' r s (metL s ((grainsL s h).map (rotN s (quart qq)))) ∧ Below w.heap.size w w' := by
  have hb : blockB s h.length = true := by
    unfold blockB
    rw [side_iff.2 (by omega), decide_eq_true (by rw [hl, Int.natCast_mul, Int.natCast_mul])]; rfl
  have HG : Kp (∀ W, Below w.heap.size w W → Calls Try.prog 41 #[.agg #[.int .i64 s, u]] W fun e w' => ∃ r, e = .returned r ∧ (∃ B0, W.heap.size ≤ B0 ∧ OwnG w' B0 r (grainsL s h)) ∧ Below W.heap.size W w') := ⟨fun W hW => rgrains_any s u h W hs1 hs2 hl (hv.below hW)⟩
  obtain ⟨g, c, rfl⟩ := hv.shape
  have HVB : Kp (∀ W, Calls Try.prog 27 #[.agg #[.int .i64 s, .slice g h.length c]] W fun e w' => e = .returned (.bool true) ∧ Below W.heap.size W w') := ⟨fun W => hb ▸ rValidBlock_any s g h.length c W⟩
  have HEM : Kp (∀ W, Calls Try.prog 40 #[.int .i64 s] W fun e w' => ∃ M, e = .returned (.agg #[.int .i64 s, .slice (some ⟨M, 0, none⟩) (s * s * s) (s * s * s)]) ∧ W.heap.size < M ∧ MR M (s * s * s) (s * s * s) (List.replicate (s * s * s) false) w' ∧ Below W.heap.size W w') := ⟨fun W => rempty_any s hs2 W⟩
  have HPL : Kp (∀ W x, insB s x = true → Calls Try.prog 42 #[.int .i64 s, .agg #[.int .i64 x.x, .int .i64 x.y, .int .i64 x.z]] W fun e w' => e = .returned (.int .i64 (idx s x)) ∧ Below W.heap.size W w') := ⟨fun W x hx => rplace_any hs2 x hx W⟩
  have HLT : Kp (∀ x ∈ grainsL s h, insB s x = true) := ⟨fun x hx => (grains_in hx).1⟩
  have HFEW : Kp ((grainsL s h).length ≤ 1000) := ⟨Nat.le_trans (grains_few s h) (cube_bd hs2).2⟩
  have H10 := Kp.mk hs2
  have hP : 0 < s * s * s := Nat.mul_pos (Nat.mul_pos hs1 hs1) hs1
  have HN1 : Kp (s * s * s ≤ 1000) := ⟨(cube_bd hs2).2⟩
  obtain ⟨N, hN⟩ : ∃ N, s * s * s = N := ⟨_, rfl⟩
  have HNS := Kp.mk hN
  rw [hN] at HEM hP hl HN1
  rw [hl] at HG HVB
  rw [hl]
  have HP := Kp.mk hP
  have e1 : IntKind.i64.wrap ((s : Int) - 1) = (s : Int) - 1 := IntWalk.i64_in _ (by omega)
  obtain ⟨L, hL⟩ : ∃ L, grainsL s h = L := ⟨_, rfl⟩
  rw [hL] at HG HLT HFEW ⊢
  obtain ⟨t3, hn3, hr1, hr2⟩ := quart_int qq
  obtain ⟨n, hn⟩ : ∃ n, quart qq = n := ⟨_, rfl⟩
  rw [hn] at t3 hn3
  rw [hn]
  obtain ⟨r0, hr0⟩ : ∃ r0, qq.tmod 4 = r0 := ⟨_, rfl⟩
  rw [hr0] at t3 hr1 hr2
  have t2 : IntKind.i64.wrap (r0 + 4) = r0 + 4 := IntWalk.i64_in _ (by omega)
  have HN3 := Kp.mk hn3
  clear hn hr1 hr2 hn3
  clear hb hv hl hN hL hs1 hs2 hP
  go_enter Try.func13, Try.ntmps13
  go_wp2_with fail
  refine (HVB.out _).mono ?_
  rintro en w1 ⟨rfl, hb1⟩
  have HB1 : Kp (Below w.heap.size w w1) := ⟨Below.trans (by repeat (first | refine Below.alloc ?_ (by (try simp) <;> omega) _ | refine bDrewN ?_ _ | refine Below.drew ?_ | refine Below.setCell ?_ (by (try simp) <;> omega) _ | exact Below.refl _ _)) (hb1.mono (by (try simp) <;> omega))⟩
  have hz1_0 : w.heap.size < w1.heap.size := by have := hb1.size; (try simp at this); omega
  have hz1_1 : w.heap.size + 1 < w1.heap.size := by have := hb1.size; (try simp at this); omega
  obtain ⟨hc, hf⟩ := bcell hb1
  have c1_0_0 : w1.cell? ⟨w.heap.size, 0, none⟩ = some (.int .i64 s) := (hc _ _ (by (try simp) <;> omega)).trans (by go_simp)
  have c1_0_1 : w1.cell? ⟨w.heap.size, 1, none⟩ = some ((.slice g N c)) := (hc _ _ (by (try simp) <;> omega)).trans (by go_simp)
  have z1_0 : ∀ j, w1.frozen? ⟨w.heap.size, j, none⟩ = false := fun j => (hf _ _ (by (try simp) <;> omega)).trans (by go_simp)
  have c1_1_0 : w1.cell? ⟨w.heap.size + 1, 0, none⟩ = some (.int .i64 0) := (hc _ _ (by (try simp) <;> omega)).trans (by go_simp)
  have c1_1_1 : w1.cell? ⟨w.heap.size + 1, 1, none⟩ = some ((.slice none 0 0)) := (hc _ _ (by (try simp) <;> omega)).trans (by go_simp)
  have z1_1 : ∀ j, w1.frozen? ⟨w.heap.size + 1, j, none⟩ = false := fun j => (hf _ _ (by (try simp) <;> omega)).trans (by go_simp)
  clear hc hf hb1
  go_wp2_with fail
  refine (HEM.out _).mono ?_
  rintro en w2 ⟨M, rfl, hM, hmr, hb2⟩
  have HB2 : Kp (Below w.heap.size w w2) := ⟨Below.trans (by repeat (first | refine Below.alloc ?_ (by have := HB1.out.size; (try simp) <;> omega) _ | refine bDrewN ?_ _ | refine Below.drew ?_ | refine Below.setCell ?_ (by have := HB1.out.size; (try simp) <;> omega) _ | exact HB1.out)) (hb2.mono (by have := HB1.out.size; (try simp) <;> omega))⟩
  have hz2_0 : w.heap.size < w2.heap.size := by have := hb2.size; (try simp at this); omega
  have hz2_1 : w.heap.size + 1 < w2.heap.size := by have := hb2.size; (try simp at this); omega
  obtain ⟨hc, hf⟩ := bcell hb2
  have c2_0_0 : w2.cell? ⟨w.heap.size, 0, none⟩ = some (.int .i64 s) := (hc _ _ (by (try simp) <;> omega)).trans (by go_simp)
  have c2_0_1 : w2.cell? ⟨w.heap.size, 1, none⟩ = some ((.slice g N c)) := (hc _ _ (by (try simp) <;> omega)).trans (by go_simp)
  have z2_0 : ∀ j, w2.frozen? ⟨w.heap.size, j, none⟩ = false := fun j => (hf _ _ (by (try simp) <;> omega)).trans (by go_simp)
  have c2_1_0 : w2.cell? ⟨w.heap.size + 1, 0, none⟩ = some (.int .i64 0) := (hc _ _ (by (try simp) <;> omega)).trans (by go_simp)
  have c2_1_1 : w2.cell? ⟨w.heap.size + 1, 1, none⟩ = some ((.slice none 0 0)) := (hc _ _ (by (try simp) <;> omega)).trans (by go_simp)
  have z2_1 : ∀ j, w2.frozen? ⟨w.heap.size + 1, j, none⟩ = false := fun j => (hf _ _ (by (try simp) <;> omega)).trans (by go_simp)
  clear hc hf hb2
  go_wp2_with fail
  obtain ⟨W3, hW3⟩ : ∃ W3, w2.alloc (.cells #[.int .i64 s, .slice (some ⟨M, 0, none⟩) N N] 24) = W3 := ⟨_, rfl⟩
  rw [hW3]
  obtain ⟨hd3, hne, hb3⟩ := dl_start hW3 HP.out HB2.out hmr c2_0_0 c2_1_0 c2_1_1 z2_1
  have a0 := (hb3.cell (p := ⟨w.heap.size, 0, none⟩) hz2_0).trans c2_0_0
  have a1 := (hb3.cell (p := ⟨w.heap.size, 1, none⟩) hz2_0).trans c2_0_1
  obtain ⟨Q, hQ⟩ : ∃ Q, w2.heap.size = Q := ⟨_, rfl⟩
  obtain ⟨B, hB⟩ : ∃ B, w.heap.size = B := ⟨_, rfl⟩
  have HBB := Kp.mk hB
  have HM1 : Kp (B + 1 < M) := ⟨by omega⟩
  rw [hQ] at hd3 hne
  rw [hB] at hd3 a0 a1
  simp only [hQ, hB]
  have HD3 := Kp.mk hd3
  have HNE := Kp.mk hne
  clear hW3 hd3 hne hb3 c2_0_0 c2_0_1 z2_0 hz2_0 c2_1_0 c2_1_1 z2_1 hz2_1 HB2 hmr hM hQ
  refine (HG.out _ HD3.out.below).mono ?_
  rintro en w4 ⟨r, rfl, ⟨B0, hB0, ho⟩, hb4⟩
  have HM0 : Kp (M < B0) := ⟨Nat.lt_of_lt_of_le (HD3.out.mr.lt HP.out) hB0⟩
  have HD : Kp (DlI w B M N Q s N (metL s ((L.take 0).map (rotN s n))) w4) := ⟨by rw [List.take_zero, List.map_nil, metL_nil, HNS.out]; exact HD3.out.on HP.out hb4⟩
  obtain ⟨gr, cr, rfl⟩ := ho.gs.shape
  have HO := Kp.mk ho
  clear ho hb4 hB0 a0 a1 HD3 HG hB
  go_wp2
  obtain ⟨K, hK⟩ : ∃ K, L.length = K := ⟨_, rfl⟩
  have HK := Kp.mk hK
  rw [hK]
  rw [hK] at HO
  clear hK
  go_loopw [19] (fun i wr => ∃ j : Nat, j ≤ K ∧ i = .int .i64 j ∧ Kp (OwnG wr B0 (.slice gr K cr) L) ∧ Kp (DlI w B M N Q s N (metL s ((L.take j).map (rotN s n))) wr)) (fun i _ => K - (intOf i).toNat)
  case atStart => exact ⟨0, Nat.zero_le _, rfl, HO, HD⟩
  case round =>
    clear HD HO
    obtain ⟨j, hj, rfl, HO, HD⟩ := hrel
    by_cases hlt : j < K
    · obtain ⟨x, hx⟩ : ∃ x, L[j]? = some x := ⟨_, List.getElem?_eq_getElem (by rw [HK.out]; exact hlt)⟩
      obtain ⟨g', c', e', -, hi⟩ := HO.out.gs
      obtain ⟨b, oo, hg, hbl, d1, d2, d3⟩ := hi j x hx
      simp only [Value.slice.injEq] at e'
      obtain ⟨e1', -, -⟩ := e'
      rw [hg] at e1'
      subst e1'
      have o1 : (j : Int) < (K : Int) := by omega
      have o4 : j ≤ 1000 := by have := HFEW.out; have := HK.out; omega
      have hin := HLT.out x (List.mem_of_getElem? hx)
      obtain ⟨q, hq1, hq2, ⟨yv, hy⟩, hq4⟩ := mv_more (f := rotN s n) hx (rotN_ins n hin)
      have HIN := Kp.mk (fun i => rotN_ins (s := s) i hin)
      obtain ⟨y, hyy⟩ : ∃ y, rotN s n x = y := ⟨_, rfl⟩
      have HYE := Kp.mk hyy
      rw [hyy] at hq1
      have HSX : Kp (∀ W, Calls Try.prog 42 #[.int .i64 s, .agg #[.int .i64 y.x, .int .i64 y.y, .int .i64 y.z]] W fun e w' => e = .returned (.int .i64 q) ∧ Below W.heap.size W w') := ⟨fun W => hq1 ▸ HPL.out W y (hyy ▸ rotN_ins n hin)⟩
      have HTK : Kp (metL s ((L.take (j + 1)).map (rotN s n)) = (metL s ((L.take j).map (rotN s n))).set q true ∧ q < N) := ⟨hq4, by rw [← HNS.out]; exact hq2⟩
      have HY := Kp.mk hy
      have hbz : Below wr.heap.size wr (wr.alloc (.cells #[.int .i64 x.x, .int .i64 x.y, .int .i64 x.z] 48)) := by repeat (first | exact Below.refl _ _ | refine Below.alloc ?_ (by simp <;> omega) _ | refine bDrewN ?_ _ | refine Below.drew ?_)
      have HG0 : Kp (Below wr.heap.size wr (wr.alloc (.cells #[.int .i64 x.x, .int .i64 x.y, .int .i64 x.z] 48)) ∧ GrZ (wr.alloc (.cells #[.int .i64 x.x, .int .i64 x.y, .int .i64 x.z] 48)) wr.heap.size (rotN s 0 x)) := ⟨hbz, ⟨by show World.cell? _ _ = some (.int .i64 x.x); go_simp, by show World.cell? _ _ = some (.int .i64 x.y); go_simp, by show World.cell? _ _ = some (.int .i64 x.z); go_simp⟩, by go_simp, by go_simp⟩
      clear hx hin hbz hq1 hq2 hy hq4 hi hg hbl hyy
      go_wp2
      obtain ⟨W5, rfl⟩ : ∃ W5, W5 = wr := ⟨_, rfl⟩
      obtain ⟨G, hG⟩ : ∃ G, W5.heap.size = G := ⟨_, rfl⟩
      have HGG := Kp.mk hG
      rw [hG] at HG0
      simp only [hG]
      clear hG d1 d2 d3
      go_loopw [27] (fun i wr => ∃ m : Nat, m ≤ n ∧ i = .int .i64 m ∧ Kp (Below G W5 wr ∧ GrZ wr G (rotN s m x))) (fun i _ => n - (intOf i).toNat)
      case atStart => exact ⟨0, Nat.zero_le _, rfl, HG0⟩
      case round =>
        clear HG0
        obtain ⟨m, hm, rfl, HG⟩ := hrel
        by_cases hmn : m < n
        · have hin := HIN.out m
          have HRN : Kp (rotN s (m + 1) x = rotG s (rotN s m x)) := ⟨rfl⟩
          obtain ⟨⟨gx, gy, gz⟩, hgg⟩ : ∃ g, rotN s m x = g := ⟨_, rfl⟩
          rw [hgg] at HG hin HRN
          obtain ⟨⟨i0, i1⟩, ⟨i2, i3⟩, -⟩ := ins_iff.1 hin
          obtain ⟨a0, a1, a2⟩ := HG.out.2.at_
          have z0 := HG.out.2.z0
          have z1 := HG.out.2.z1
          simp only at i0 i1 i2 i3 a0 a1 a2
          have p0 := HD.out.b0
          have hBl := World.block_lt_of_cell? _ _ p0
          have b0 : wr.cell? ⟨B, 0, none⟩ = some (.int .i64 s) := (HG.out.1.cell (p := ⟨B, 0, none⟩) (by have := HGG.out; simp only at hBl ⊢; omega)).trans p0
          have e3 : IntKind.i64.wrap ((s : Int) - 1 - gy) = (s : Int) - 1 - gy := IntWalk.i64_in _ (by have := H10.out; omega)
          have o2 : (m : Int) < (n : Int) := by omega
          have o3 : m ≤ 3 := by have := HN3.out; omega
          have HG2 : Kp (Below G W5 ((wr.setCell ⟨G, 0, none⟩ (.int .i64 ((s : Int) - 1 - gy))).setCell ⟨G, 1, none⟩ (.int .i64 gx)) ∧ GrZ ((wr.setCell ⟨G, 0, none⟩ (.int .i64 ((s : Int) - 1 - gy))).setCell ⟨G, 1, none⟩ (.int .i64 gx)) G (rotN s (m + 1) x)) := ⟨(HG.out.1.setCell (Nat.le_refl _) _).setCell (Nat.le_refl _) _, by rw [HRN.out]; exact grz_turn HG.out.2⟩
          have hBG : B ≠ G := by have := HGG.out; simp only at hBl; omega
          clear hgg hin i0 i1 i2 i3 p0 hBl
          go_wp2
          go_roundw
          case rel => exact ⟨m + 1, by omega, by go_num, HG2⟩
          case measure => simp [intOf]; omega
        · have hmm : m = n := by omega
          have hg2 := HG.out
          rw [hmm, HYE.out] at hg2
          obtain ⟨w5, rfl⟩ : ∃ w5, w5 = wr := ⟨_, rfl⟩
          have hbz : Below W5.heap.size W5 w5 := by rw [HGG.out]; exact hg2.1
          have HD2 := Kp.mk (HD.out.on HP.out hbz)
          have HO2 := Kp.mk (HO.out.on hbz)
          obtain ⟨f0, f1, f2⟩ := hg2.2.at_
          have o2 : ¬ (m : Int) < (n : Int) := by omega
          have q0 := HD2.out.b0
          have q1 := HD2.out.c1
          have q3 := HD2.out.mr.cell HY.out
          have q4 := HD2.out.mr.z q
          have hQl := World.block_lt_of_cell? _ _ q1
          have hMl := World.block_lt_of_cell? _ _ q3
          have o5 : (q : Int) < (N : Int) := by have := HTK.out.2; omega
          clear HG hg2 hbz hmm
          go_wp2
          go_region_with (go_at_call 42; refine (HSX.out _).mono ?_; rintro en w6 ⟨rfl, hb6⟩; have hbw : Below w5.heap.size w5 w6 := (by (repeat (with_reducible first | exact Below.refl _ _ | refine Below.drew ?_ | refine bDrewN ?_ _)) : Below w5.heap.size w5 _).trans hb6; have n1 := (hbw.cell (p := ⟨Q, 1, none⟩) hQl).trans q1; have n3 := (hbw.cell (p := ⟨M, q, none⟩) hMl).trans q3; have n4 := (hbw.frozen (p := ⟨M, q, none⟩) hMl).trans q4; clear hb6)
          all_goals
            go_wp2
            go_roundw
            case rel =>
              exact ⟨j + 1, by omega, by go_num, ⟨(HO2.out.on hbw).put HM0.out⟩, ⟨(HD2.out.on HP.out hbw).put HTK.out.2 HTK.out.1 HNE.out HM1.out HBB.out⟩⟩
            case measure => simp [intOf]; omega
    · have hkn : j = K := by omega
      have hD := HD.out
      rw [hkn, ← HK.out, List.take_length] at hD
      have HO2 := Kp.mk hD
      have q0 := hD.c0
      have q1 := hD.c1
      have p0 := hD.r0
      have p1 := hD.r1
      have pz := hD.rz
      have o2 : ¬ (j : Int) < (K : Int) := by omega
      clear hD HD HO
      go_wp2
      refine bodyPost_ret (v := .tuple #[.agg #[.int .i64 s, .slice (some ⟨M, 0, none⟩) N N], .int .i64 0]) ?_ rfl ?_
      · simp [results, Try.results13, go_sem, p0, p1]
      have hb : Below w.heap.size w ((wr.setCell ⟨B + 1, 0, none⟩ (.int .i64 s)).setCell ⟨B + 1, 1, none⟩ (.slice (some ⟨M, 0, none⟩) N N)) := (HO2.out.below.setCell (by have := HBB.out; simp only; omega) _).setCell (by have := HBB.out; simp only; omega) _
      have g1 := setCell_grown wr (B + 1) 0 (.int .i64 s)
      have g2 := setCell_grown (wr.setCell ⟨B + 1, 0, none⟩ (.int .i64 s)) (B + 1) 1 (.slice (some ⟨M, 0, none⟩) N N)
      have hne : some M ≠ some (B + 1) := fun e => Nat.ne_of_gt HM1.out (Option.some.inj e)
      have hM := HO2.out.mr.lt HP.out
      exact ⟨_, rfl, ⟨_, rfl, (HO2.out.mr.same (Nat.le_trans g1.size g2.size) ((g2.block M (Nat.lt_of_lt_of_le hM g1.size) hne).trans (g1.block M hM hne))).fb (by have := HBB.out; have := HM1.out; omega)⟩, hb⟩
end Go.Proofs.Ytnkfkbknckpkdaa.Cv
