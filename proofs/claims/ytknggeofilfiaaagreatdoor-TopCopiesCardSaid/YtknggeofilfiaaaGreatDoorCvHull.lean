/-
  WALKS (layer 5, carve): hulls, by the program.
-/
import Derived.Test.YtknggeofilfiaaaGreatDoorCvValid
namespace Go.Proofs.YtknggeofilfiaaaGreatDoor.Cv
open Go Go.RowKit Go.Sort

/-- Three rows, laid in the views of a box. -/
def H3 (W : World) (C : Nat) (hs : Nat → List Bool) : Prop := ∀ k, k < 3 → ∃ g c, W.cell? ⟨C, k * 2 + 1, none⟩ = some (.slice g (hs k).length c) ∧ LB W (.slice g (hs k).length c) (hs k)
theorem H3.on {W V : World} {C : Nat} {hs : Nat → List Bool} (h : H3 W C hs) (hb : Below W.heap.size W V) : H3 V C hs := fun k hk => by
  obtain ⟨g, c, h1, h2⟩ := h k hk
  exact ⟨g, c, (hb.cell (p := ⟨C, _, none⟩) (World.block_lt_of_cell? _ _ h1)).trans h1, h2.below hb⟩
theorem hull11_any (C : Nat) (hs : Nat → List Bool) (k i : Nat) (W : World) (h : H3 W C hs) (hk : k < 3) (hi : i < (hs k).length) :
    Calls Tryz.prog 36 (#[.int .i64 k, .int .i64 i] ++ #[.pointer (some ⟨C, 0, none⟩)]) W fun e w' => e = .returned (.bool ((hs k).getD i false)) ∧ Below W.heap.size W w' := by
  obtain ⟨g, c, h1, g', c', e', -, hcell⟩ := h k hk
  cases e'
  obtain ⟨x, hx⟩ : ∃ x, (hs k)[i]? = some x := ⟨_, List.getElem?_eq_getElem hi⟩
  have HX : Kp ((hs k).getD i false = x) := ⟨by rw [List.getD_eq_getElem?_getD, hx]; rfl⟩
  obtain ⟨b, o, rfl, hbl, c2⟩ := hcell i x hx
  have o1 : (k : Int) < 3 := by omega
  have o2 : (i : Int) < ((hs k).length : Int) := by omega
  clear hcell hx hi hk h
  go_enter Tryz.func36, Tryz.ntmps36
  go_wp2
  go_ret
  exact ⟨ret_bool HX.out.symm, by repeat (first | exact Below.refl _ _ | refine Below.alloc ?_ (by simp <;> omega) _ | refine bDrewN ?_ _ | refine Below.drew ?_)⟩
theorem hull1_any (s B C : Nat) (hs : Nat → List Bool) (g : Gr) (w : World) (hB : w.cell? ⟨B, 0, none⟩ = some (.int .i64 s)) (h : H3 w C hs) (hl : ∀ k, k < 3 → (hs k).length = s * s) (hs2 : s ≤ 10) (hin : insB s g = true) :
    Calls Tryz.prog 34 (#[.agg #[.int .i64 g.x, .int .i64 g.y, .int .i64 g.z]] ++ #[.pointer (some ⟨B, 0, none⟩), .pointer (some ⟨C, 0, none⟩)]) w fun e w' => e = .returned (.bool (onB s (fun k i => (hs k).getD i false) g)) ∧ Below w.heap.size w w' := by
  have HO : Kp (∀ W, Below w.heap.size w W → Calls Tryz.prog 35 #[.agg #[.int .i64 g.x, .int .i64 g.y, .int .i64 g.z], .int .i64 s, .func (.func 36) #[] #[.pointer (some ⟨C, 0, none⟩)]] W fun e w' => e = .returned (.bool (onB s (fun k i => (hs k).getD i false) g)) ∧ Below W.heap.size W w') := ⟨fun W hW => onAll_any s g 36 #[.pointer (some ⟨C, 0, none⟩)] (fun k i => (hs k).getD i false) W hs2 hin (enters_of Tryz.func36 (by kernel_rfl) rfl) ⟨fun X k i hX hk hi => hull11_any C hs k i X ((h.on hW).on hX) hk (by rw [hl k hk]; exact hi)⟩⟩
  have hBl := World.block_lt_of_cell? _ _ hB
  obtain ⟨gx, gy, gz⟩ := g
  clear h hl hin
  go_enter Tryz.func34, Tryz.ntmps34
  go_wp2_with fail
  refine (HO.out _ (by repeat (first | exact Below.refl _ _ | refine Below.alloc ?_ (by simp <;> omega) _ | refine bDrewN ?_ _ | refine Below.drew ?_))).mono ?_
  rintro en w1 ⟨rfl, hb1⟩
  have HB1 : Kp (Below w.heap.size w w1) := ⟨Below.trans (by repeat (first | exact Below.refl _ _ | refine Below.alloc ?_ (by simp <;> omega) _ | refine bDrewN ?_ _ | refine Below.drew ?_)) (hb1.mono (by simp <;> omega))⟩
  clear hb1
  go_wp2
  go_ret
  exact ⟨rfl, HB1.out⟩
def hs3 (a b c : List Bool) (k : Nat) : List Bool := if k = 0 then a else if k = 1 then b else c
def hullOk (sx sy sz : Int) (a b c : List Bool) : Bool := viewB sx a.length && (viewB sy b.length && (viewB sz c.length && (decide (sx = sy) && decide (sy = sz))))
def hullB (s : Nat) (a b c : List Bool) : List Bool := (placesL s).map (onB s fun k i => (hs3 a b c k).getD i false)
def hullE (sx sy sz : Int) (a b c : List Bool) : Int := if hullOk sx sy sz a b c = true then 0 else 1
def hullS (sx sy sz : Int) (a b c : List Bool) : Int := if hullOk sx sy sz a b c = true then sx else 0
def hullL (sx sy sz : Int) (a b c : List Bool) : List Bool := if hullOk sx sy sz a b c = true then hullB sx.toNat a b c else []
set_option maxHeartbeats 1000000 in
theorem Hull_in (s : Nat) (u v t : Value) (a b c : List Bool) (w : World) (hs : 1 ≤ s) (hs2 : s ≤ 10) (hu : LB w u a) (hv : LB w v b) (ht : LB w t c) (la : a.length = s * s) (lb : b.length = s * s) (lc : c.length = s * s) :
    Calls Tryz.prog 15 #[.agg #[.int .i64 s, u], .agg #[.int .i64 s, v], .agg #[.int .i64 s, t]] w fun e w' => ∃ r, e = .returned (.tuple #[r, .int .i64 0]) ∧ VB w' r s (hullB s a b c) ∧ Below w.heap.size w w' := by
  have hvb : viewB s (s * s) = true := by
    unfold viewB
    rw [side_iff.2 (by omega), decide_eq_true (by rw [Int.natCast_mul])]; rfl
  have HU := Kp.mk hu
  have HV := Kp.mk hv
  have HT := Kp.mk ht
  obtain ⟨g1, c1, rfl⟩ := hu.shape
  obtain ⟨g2, c2, rfl⟩ := hv.shape
  obtain ⟨g3, c3, rfl⟩ := ht.shape
  have HW : Kp (∀ W g c, Calls Tryz.prog 33 #[.agg #[.int .i64 s, .slice g (s * s) c]] W fun e w' => e = .returned (.bool true) ∧ Below W.heap.size W w') := ⟨fun W g c => hvb ▸ ValidView_any s g (s * s) c W⟩
  have HL : Kp (a.length = s * s ∧ b.length = s * s ∧ c.length = s * s) := ⟨la, lb, lc⟩
  have HM : Kp (∀ W (B C : Nat), W.cell? ⟨B, 0, none⟩ = some (.int .i64 s) → H3 W C (hs3 a b c) → Calls Tryz.prog 28 #[.int .i64 s, .func (.func 34) #[] #[.pointer (some ⟨B, 0, none⟩), .pointer (some ⟨C, 0, none⟩)]] W fun e w' => ∃ v, e = .returned (.agg #[.int .i64 s, v]) ∧ NB W.heap.size w' v (hullB s a b c) ∧ Below W.heap.size W w') := ⟨fun W B C hB hC => made_any 34 #[.pointer (some ⟨B, 0, none⟩), .pointer (some ⟨C, 0, none⟩)] (onB s fun k i => (hs3 a b c k).getD i false) s W hs hs2 (enters_of Tryz.func34 (by kernel_rfl) rfl) ⟨fun X g hX hg => hull1_any s B C (hs3 a b c) g X ((hX.cell (p := ⟨B, 0, none⟩) (World.block_lt_of_cell? _ _ hB)).trans hB) (hC.on hX) (fun k hk => by
    have := HL.out
    match k with
    | 0 => exact la
    | 1 => exact lb
    | 2 => exact lc
    | k + 3 => omega) hs2 hg⟩⟩
  rw [la, lb, lc]
  obtain ⟨M, hM⟩ : ∃ M, s * s = M := ⟨_, rfl⟩
  rw [hM] at HW HL la lb lc ⊢
  rw [la] at HU
  rw [lb] at HV
  rw [lc] at HT
  clear hu hv ht hvb hM
  go_enter Tryz.func15, Tryz.ntmps15
  go_wp2_with fail
  refine (HW.out _ _ _).mono ?_
  rintro en w1 ⟨rfl, hb1⟩
  have HB1 : Kp (Below w.heap.size w w1) := ⟨Below.trans (by repeat (first | refine Below.alloc ?_ (by (try simp) <;> omega) _ | refine bDrewN ?_ _ | refine Below.drew ?_ | refine Below.setCell ?_ (by (try simp) <;> omega) _ | exact Below.refl _ _)) (hb1.mono (by (try simp) <;> omega))⟩
  have hz1_0 : w.heap.size < w1.heap.size := by have := hb1.size; (try simp at this); omega
  have hz1_1 : w.heap.size + 1 < w1.heap.size := by have := hb1.size; (try simp at this); omega
  have hz1_2 : w.heap.size + 1 + 1 < w1.heap.size := by have := hb1.size; (try simp at this); omega
  have hz1_3 : w.heap.size + 1 + 1 + 1 < w1.heap.size := by have := hb1.size; (try simp at this); omega
  obtain ⟨hc, hf⟩ := bcell hb1
  have c1_0_0 : w1.cell? ⟨w.heap.size, 0, none⟩ = some (.int .i64 s) := (hc _ _ (by (try simp) <;> omega)).trans (by go_simp)
  have c1_0_1 : w1.cell? ⟨w.heap.size, 1, none⟩ = some ((.slice g1 M c1)) := (hc _ _ (by (try simp) <;> omega)).trans (by go_simp)
  have z1_0 : ∀ j, w1.frozen? ⟨w.heap.size, j, none⟩ = false := fun j => (hf _ _ (by (try simp) <;> omega)).trans (by go_simp)
  have c1_1_0 : w1.cell? ⟨w.heap.size + 1, 0, none⟩ = some (.int .i64 s) := (hc _ _ (by (try simp) <;> omega)).trans (by go_simp)
  have c1_1_1 : w1.cell? ⟨w.heap.size + 1, 1, none⟩ = some ((.slice g2 M c2)) := (hc _ _ (by (try simp) <;> omega)).trans (by go_simp)
  have z1_1 : ∀ j, w1.frozen? ⟨w.heap.size + 1, j, none⟩ = false := fun j => (hf _ _ (by (try simp) <;> omega)).trans (by go_simp)
  have c1_2_0 : w1.cell? ⟨w.heap.size + 1 + 1, 0, none⟩ = some (.int .i64 s) := (hc _ _ (by (try simp) <;> omega)).trans (by go_simp)
  have c1_2_1 : w1.cell? ⟨w.heap.size + 1 + 1, 1, none⟩ = some ((.slice g3 M c3)) := (hc _ _ (by (try simp) <;> omega)).trans (by go_simp)
  have z1_2 : ∀ j, w1.frozen? ⟨w.heap.size + 1 + 1, j, none⟩ = false := fun j => (hf _ _ (by (try simp) <;> omega)).trans (by go_simp)
  have c1_3_0 : w1.cell? ⟨w.heap.size + 1 + 1 + 1, 0, none⟩ = some (.int .i64 0) := (hc _ _ (by (try simp) <;> omega)).trans (by go_simp)
  have c1_3_1 : w1.cell? ⟨w.heap.size + 1 + 1 + 1, 1, none⟩ = some ((.slice none 0 0)) := (hc _ _ (by (try simp) <;> omega)).trans (by go_simp)
  have z1_3 : ∀ j, w1.frozen? ⟨w.heap.size + 1 + 1 + 1, j, none⟩ = false := fun j => (hf _ _ (by (try simp) <;> omega)).trans (by go_simp)
  clear hc hf hb1
  go_wp2_with fail
  refine (HW.out _ _ _).mono ?_
  rintro en w2 ⟨rfl, hb2⟩
  have HB2 : Kp (Below w.heap.size w w2) := ⟨Below.trans (by repeat (first | refine Below.alloc ?_ (by have := HB1.out.size; (try simp) <;> omega) _ | refine bDrewN ?_ _ | refine Below.drew ?_ | refine Below.setCell ?_ (by have := HB1.out.size; (try simp) <;> omega) _ | exact HB1.out)) (hb2.mono (by have := HB1.out.size; (try simp) <;> omega))⟩
  have hz2_0 : w.heap.size < w2.heap.size := by have := hb2.size; (try simp at this); omega
  have hz2_1 : w.heap.size + 1 < w2.heap.size := by have := hb2.size; (try simp at this); omega
  have hz2_2 : w.heap.size + 1 + 1 < w2.heap.size := by have := hb2.size; (try simp at this); omega
  have hz2_3 : w.heap.size + 1 + 1 + 1 < w2.heap.size := by have := hb2.size; (try simp at this); omega
  obtain ⟨hc, hf⟩ := bcell hb2
  have c2_0_0 : w2.cell? ⟨w.heap.size, 0, none⟩ = some (.int .i64 s) := (hc _ _ (by (try simp) <;> omega)).trans (by go_simp)
  have c2_0_1 : w2.cell? ⟨w.heap.size, 1, none⟩ = some ((.slice g1 M c1)) := (hc _ _ (by (try simp) <;> omega)).trans (by go_simp)
  have z2_0 : ∀ j, w2.frozen? ⟨w.heap.size, j, none⟩ = false := fun j => (hf _ _ (by (try simp) <;> omega)).trans (by go_simp)
  have c2_1_0 : w2.cell? ⟨w.heap.size + 1, 0, none⟩ = some (.int .i64 s) := (hc _ _ (by (try simp) <;> omega)).trans (by go_simp)
  have c2_1_1 : w2.cell? ⟨w.heap.size + 1, 1, none⟩ = some ((.slice g2 M c2)) := (hc _ _ (by (try simp) <;> omega)).trans (by go_simp)
  have z2_1 : ∀ j, w2.frozen? ⟨w.heap.size + 1, j, none⟩ = false := fun j => (hf _ _ (by (try simp) <;> omega)).trans (by go_simp)
  have c2_2_0 : w2.cell? ⟨w.heap.size + 1 + 1, 0, none⟩ = some (.int .i64 s) := (hc _ _ (by (try simp) <;> omega)).trans (by go_simp)
  have c2_2_1 : w2.cell? ⟨w.heap.size + 1 + 1, 1, none⟩ = some ((.slice g3 M c3)) := (hc _ _ (by (try simp) <;> omega)).trans (by go_simp)
  have z2_2 : ∀ j, w2.frozen? ⟨w.heap.size + 1 + 1, j, none⟩ = false := fun j => (hf _ _ (by (try simp) <;> omega)).trans (by go_simp)
  have c2_3_0 : w2.cell? ⟨w.heap.size + 1 + 1 + 1, 0, none⟩ = some (.int .i64 0) := (hc _ _ (by (try simp) <;> omega)).trans (by go_simp)
  have c2_3_1 : w2.cell? ⟨w.heap.size + 1 + 1 + 1, 1, none⟩ = some ((.slice none 0 0)) := (hc _ _ (by (try simp) <;> omega)).trans (by go_simp)
  have z2_3 : ∀ j, w2.frozen? ⟨w.heap.size + 1 + 1 + 1, j, none⟩ = false := fun j => (hf _ _ (by (try simp) <;> omega)).trans (by go_simp)
  clear hc hf hb2
  go_wp2_with fail
  refine (HW.out _ _ _).mono ?_
  rintro en w3 ⟨rfl, hb3⟩
  have HB3 : Kp (Below w.heap.size w w3) := ⟨Below.trans (by repeat (first | refine Below.alloc ?_ (by have := HB2.out.size; (try simp) <;> omega) _ | refine bDrewN ?_ _ | refine Below.drew ?_ | refine Below.setCell ?_ (by have := HB2.out.size; (try simp) <;> omega) _ | exact HB2.out)) (hb3.mono (by have := HB2.out.size; (try simp) <;> omega))⟩
  have hz3_0 : w.heap.size < w3.heap.size := by have := hb3.size; (try simp at this); omega
  have hz3_1 : w.heap.size + 1 < w3.heap.size := by have := hb3.size; (try simp at this); omega
  have hz3_2 : w.heap.size + 1 + 1 < w3.heap.size := by have := hb3.size; (try simp at this); omega
  have hz3_3 : w.heap.size + 1 + 1 + 1 < w3.heap.size := by have := hb3.size; (try simp at this); omega
  obtain ⟨hc, hf⟩ := bcell hb3
  have c3_0_0 : w3.cell? ⟨w.heap.size, 0, none⟩ = some (.int .i64 s) := (hc _ _ (by (try simp) <;> omega)).trans (by go_simp)
  have c3_0_1 : w3.cell? ⟨w.heap.size, 1, none⟩ = some ((.slice g1 M c1)) := (hc _ _ (by (try simp) <;> omega)).trans (by go_simp)
  have z3_0 : ∀ j, w3.frozen? ⟨w.heap.size, j, none⟩ = false := fun j => (hf _ _ (by (try simp) <;> omega)).trans (by go_simp)
  have c3_1_0 : w3.cell? ⟨w.heap.size + 1, 0, none⟩ = some (.int .i64 s) := (hc _ _ (by (try simp) <;> omega)).trans (by go_simp)
  have c3_1_1 : w3.cell? ⟨w.heap.size + 1, 1, none⟩ = some ((.slice g2 M c2)) := (hc _ _ (by (try simp) <;> omega)).trans (by go_simp)
  have z3_1 : ∀ j, w3.frozen? ⟨w.heap.size + 1, j, none⟩ = false := fun j => (hf _ _ (by (try simp) <;> omega)).trans (by go_simp)
  have c3_2_0 : w3.cell? ⟨w.heap.size + 1 + 1, 0, none⟩ = some (.int .i64 s) := (hc _ _ (by (try simp) <;> omega)).trans (by go_simp)
  have c3_2_1 : w3.cell? ⟨w.heap.size + 1 + 1, 1, none⟩ = some ((.slice g3 M c3)) := (hc _ _ (by (try simp) <;> omega)).trans (by go_simp)
  have z3_2 : ∀ j, w3.frozen? ⟨w.heap.size + 1 + 1, j, none⟩ = false := fun j => (hf _ _ (by (try simp) <;> omega)).trans (by go_simp)
  have c3_3_0 : w3.cell? ⟨w.heap.size + 1 + 1 + 1, 0, none⟩ = some (.int .i64 0) := (hc _ _ (by (try simp) <;> omega)).trans (by go_simp)
  have c3_3_1 : w3.cell? ⟨w.heap.size + 1 + 1 + 1, 1, none⟩ = some ((.slice none 0 0)) := (hc _ _ (by (try simp) <;> omega)).trans (by go_simp)
  have z3_3 : ∀ j, w3.frozen? ⟨w.heap.size + 1 + 1 + 1, j, none⟩ = false := fun j => (hf _ _ (by (try simp) <;> omega)).trans (by go_simp)
  clear hc hf hb3
  have hBX : Below w.heap.size w (w3.alloc (.cells #[.int .i64 s, .slice g1 M c1, .int .i64 s, .slice g2 M c2, .int .i64 s, .slice g3 M c3] 69)) := HB3.out.alloc HB3.out.size _
  have hC0 : (w3.alloc (.cells #[.int .i64 s, .slice g1 M c1, .int .i64 s, .slice g2 M c2, .int .i64 s, .slice g3 M c3] 69)).cell? ⟨w.heap.size, 0, none⟩ = some (.int .i64 s) := Lib.cell?_alloc_some _ c3_0_0
  have hC1 : (w3.alloc (.cells #[.int .i64 s, .slice g1 M c1, .int .i64 s, .slice g2 M c2, .int .i64 s, .slice g3 M c3] 69)).cell? ⟨w3.heap.size, 1, none⟩ = some (.slice g1 M c1) := by go_simp
  have hC2 : (w3.alloc (.cells #[.int .i64 s, .slice g1 M c1, .int .i64 s, .slice g2 M c2, .int .i64 s, .slice g3 M c3] 69)).cell? ⟨w3.heap.size, 3, none⟩ = some (.slice g2 M c2) := by go_simp
  have hC3 : (w3.alloc (.cells #[.int .i64 s, .slice g1 M c1, .int .i64 s, .slice g2 M c2, .int .i64 s, .slice g3 M c3] 69)).cell? ⟨w3.heap.size, 5, none⟩ = some (.slice g3 M c3) := by go_simp
  have hH3 : H3 (w3.alloc (.cells #[.int .i64 s, .slice g1 M c1, .int .i64 s, .slice g2 M c2, .int .i64 s, .slice g3 M c3] 69)) w3.heap.size (hs3 a b c) := by
    intro k hk
    match k with
    | 0 => exact ⟨g1, c1, by rw [show (hs3 a b c 0).length = M from la]; exact hC1, by rw [show (hs3 a b c 0).length = M from la]; exact HU.out.below hBX⟩
    | 1 => exact ⟨g2, c2, by rw [show (hs3 a b c 1).length = M from lb]; exact hC2, by rw [show (hs3 a b c 1).length = M from lb]; exact HV.out.below hBX⟩
    | 2 => exact ⟨g3, c3, by rw [show (hs3 a b c 2).length = M from lc]; exact hC3, by rw [show (hs3 a b c 2).length = M from lc]; exact HT.out.below hBX⟩
    | k + 3 => omega
  have HMX := Kp.mk (HM.out _ _ _ hC0 hH3)
  clear hBX hC0 hC1 hC2 hC3 hH3 HM
  go_wp2_with fail
  refine HMX.out.mono ?_
  rintro en w4 ⟨v, rfl, hv, hb4⟩
  obtain ⟨gv, cv, rfl⟩ := hv.lb.shape
  have HV4 : Kp (NB (w.heap.size + 1 + 1 + 1 + 1) w4 _ (hullB s a b c)) := ⟨hv.more (by rw [World.size_alloc]; omega)⟩
  clear hv HMX
  have HB4 : Kp (Below w.heap.size w w4) := ⟨Below.trans (by repeat (first | refine Below.alloc ?_ (by have := HB3.out.size; (try simp) <;> omega) _ | refine bDrewN ?_ _ | refine Below.drew ?_ | refine Below.setCell ?_ (by have := HB3.out.size; (try simp) <;> omega) _ | exact HB3.out)) (hb4.mono (by have := HB3.out.size; (try simp) <;> omega))⟩
  have hz4_0 : w.heap.size + 1 + 1 + 1 < w4.heap.size := by have := hb4.size; (try simp at this); omega
  obtain ⟨hc, hf⟩ := bcell hb4
  have c4_0_0 : w4.cell? ⟨w.heap.size + 1 + 1 + 1, 0, none⟩ = some (.int .i64 0) := (hc _ _ (by (try simp) <;> omega)).trans (by go_simp)
  have c4_0_1 : w4.cell? ⟨w.heap.size + 1 + 1 + 1, 1, none⟩ = some ((.slice none 0 0)) := (hc _ _ (by (try simp) <;> omega)).trans (by go_simp)
  have z4_0 : ∀ j, w4.frozen? ⟨w.heap.size + 1 + 1 + 1, j, none⟩ = false := fun j => (hf _ _ (by (try simp) <;> omega)).trans (by go_simp)
  clear hc hf hb4
  go_wp2
  have HB5 : Below w.heap.size w ((w4.setCell ⟨w.heap.size + 1 + 1 + 1, 0, none⟩ (.int .i64 s)).setCell ⟨w.heap.size + 1 + 1 + 1, 1, none⟩ (.slice gv (hullB s a b c).length cv)) := by (have hzS := HB4.out.size; (repeat (with_reducible first | exact HB4.out | refine Below.setCell ?_ ?_ _ | refine Below.alloc ?_ ?_ _ | refine Below.drew ?_ | refine bDrewN ?_ _)); all_goals ((try simp) <;> omega))
  have hV2 := (HV4.out.set (w.heap.size + 1 + 1 + 1) 0 (.int .i64 s) (by omega)).set (w.heap.size + 1 + 1 + 1) 1 (.slice gv (hullB s a b c).length cv) (by omega)
  exact bodyPost_ret (v := .tuple #[.agg #[.int .i64 s, .slice gv (hullB s a b c).length cv], .int .i64 0]) (by simp [results, Tryz.results15, go_sem, c4_0_0, c4_0_1]) rfl ⟨_, rfl, ⟨_, rfl, hV2.lb⟩, HB5⟩
end Go.Proofs.YtknggeofilfiaaaGreatDoor.Cv
