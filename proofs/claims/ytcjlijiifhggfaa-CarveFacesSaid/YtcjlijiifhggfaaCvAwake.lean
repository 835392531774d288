/-
  WALKS (layer 5, carve): the check that fails for an empty program.
-/
import Derived.Test.YtcjlijiifhggfaaCvSame
import Derived.Test.YtcjlijiifhggfaaCvFacesN
import Derived.Test.YtcjlijiifhggfaaCvDup
namespace Go.Proofs.Ytcjlijiifhggfaa.Cv
open Go Go.RowKit Go.Sort

def twoL : List Gr := [⟨0, 0, 0⟩, ⟨1, 1, 1⟩]
theorem two_eq : setB 2 twoL = [true, false, false, false, false, false, false, true] := by decide +kernel
theorem two_grains : grainsL 2 [true, false, false, false, false, false, false, true] = twoL := by decide +kernel
theorem two_lone : lone 2 [true, false, false, false, false, false, false, true] := by
  intro g hg
  rw [two_grains] at hg
  have h : ∀ g ∈ twoL, ∀ n ∈ aroundL g, hasB 2 [true, false, false, false, false, false, false, true] n = false := by decide +kernel
  exact h g hg
theorem two_faces : (facesL 2 [true, false, false, false, false, false, false, true]).length = 12 := by decide +kernel
def twoB : List Bool := [true, false, false, false, false, false, false, true]
theorem gs_two {W : World} {Y : Nat} {x y : Gr} (h0 : W.cell? ⟨Y, 0, none⟩ = some (.int .i64 x.x)) (h1 : W.cell? ⟨Y, 1, none⟩ = some (.int .i64 x.y)) (h2 : W.cell? ⟨Y, 2, none⟩ = some (.int .i64 x.z)) (h3 : W.cell? ⟨Y, 3, none⟩ = some (.int .i64 y.x)) (h4 : W.cell? ⟨Y, 4, none⟩ = some (.int .i64 y.y)) (h5 : W.cell? ⟨Y, 5, none⟩ = some (.int .i64 y.z)) : GS W (.slice (some ⟨Y, 0, none⟩) 2 2) [x, y] := by
  refine ⟨_, _, rfl, Nat.le_refl _, fun i s hs => ?_⟩
  match i with
  | 0 =>
    simp at hs
    subst hs
    exact ⟨Y, 0, rfl, World.block_lt_of_cell? _ _ h0, h0, h1, h2⟩
  | 1 =>
    simp at hs
    subst hs
    exact ⟨Y, 0, rfl, World.block_lt_of_cell? _ _ h0, h3, h4, h5⟩
  | i + 2 => simp at hs
theorem ri_two {W : World} {Y : Nat} (h0 : W.cell? ⟨Y, 0, none⟩ = some (.int .i64 1)) (h1 : W.cell? ⟨Y, 1, none⟩ = some (.int .i64 1)) : RI W (.slice (some ⟨Y, 0, none⟩) 2 2) [1, 1] := by
  refine ⟨_, _, rfl, fun i x hx => ?_⟩
  match i with
  | 0 => simp at hx; subst hx; exact ⟨Y, rfl, h0⟩
  | 1 => simp at hx; subst hx; exact ⟨Y, rfl, h1⟩
  | i + 2 => simp at hx
theorem Of_two (W : World) (v : Value) (hv : GS W v twoL) : Calls Try.prog 31 #[.int .i64 2, v] W fun e w' => ∃ g c, e = .returned (.tuple #[.agg #[.int .i64 2, .slice g 8 c], .int .i64 0]) ∧ LB w' (.slice g 8 c) twoB ∧ Below W.heap.size W w' := by
  refine (Of_ok 2 v twoL W hv (by decide) (by decide +kernel) (by decide +kernel) (by decide +kernel) (fun x hx => ?_)).mono ?_
  · have h : x = ⟨0, 0, 0⟩ ∨ x = ⟨1, 1, 1⟩ := by simpa [twoL] using hx
    rcases h with rfl | rfl
    · exact ins_ok (s := 2) (by decide) (by decide +kernel)
    · exact ins_ok (s := 2) (by decide) (by decide +kernel)
  · rintro e w' ⟨r, rfl, ⟨u, rfl, hu, -⟩, hb⟩
    rw [two_eq] at hu
    obtain ⟨g, c, rfl⟩ := hu.shape
    exact ⟨g, c, rfl, hu, hb⟩
set_option maxHeartbeats 1000000 in
theorem awake_any (w : World) : Calls Try.prog 8 #[] w fun e w' => e = .returned (.bool true) ∧ Below w.heap.size w w' := by
  have HO : Kp (∀ W v, GS W v [⟨0, 0, 0⟩, ⟨1, 1, 1⟩] → Calls Try.prog 31 #[.int .i64 2, v] W fun e w' => ∃ g c, e = .returned (.tuple #[.agg #[.int .i64 2, .slice g 8 c], .int .i64 0]) ∧ LB w' (.slice g 8 c) twoB ∧ Below W.heap.size W w') := ⟨fun W v hv => Of_two W v hv⟩
  have HPC : Kp (∀ W u, LB W u twoB → Calls Try.prog 9 #[.agg #[.int .i64 2, u]] W fun e w' => ∃ v, e = .returned (.tuple #[v, .int .i64 0]) ∧ (∃ B0, OwnI w' B0 v [1, 1]) ∧ Below W.heap.size W w') := ⟨fun W u hu => Pieces_two 2 u twoB W hu (by decide) (by decide) rfl two_lone (by unfold twoB; rw [two_grains]; rfl)⟩
  have HFC : Kp (∀ W u, LB W u twoB → Calls Try.prog 15 #[.agg #[.int .i64 2, u]] W fun e w' => e = .returned (.tuple #[.int .i64 12, .int .i64 0]) ∧ Below W.heap.size W w') := ⟨fun W u hu => by
    have h := Faces_in 2 u twoB W hu (by decide) (by decide) rfl
    have e : (facesL 2 twoB).length = 12 := two_faces
    rw [e] at h
    exact h⟩
  have HSM : Kp (∀ W u v, RI W u [1, 1] → RI W v [1, 1] → Calls Try.prog 13 #[u, v] W fun e w' => e = .returned (.bool true) ∧ ∃ n, w' = W.drewN n) := ⟨fun W u v h1 h2 => same_ints u v _ W (by decide) h1 h2⟩
  obtain ⟨L, hL⟩ : ∃ L, twoB = L := ⟨_, rfl⟩
  rw [hL] at HO HPC HFC
  clear hL
  go_enter Try.func8, Try.ntmps8
  go_wp2_with fail
  refine (HO.out _ (.slice (some ⟨w.heap.size, 0, none⟩) 2 2) (gs_two (by go_simp) (by go_simp) (by go_simp) (by go_simp) (by go_simp) (by go_simp))).mono ?_
  rintro en w1 ⟨g, c, rfl, hl, hb1⟩
  have HL1 := Kp.mk hl
  have HB1 : Kp (Below w.heap.size w w1) := ⟨Below.trans (by repeat (first | exact Below.refl _ _ | refine Below.alloc ?_ (by simp <;> omega) _ | refine bDrewN ?_ _ | refine Below.drew ?_)) (hb1.mono (by simp <;> omega))⟩
  clear hl hb1
  go_wp2_with fail
  refine (HPC.out _ _ (HL1.out.below ((Below.refl _ _).alloc (Nat.le_refl _) _))).mono ?_
  rintro en w2 ⟨p, rfl, ⟨B0, hp⟩, hb2⟩
  have HP := Kp.mk hp.ri
  have HL2 := Kp.mk ((HL1.out.below ((Below.refl _ _).alloc (Nat.le_refl _) _)).below hb2)
  clear hp
  have HB2 : Kp (Below w.heap.size w w2) := ⟨Below.trans (by repeat (first | refine Below.alloc ?_ (by have := HB1.out.size; (try simp) <;> omega) _ | refine bDrewN ?_ _ | refine Below.drew ?_ | refine Below.setCell ?_ (by have := HB1.out.size; (try simp) <;> omega) _ | exact HB1.out)) (hb2.mono (by have := HB1.out.size; (try simp) <;> omega))⟩
  have hz2_0 : w1.heap.size < w2.heap.size := by have := hb2.size; (try simp at this); omega
  obtain ⟨hc, hf⟩ := bcell hb2
  have c2_0_0 : w2.cell? ⟨w1.heap.size, 0, none⟩ = some (.int .i64 2) := (hc _ _ (by (try simp) <;> omega)).trans (by go_simp)
  have c2_0_1 : w2.cell? ⟨w1.heap.size, 1, none⟩ = some ((.slice g 8 c)) := (hc _ _ (by (try simp) <;> omega)).trans (by go_simp)
  have z2_0 : ∀ j, w2.frozen? ⟨w1.heap.size, j, none⟩ = false := fun j => (hf _ _ (by (try simp) <;> omega)).trans (by go_simp)
  clear hc hf hb2
  go_wp2_with fail
  refine (HFC.out _ _ HL2.out).mono ?_
  rintro en w3 ⟨rfl, hb3⟩
  have HP3 := Kp.mk (HP.out.below hb3)
  have HB3 : Kp (Below w.heap.size w w3) := ⟨HB2.out.trans (hb3.mono HB2.out.size)⟩
  clear hb3 c2_0_0 c2_0_1 z2_0 hz2_0
  go_wp2_with fail
  refine (HSM.out _ _ _ (HP3.out.below ((Below.refl _ _).alloc (Nat.le_refl _) _)) (ri_two (by go_simp) (by go_simp))).mono ?_
  rintro en w4 ⟨rfl, k, rfl⟩
  go_wp2
  go_ret
  exact ⟨rfl, bDrewN (HB3.out.alloc HB3.out.size _) _⟩
end Go.Proofs.Ytcjlijiifhggfaa.Cv
