/-
  WALKS (layer 8, pest): the example that shows the law awake.
-/
import Derived.Test.YthkamfjjfkpekaaPeLeast
namespace Go.Proofs.Ythkamfjjfkpekaa.Pe
open Go Go.RowKit Go.Proofs Go.Sort

theorem aw_val : valB 3 owlD 1 4 = true := by decide +kernel
theorem aw_least : leastV owlD 3 1 4 = 3 := by decide +kernel
theorem aw_prov : provB 3 owlD 1 4 [1, 2] [2, 2, 1] = true := by decide +kernel
theorem ds_owl {w : World} {b c : Nat} (h0 : w.cell? ⟨b, 0, none⟩ = some (.int .i64 0)) (h1 : w.cell? ⟨b, 1, none⟩ = some (.int .i64 1)) (h2 : w.cell? ⟨b, 2, none⟩ = some (.int .i64 3)) (h3 : w.cell? ⟨b, 3, none⟩ = some (.int .i64 1)) (h4 : w.cell? ⟨b, 4, none⟩ = some (.int .i64 2)) (h5 : w.cell? ⟨b, 5, none⟩ = some (.int .i64 2)) (h6 : w.cell? ⟨b, 6, none⟩ = some (.int .i64 0)) (h7 : w.cell? ⟨b, 7, none⟩ = some (.int .i64 2)) (h8 : w.cell? ⟨b, 8, none⟩ = some (.int .i64 1)) : DS w (.slice (some ⟨b, 0, none⟩) 3 c) owlD := by
  refine ⟨_, c, rfl, fun i d hd => ⟨b, 0, rfl, ?_⟩⟩
  match i with
  | 0 => simp [owlD] at hd; subst hd; exact ⟨h0, h1, h2⟩
  | 1 => simp [owlD] at hd; subst hd; exact ⟨h3, h4, h5⟩
  | 2 => simp [owlD] at hd; subst hd; exact ⟨h6, h7, h8⟩
  | i + 3 => simp [owlD] at hd
theorem is_three {w : World} {b : Nat} {x y z : Int} (h0 : w.cell? ⟨b, 0, none⟩ = some (.int .i64 x)) (h1 : w.cell? ⟨b, 1, none⟩ = some (.int .i64 y)) (h2 : w.cell? ⟨b, 2, none⟩ = some (.int .i64 z)) : IS w (.slice (some ⟨b, 0, none⟩) 3 3) [x, y, z] := by
  refine ⟨_, 3, rfl, Nat.le_refl _, fun i u hu => ⟨b, 0, rfl, ?_⟩⟩
  match i with
  | 0 => simp at hu; subst hu; exact h0
  | 1 => simp at hu; subst hu; exact h1
  | 2 => simp at hu; subst hu; exact h2
  | i + 3 => simp at hu
set_option maxRecDepth 100000 in
set_option maxHeartbeats 1000000 in
theorem awake_any (w : World) : Calls Try.prog 12 #[] w fun e w' => e = .returned (.bool true) ∧ Below w.heap.size w w' := by
  have HL : Kp (∀ W u, DS W u owlD → Calls Try.prog 33 #[.agg #[.int .i64 3, u, .int .i64 1, .int .i64 4]] W fun e w' => e = .returned (.tuple #[.int .i64 3, .int .i64 0]) ∧ Below W.heap.size W w') := ⟨fun W u hu => by
    have := Least_any 3 1 4 u owlD W hu (by decide)
    rw [aw_val, aw_least] at this
    exact this⟩
  have HP : Kp (∀ W u u1 u2, DS W u owlD → IS W u1 [1, 2] → IS W u2 [2, 2, 1] → Calls Try.prog 29 #[.agg #[.int .i64 3, u, .int .i64 1, .int .i64 4], .agg #[u1, u2]] W fun e w' => e = .returned (.bool true) ∧ Below W.heap.size W w') := ⟨fun W u u1 u2 hu h1 h2 => by
    have := Proves_any 3 1 4 u u1 u2 owlD [1, 2] [2, 2, 1] W hu (by decide) h1 (by decide) h2 (by decide)
    rw [aw_prov] at this
    exact this⟩
  go_enter Try.func12, Try.ntmps12
  go_wp2_with fail
  refine (HL.out _ _ (ds_owl (by go_simp) (by go_simp) (by go_simp) (by go_simp) (by go_simp) (by go_simp) (by go_simp) (by go_simp) (by go_simp))).mono ?_
  rintro en w1 ⟨rfl, hb1⟩
  have hbz : Below w.heap.size w ((w.alloc (.cells #[.int .i64 0, .int .i64 1, .int .i64 3, .int .i64 1, .int .i64 2, .int .i64 2, .int .i64 0, .int .i64 2, .int .i64 1] 48)).alloc (.cells #[.int .i64 3, .slice (some ⟨w.heap.size, 0, none⟩) 3 3, .int .i64 1, .int .i64 4] 24)) := by repeat (first | exact Below.refl _ _ | refine Below.alloc ?_ (by simp <;> omega) _ | refine bDrewN ?_ _ | refine Below.drew ?_)
  have HB1 := Kp.mk (hbz.trans (hb1.mono hbz.size))
  have HDS : Kp (DS w1 (.slice (some ⟨w.heap.size, 0, none⟩) 3 3) owlD) := ⟨DS.below (ds_owl (by go_simp) (by go_simp) (by go_simp) (by go_simp) (by go_simp) (by go_simp) (by go_simp) (by go_simp) (by go_simp)) hb1⟩
  have HALL : Kp (∀ w', Below w1.heap.size w1 w' → w'.cell? ⟨w.heap.size + 1, 0, none⟩ = some (.int .i64 3) ∧ w'.cell? ⟨w.heap.size + 1, 1, none⟩ = some (.slice (some ⟨w.heap.size, 0, none⟩) 3 3) ∧ w'.cell? ⟨w.heap.size + 1, 2, none⟩ = some (.int .i64 1) ∧ w'.cell? ⟨w.heap.size + 1, 3, none⟩ = some (.int .i64 4)) := ⟨fun w' h => by
    have hc := hb1.trans (h.mono hb1.size)
    exact ⟨(hc.cell (p := ⟨w.heap.size + 1, 0, none⟩) (by simp)).trans (by go_simp), (hc.cell (p := ⟨w.heap.size + 1, 1, none⟩) (by simp)).trans (by go_simp), (hc.cell (p := ⟨w.heap.size + 1, 2, none⟩) (by simp)).trans (by go_simp), (hc.cell (p := ⟨w.heap.size + 1, 3, none⟩) (by simp)).trans (by go_simp)⟩⟩
  clear hbz hb1 HL
  obtain ⟨Z, hZ⟩ : ∃ Z, w.heap.size = Z := ⟨_, rfl⟩
  rw [hZ] at HDS HALL
  try simp only [hZ]
  clear hZ
  obtain ⟨q0, q1, q2, q3⟩ := HALL.out w1 (Below.refl _ _)
  go_wp2_with fail
  refine (HP.out _ _ _ _ (HDS.out.below (((Below.refl _ _).alloc (Nat.le_refl _) _).alloc (by simp) _)) (is_two (by go_simp) (by go_simp)) (is_three (by go_simp) (by go_simp) (by go_simp))).mono ?_
  rintro en w2 ⟨rfl, hb2⟩
  have hbz : Below w1.heap.size w1 ((w1.alloc (.cells #[.int .i64 1, .int .i64 2] 3)).alloc (.cells #[.int .i64 2, .int .i64 2, .int .i64 1] 3)) := ((Below.refl _ _).alloc (Nat.le_refl _) _).alloc (by simp) _
  have HB2 := Kp.mk (HB1.out.trans ((hbz.trans (hb2.mono hbz.size)).mono HB1.out.size))
  clear hb2 hbz
  go_wp2
  go_ret
  exact ⟨rfl, HB2.out⟩
end Go.Proofs.Ythkamfjjfkpekaa.Pe
