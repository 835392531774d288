/-
  WALKS (layer 5, carve): a block made of a list.
-/
import Derived.Test.YtcjlijiifhggfaaCvSet
namespace Go.Proofs.Ytcjlijiifhggfaa.Cv
open Go Go.RowKit

theorem SM.on {W V : World} {b : Nat} {l : List Gr} (h : SM W b l) (hb : Below W.heap.size W V) : SM V b l := h.kept (grown_below hb none) (by simp)
theorem listed1_any (B b : Nat) (l : List Gr) (g : Gr) (W : World) (hB : W.cell? ⟨B, 0, none⟩ = some (.map (some b))) (hs : SM W b l) (hl : ∀ x ∈ l, x.ok) (hg : g.ok) :
    Calls Try.prog 73 (#[.agg #[.int .i64 g.x, .int .i64 g.y, .int .i64 g.z]] ++ #[.pointer (some ⟨B, 0, none⟩)]) W fun e w' => e = .returned (.bool (decide (g ∈ l))) ∧ Below W.heap.size W w' := by
  have hrun := SM.has (hs.kept (World.grownBy_alloc W (.cells #[.int .i64 g.x, .int .i64 g.y, .int .i64 g.z] 48) none) (by simp)) hl hg
  have hBl := World.block_lt_of_cell? _ _ hB
  obtain ⟨gx, gy, gz⟩ := g
  simp only at hrun
  clear hs hl hg
  go_enter Try.func73, Try.ntmps73
  go_wp2
  go_ret
  exact ⟨rfl, by repeat (first | exact Below.refl _ _ | refine Below.alloc ?_ (by simp <;> omega) _ | refine bDrewN ?_ _ | refine Below.drew ?_)⟩
def setB (s : Nat) (l : List Gr) : List Bool := (placesL s).map fun g => decide (g ∈ l)
set_option maxHeartbeats 1000000 in
theorem listed_any (s : Nat) (v : Value) (l : List Gr) (w : World) (hs : 1 ≤ s) (hs2 : s ≤ 10) (hv : GS w v l) (hm : l.length ≤ 4611686018427387904) (hl : ∀ x ∈ l, insB s x = true) :
    Calls Try.prog 40 #[.int .i64 s, v] w fun en w' => ∃ u, en = .returned (.agg #[.int .i64 s, u]) ∧ NB w.heap.size w' u (setB s l) ∧ Below w.heap.size w w' := by
  have HO : Kp (∀ x ∈ l, x.ok) := ⟨fun x hx => ins_ok hs2 (hl x hx)⟩
  have HS : Kp (∀ W, Below w.heap.size w W → Calls Try.prog 59 #[v] W fun e w' => ∃ b, e = .returned (.map (some b)) ∧ W.heap.size ≤ b ∧ SM w' b l ∧ Below W.heap.size W w') := ⟨fun W hW => setOf_any v l W (hv.below hW) hm HO.out⟩
  have HM : Kp (∀ W (B b : Nat), W.cell? ⟨B, 0, none⟩ = some (.map (some b)) → SM W b l → Calls Try.prog 60 #[.int .i64 s, .func (.func 73) #[] #[.pointer (some ⟨B, 0, none⟩)]] W fun e w' => ∃ v, e = .returned (.agg #[.int .i64 s, v]) ∧ NB W.heap.size w' v (setB s l) ∧ Below W.heap.size W w') := ⟨fun W B b hB hS => made_any 73 #[.pointer (some ⟨B, 0, none⟩)] (fun g => decide (g ∈ l)) s W hs hs2 (enters_of Try.func73 (by kernel_rfl) rfl) ⟨fun X g hX hg => listed1_any B b l g X ((hX.cell (p := ⟨B, 0, none⟩) (World.block_lt_of_cell? _ _ hB)).trans hB) (hS.on hX) HO.out (ins_ok hs2 hg)⟩⟩
  obtain ⟨gv, cv, rfl⟩ := hv.shape
  clear hv hm hl
  go_enter Try.func40, Try.ntmps40
  go_wp2_with fail
  refine (HS.out _ (by repeat (first | exact Below.refl _ _ | refine Below.alloc ?_ (by simp <;> omega) _ | refine bDrewN ?_ _ | refine Below.drew ?_))).mono ?_
  rintro en w1 ⟨b, rfl, hb0, hsm, hb1⟩
  have HSM := Kp.mk hsm
  clear hsm hb0
  have HB1 : Kp (Below w.heap.size w w1) := ⟨Below.trans (by repeat (first | refine Below.alloc ?_ (by (try simp) <;> omega) _ | refine bDrewN ?_ _ | refine Below.drew ?_ | refine Below.setCell ?_ (by (try simp) <;> omega) _ | exact Below.refl _ _)) (hb1.mono (by (try simp) <;> omega))⟩
  have hz1_0 : w.heap.size < w1.heap.size := by have := hb1.size; (try simp at this); omega
  obtain ⟨hc, hf⟩ := bcell hb1
  have c1_0_0 : w1.cell? ⟨w.heap.size, 0, none⟩ = some (.int .i64 0) := (hc _ _ (by (try simp) <;> omega)).trans (by go_simp)
  have c1_0_1 : w1.cell? ⟨w.heap.size, 1, none⟩ = some ((.slice none 0 0)) := (hc _ _ (by (try simp) <;> omega)).trans (by go_simp)
  have z1_0 : ∀ j, w1.frozen? ⟨w.heap.size, j, none⟩ = false := fun j => (hf _ _ (by (try simp) <;> omega)).trans (by go_simp)
  clear hc hf hb1
  have hC0 : (w1.alloc (.cells #[.map (some b)] 92)).cell? ⟨w1.heap.size, 0, none⟩ = some (.map (some b)) := by go_simp
  go_wp2_with fail
  refine (HM.out _ _ b hC0 (HSM.out.kept (World.grownBy_alloc _ _ none) (by simp))).mono ?_
  rintro en w2 ⟨u, rfl, hu, hb2⟩
  obtain ⟨gu, cu, rfl⟩ := hu.lb.shape
  have HU : Kp (NB (w.heap.size + 1) w2 _ (setB s l)) := ⟨hu.more (by simp; omega)⟩
  clear hu hC0
  have HB2 : Kp (Below w.heap.size w w2) := ⟨Below.trans (by repeat (first | refine Below.alloc ?_ (by have := HB1.out.size; (try simp) <;> omega) _ | refine bDrewN ?_ _ | refine Below.drew ?_ | refine Below.setCell ?_ (by have := HB1.out.size; (try simp) <;> omega) _ | exact HB1.out)) (hb2.mono (by have := HB1.out.size; (try simp) <;> omega))⟩
  have hz2_0 : w.heap.size < w2.heap.size := by have := hb2.size; (try simp at this); omega
  obtain ⟨hc, hf⟩ := bcell hb2
  have c2_0_0 : w2.cell? ⟨w.heap.size, 0, none⟩ = some (.int .i64 0) := (hc _ _ (by (try simp) <;> omega)).trans (by go_simp)
  have c2_0_1 : w2.cell? ⟨w.heap.size, 1, none⟩ = some ((.slice none 0 0)) := (hc _ _ (by (try simp) <;> omega)).trans (by go_simp)
  have z2_0 : ∀ j, w2.frozen? ⟨w.heap.size, j, none⟩ = false := fun j => (hf _ _ (by (try simp) <;> omega)).trans (by go_simp)
  clear hc hf hb2
  go_wp2
  have HB3 : Below w.heap.size w ((w2.setCell ⟨w.heap.size, 0, none⟩ (.int .i64 s)).setCell ⟨w.heap.size, 1, none⟩ (.slice gu (setB s l).length cu)) := by (have hzS := HB2.out.size; (repeat (with_reducible first | exact HB2.out | refine Below.setCell ?_ ?_ _ | refine Below.alloc ?_ ?_ _ | refine Below.drew ?_ | refine bDrewN ?_ _)); all_goals ((try simp) <;> omega))
  have hV2 := ((HU.out.set w.heap.size 0 (.int .i64 s) (by omega)).set w.heap.size 1 (.slice gu (setB s l).length cu) (by omega)).more (m := w.heap.size) (by omega)
  refine bodyPost_ret (v := .agg #[.int .i64 s, .slice gu (setB s l).length cu]) (by simp [results, Try.results40, go_sem, c2_0_0, c2_0_1]) rfl ⟨_, rfl, ?_, HB3⟩
  simpa using hV2
end Go.Proofs.Ytcjlijiifhggfaa.Cv
