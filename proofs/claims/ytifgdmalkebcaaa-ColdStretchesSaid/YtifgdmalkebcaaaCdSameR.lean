/-
  WALKS (layer 4, cold): readings that are the same, by the reference.
-/
import Derived.Test.YtifgdmalkebcaaaCdRThin
namespace Go.Proofs.Ytifgdmalkebcaaa.Cd
open Go Go.RowKit Go.Sort

set_option maxRecDepth 100000 in
set_option maxHeartbeats 1000000 in
theorem rSame_yes (v v2 : Value) (l : List Rd) (w : World) (hs : RS w v l) (hs2 : RS w v2 l) (hl : l.length ≤ 200) :
    Calls Try.prog 34 #[v, v2] w fun en w' => en = .returned (.bool true) ∧ Below w.heap.size w w' := by
  obtain ⟨g, c, rfl, -, hi⟩ := hs
  obtain ⟨g2, c2, rfl, -, hi2⟩ := hs2
  have HS := Lib.hid hi
  have HS2 := Lib.hid hi2
  clear hi hi2
  have HB0 : Kp (Below w.heap.size w w) := ⟨Below.refl _ _⟩
  go_enter Try.func34, Try.ntmps34
  go_wp2
  go_loopw [13] (fun i wr => ∃ k : Nat, k ≤ l.length ∧ i = .int .i64 k ∧ Kp (Below w.heap.size w wr)) (fun i _ => l.length - (intOf i).toNat)
  case atStart => exact ⟨0, Nat.zero_le _, rfl, HB0⟩
  case round =>
    clear HB0
    obtain ⟨k, hk, rfl, HB⟩ := hrel
    by_cases hlt : k < l.length
    · obtain ⟨x, hx⟩ : ∃ x, l[k]? = some x := ⟨_, List.getElem?_eq_getElem hlt⟩
      obtain ⟨b, o, hg, hbl, hc1, hc2⟩ := HS.out k x hx
      obtain ⟨b2, o2, hg2, hbl2, hd1, hd2⟩ := HS2.out k x hx
      subst hg hg2
      have c1 : wr.cell? ⟨b, o + k * 2, none⟩ = some (.int .i64 x.h) := (HB.out.cell (p := ⟨b, _, none⟩) hbl).trans hc1
      have c2 : wr.cell? ⟨b, o + k * 2 + 1, none⟩ = some (.int .i64 x.t) := (HB.out.cell (p := ⟨b, _, none⟩) hbl).trans hc2
      have d1 : wr.cell? ⟨b2, o2 + k * 2, none⟩ = some (.int .i64 x.h) := (HB.out.cell (p := ⟨b2, _, none⟩) hbl2).trans hd1
      have d2 : wr.cell? ⟨b2, o2 + k * 2 + 1, none⟩ = some (.int .i64 x.t) := (HB.out.cell (p := ⟨b2, _, none⟩) hbl2).trans hd2
      have o1 : (k : Int) < (l.length : Int) := by omega
      have o4 : k ≤ 200 := by omega
      have r1 := fun d os => cell_regrown c1 d os
      have r2 := fun d os => cell_regrown c2 d os
      have r3 := fun d os => cell_regrown d1 d os
      have r4 := fun d os => cell_regrown d2 d os
      have HBR : Kp (∀ dq osq, Below w.heap.size w (grow (redrawn wr dq) osq)) := ⟨fun d os => HB.out.trans ((below_regrown wr d os).mono HB.out.size)⟩
      clear c1 c2 d1 d2 hc1 hc2 hd1 hd2 hx
      go_wp2
      refine wp_region_quiet_below (by kernel_rfl) (by kernel_rfl) ?_
      repeat (any_goals (first | go_big_quiet_step (fail) | quiet_step (fail)))
      refine wpQuiet_nil ?_
      intro _ hqw
      obtain ⟨⟨dq, osq⟩, hqv⟩ := hqw
      subst hqv
      have HB2 := Kp.mk (HBR.out dq osq)
      clear r1 r2 r3 r4 HBR
      go_wp2
      go_roundw
      case rel => exact ⟨k + 1, by omega, by go_num, HB2⟩
      case measure => simp [intOf]; omega
    · have hkn : k = l.length := by omega
      go_wp2
      go_ret
      exact ⟨rfl, HB.out⟩
end Go.Proofs.Ytifgdmalkebcaaa.Cd
