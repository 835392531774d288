/-
  WALKS (layer 5, carve): two blocks are small; the law CarveSets, its ways.
-/
import Derived.Test.YticcafjogmjkiaaCvGrKit
import Derived.Test.YticcafjogmjkiaaCvAwake
namespace Go.Proofs.Yticcafjogmjkiaa.Cv
open Go Go.RowKit Go.Sort

theorem light2_any (s t : Int) (g g' : Option Addr) (n c n' c' Y : Nat) (w : World) (h0 : w.cell? ⟨Y, 0, none⟩ = some (.int .i64 s)) (h1 : w.cell? ⟨Y, 1, none⟩ = some (.slice g n c)) (h2 : w.cell? ⟨Y, 2, none⟩ = some (.int .i64 t)) (h3 : w.cell? ⟨Y, 3, none⟩ = some (.slice g' n' c')) :
    Calls Try.prog 15 #[.slice (some ⟨Y, 0, none⟩) 2 2] w fun e w' => e = .returned (.bool (decide (n ≤ 2000) && decide (n' ≤ 2000))) ∧ Below w.heap.size w w' := by
  have hYl := World.block_lt_of_cell? _ _ h0
  have HC := Lib.hid (And.intro (And.intro h0 h1) (And.intro h2 h3))
  clear h0 h1 h2 h3
  obtain ⟨R, hR⟩ : ∃ R, (decide (n ≤ 2000) && decide (n' ≤ 2000)) = R := ⟨_, rfl⟩
  have HR := Kp.mk hR
  rw [hR]
  clear hR
  go_enter Try.func15, Try.ntmps15
  go_wp2
  go_loopw [7] (fun i wr => ∃ k : Nat, k ≤ 2 ∧ i = .int .i64 (k : Int) ∧ Kp ((1 ≤ k → n ≤ 2000) ∧ (k = 2 → n' ≤ 2000) ∧ Below w.heap.size w wr)) (fun i _ => 2 - (intOf i).toNat)
  case atStart => exact ⟨0, by omega, rfl, ⟨by omega, by omega, Below.refl _ _⟩⟩
  case round =>
    obtain ⟨k, hk, rfl, HB⟩ := hrel
    by_cases hlt : k < 2
    · have hzr := HB.out.2.2.size
      obtain rfl | rfl : k = 0 ∨ k = 1 := by omega
      · have c0 : wr.cell? ⟨Y, 0, none⟩ = some (.int .i64 s) := (HB.out.2.2.cell (p := ⟨Y, 0, none⟩) hYl).trans HC.out.1.1
        have c1 : wr.cell? ⟨Y, 1, none⟩ = some (.slice g n c) := (HB.out.2.2.cell (p := ⟨Y, 1, none⟩) hYl).trans HC.out.1.2
        by_cases hn : n ≤ 2000
        · have o1 : ¬ (2000 : Int) < (n : Int) := by omega
          have HB2 : Kp ((1 ≤ 1 → n ≤ 2000) ∧ (1 = 2 → n' ≤ 2000) ∧ Below w.heap.size w (wr.alloc (.cells #[.int .i64 s, .slice g n c] 24))) := ⟨fun _ => hn, fun e => by omega, HB.out.2.2.alloc hzr _⟩
          go_wp2
          go_roundw
          case rel => exact ⟨1, by omega, by go_num, HB2⟩
          case measure => simp [intOf]
        · have o1 : (2000 : Int) < (n : Int) := by omega
          have HD : Kp (R = false) := ⟨by rw [← HR.out, decide_eq_false hn]; rfl⟩
          have HB2 : Kp (Below w.heap.size w (wr.alloc (.cells #[.int .i64 s, .slice g n c] 24))) := ⟨HB.out.2.2.alloc hzr _⟩
          clear hn
          go_wp2
          go_ret
          exact ⟨ret_bool HD.out.symm, HB2.out⟩
      · have c0 : wr.cell? ⟨Y, 2, none⟩ = some (.int .i64 t) := (HB.out.2.2.cell (p := ⟨Y, 2, none⟩) hYl).trans HC.out.2.1
        have c1 : wr.cell? ⟨Y, 3, none⟩ = some (.slice g' n' c') := (HB.out.2.2.cell (p := ⟨Y, 3, none⟩) hYl).trans HC.out.2.2
        by_cases hn : n' ≤ 2000
        · have o1 : ¬ (2000 : Int) < (n' : Int) := by omega
          have HB2 : Kp ((1 ≤ 2 → n ≤ 2000) ∧ (2 = 2 → n' ≤ 2000) ∧ Below w.heap.size w (wr.alloc (.cells #[.int .i64 t, .slice g' n' c'] 24))) := ⟨fun _ => HB.out.1 (by omega), fun _ => hn, HB.out.2.2.alloc hzr _⟩
          go_wp2
          go_roundw
          case rel => exact ⟨2, by omega, by go_num, HB2⟩
          case measure => simp [intOf]
        · have o1 : (2000 : Int) < (n' : Int) := by omega
          have HD : Kp (R = false) := ⟨by rw [← HR.out, decide_eq_false hn, Bool.and_false]⟩
          have HB2 : Kp (Below w.heap.size w (wr.alloc (.cells #[.int .i64 t, .slice g' n' c'] 24))) := ⟨HB.out.2.2.alloc hzr _⟩
          clear hn
          go_wp2
          go_ret
          exact ⟨ret_bool HD.out.symm, HB2.out⟩
    · have hk2 : k = 2 := by omega
      have HD : Kp (R = true) := ⟨by rw [← HR.out, decide_eq_true (HB.out.1 (by omega)), decide_eq_true (HB.out.2.1 hk2)]; rfl⟩
      have o1 : ¬ (k : Int) < 2 := by omega
      go_wp2
      go_ret
      exact ⟨ret_bool HD.out.symm, HB.out.2.2⟩
end Go.Proofs.Yticcafjogmjkiaa.Cv
