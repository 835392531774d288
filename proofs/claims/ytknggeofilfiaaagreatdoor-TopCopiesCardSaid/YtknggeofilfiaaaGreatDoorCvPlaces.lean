/-
  WALKS (layer 5, carve): the iterator over all places of a block.
-/
import Derived.Test.YtknggeofilfiaaaGreatDoorCvWalkA
import Derived.Test.YtknggeofilfiaaaGreatDoorCvTail
namespace Go.Proofs.YtknggeofilfiaaaGreatDoor.Cv
open Go Go.RowKit Go.Sort
attribute [local go_sem] Oper.semAt_some

def encG (x : Gr) : Array Value := #[.agg #[.int .i64 x.x, .int .i64 x.y, .int .i64 x.z]]
theorem places_any (s : Int) (w : World) :
    Calls Tryz.prog 59 #[.int .i64 s] w fun en w' => en = .returned (.func (.func 74) #[] #[.pointer (some ⟨w.heap.size, 0, none⟩)]) ∧ w.alloc (.cells #[.int .i64 s] 3) = w' := by
  go_enter Tryz.func59, Tryz.ntmps59
  go_wp2
  go_ret
  exact ⟨rfl, rfl⟩
theorem places_start {w W : World} {s : Int} {Y : Nat} (hY : w.heap.size = Y) (h : w.alloc (.cells #[.int .i64 s] 3) = W) : W.heap.size = Y + 1 ∧ Below w.heap.size w W ∧ W.cell? ⟨Y, 0, none⟩ = some (.int .i64 s) := by
  subst h
  subst hY
  exact ⟨by simp, (Below.refl _ _).alloc (Nat.le_refl _) _, by go_simp⟩
theorem cube_bd {s : Nat} (h : s ≤ 10) : s * s ≤ 100 ∧ s * s * s ≤ 1000 :=
  ⟨Nat.mul_le_mul h h, Nat.mul_le_mul (Nat.mul_le_mul h h) h⟩
theorem wrap_nat {n : Nat} (h : n ≤ 100000) : IntKind.i64.wrap (n : Int) = n := IntWalk.i64_in _ (by omega)
theorem cube_wrap {s : Nat} (h : s ≤ 10) : IntKind.i64.wrap ((s : Int) * s) = (s : Int) * s ∧ IntKind.i64.wrap ((s : Int) * s * s) = ((s * s * s : Nat) : Int) := by
  have hcb := cube_bd h
  rw [← Int.natCast_mul, ← Int.natCast_mul]
  exact ⟨wrap_nat (by omega), wrap_nat (by omega)⟩
theorem quo_nat (a b : Nat) : (a : Int).tdiv b = ((a / b : Nat) : Int) := rfl
theorem rem_nat (a b : Nat) : (a : Int).tmod b = ((a % b : Nat) : Int) := rfl
set_option maxRecDepth 100000 in
set_option maxHeartbeats 2000000 in
theorem places_yields (n : Nat) (_hn : 1 ≤ n) (X s : Nat) (hs : 1 ≤ s) (hs2 : s ≤ 10) (w : World) (hX : w.cell? ⟨X, 0, none⟩ = some (.int .i64 s)) :
    YieldsS 0 encG Fence.wide n Tryz.prog 74 #[.pointer (some ⟨X, 0, none⟩)] (Keep (· = X) 0) (placesL s) w := by
  intro lp J Jx W hW hsz hJ hJx hY h0
  have hXl := World.block_lt_of_cell? _ _ hX
  have cX : W.cell? ⟨X, 0, none⟩ = some (.int .i64 s) := (hW.cell (p := ⟨X, 0, none⟩) hXl).trans hX
  have HJ0 : Kp (J ((placesL s).take 0) W) := ⟨h0⟩
  have HYY := Kp.mk hY
  have HJT := Kp.mk hJ
  have HCX := Kp.mk cX
  obtain ⟨e1, e2⟩ := cube_wrap hs2
  obtain ⟨N, hN⟩ : ∃ N, s * s * s = N := ⟨_, rfl⟩
  rw [hN] at e2
  have HN := Kp.mk hN
  clear hN
  clear h0 hY hJ hJx hX hW
  refine callsIn_of_wp Tryz.func74 rfl trivial ?_ rfl
  simp only [Tryz.ntmps74, List.size_toArray, List.length_cons, List.length_nil, Nat.reduceAdd, Nat.reduceSub, Array.replicate_succ, Array.replicate_zero, List.push_toArray, List.append_toArray, List.nil_append, List.cons_append]
  gi_wp2
  gi_loopw [9] (fun a wr => ∃ k : Nat, k ≤ N ∧ a = .int .i64 (k : Int) ∧ Kp (wr.cell? ⟨X, 0, none⟩ = some (.int .i64 s)) ∧ Kp (W.heap.size ≤ wr.heap.size) ∧ J ((placesL s).take k) wr) (fun a _ => N - (intOf a).toNat)
  case atStart => exact ⟨0, Nat.zero_le _, rfl, HCX, ⟨Nat.le_refl _⟩, HJ0.out⟩
  case round =>
    clear HJ0 e1 e2
    obtain ⟨k, hk, rfl, HX, HS, hJk⟩ := hrel
    have HJk := Kp.mk hJk
    clear hJk
    by_cases hkn : k < N
    · have hlt : k < s * s * s := by rw [HN.out]; exact hkn
      have o1 : (k : Int) < (N : Int) := by omega
      have hk1 : k ≤ 1000 := by have := (cube_bd hs2).2; omega
      obtain ⟨q, hq⟩ : ∃ q, k / s = q := ⟨_, rfl⟩
      obtain ⟨r, hr⟩ : ∃ r, q / s = r := ⟨_, rfl⟩
      have hql : q ≤ k := by rw [← hq]; exact Nat.div_le_self k s
      have hrl : r ≤ q := by rw [← hr]; exact Nat.div_le_self q s
      obtain ⟨a, ha⟩ : ∃ a, k % s = a := ⟨_, rfl⟩
      obtain ⟨b, hb⟩ : ∃ b, q % s = b := ⟨_, rfl⟩
      have f1 : (k : Int).tmod s = (a : Int) := by rw [rem_nat, ha]
      have f2 : IntKind.i64.wrap ((k : Int) / s) = (q : Int) := by rw [← Int.natCast_ediv, hq]; exact wrap_nat (by omega)
      have f3 : (q : Int).tmod s = (b : Int) := by rw [rem_nat, hb]
      have f4 : IntKind.i64.wrap ((q : Int) / s) = (r : Int) := by rw [← Int.natCast_ediv, hr]; exact wrap_nat (by omega)
      have hs0 : ¬ s = 0 := by omega
      have c1 := HX.out
      have hJd : J ((placesL s).take k) wr.drew := HJT.out _ wr wr.drew none HJk.out (grown_below (Below.drew (Below.refl _ _)) none) (fun r e => by cases e)
      have c2 : wr.drew.cell? ⟨X, 0, none⟩ = some (.int .i64 s) := HX.out
      obtain ⟨fn, tmps, assign, body, hy, hRd⟩ := HYY.out ((placesL s).take k) (grAt s k) wr.drew hJd (by rw [← places_succ hlt]; exact List.take_prefix _ _) (by have := HS.out; simp; omega)
      rw [← places_succ hlt] at hRd
      simp only [encG, grAt, hq, hr, ha, hb] at hy
      clear hlt hkn hJd hq hr hql hrl ha hb
      gi_wp2
      refine regionIn_tail_wide 15 (by kernel_rfl) (by kernel_rfl) (by kernel_rfl) ?_
      intro wd hwd
      rw [hwd] at c2 hy hRd
      simp only [List.take_succ_cons, List.take_zero, List.drop_succ_cons, List.drop_zero]
      repeat still_step
      refine wpStill_nil ?_
      gi_wp2
      refine hRd.mono ?_
      rintro en W3 (⟨rfl, hJ3, hk3⟩ | ⟨rfl, hx3, -⟩)
      · have HJ3 : Kp (J ((placesL s).take (k + 1)) W3) := ⟨hJ3⟩
        have hX3 : W3.cell? ⟨X, 0, none⟩ = some (.int .i64 s) := (World.cell?_of_block (a := ⟨X, 0, none⟩) (hk3.same X rfl)).trans c2
        have HX3 := Kp.mk hX3
        have HS3 : Kp (W.heap.size ≤ W3.heap.size) := ⟨Nat.le_trans (by rw [← hwd]; exact HS.out) hk3.size⟩
        clear hJ3 hk3 hy hRd hX3 hwd c1 c2
        gi_wp2
        go_roundw
        case rel => exact ⟨k + 1, by omega, by go_num, HX3, HS3, HJ3.out⟩
        case measure => simp [intOf]; omega
      · have HXX : Kp (Jx ((placesL s).take (k + 1)) W3) := ⟨hx3⟩
        have HP : Kp ((placesL s).take (k + 1) <+: placesL s) := ⟨List.take_prefix _ _⟩
        clear hx3 hy hRd hwd c1 c2
        gi_wp2
        exact bodyPost_ret (results_none rfl _ _ _) rfl ⟨⟨_, rfl⟩, .inr ⟨_, HP.out, HXX.out⟩⟩
    · have hkm : k = N := by omega
      have HJF : Kp (J (placesL s) wr) := ⟨by have h := HJk.out; rw [hkm, ← HN.out, ← places_len s, List.take_length] at h; exact h⟩
      clear hkm
      gi_wp2
      go_end0
      exact ⟨⟨_, rfl⟩, .inl HJF.out⟩
end Go.Proofs.YtknggeofilfiaaaGreatDoor.Cv
