/-
  WALKS (layer 7, scene): a cell's column and row; whether its top is hidden.
-/
import Derived.Test.YtjnggchljilooaaScHide
import Derived.Test.YtjnggchljilooaaScShelf
import Derived.Lib.QuietBelow
namespace Go.Proofs.Ytjnggchljilooaa.Sc
open Go Go.RowKit Go.Sort

theorem placeOf_any (N k : Nat) (dp : Int) (v : Value) (w : World) (h0 : 0 < N) (h1 : N ≤ 24) (hk : k ≤ 1000) :
    Calls Try.prog 61 #[.agg #[.int .i64 N, .int .i64 dp, v], .int .i64 k] w fun e w' => e = .returned (.tuple #[.int .i64 ((k % N : Nat) : Int), .int .i64 ((k / N : Nat) : Int)]) ∧ Below w.heap.size w w' := by
  obtain ⟨a, ha⟩ : ∃ a, k % N = a := ⟨_, rfl⟩
  obtain ⟨b, hb⟩ : ∃ b, k / N = b := ⟨_, rfl⟩
  have hab : a ≤ 1000 := by rw [← ha]; exact Nat.le_trans (Nat.mod_le _ _) hk
  have hbb : b ≤ 1000 := by rw [← hb]; exact Nat.le_trans (Nat.div_le_self _ _) hk
  have e1 : ((k : Int)).tmod (N : Int) = (a : Int) := by rw [Int.tmod_eq_emod_of_nonneg (by omega), ← Int.natCast_emod, ha]
  have e2 : ((k : Int)).tdiv (N : Int) = (b : Int) := by rw [Int.tdiv_eq_ediv_of_nonneg (by omega), ← Int.natCast_ediv, hb]
  have e5 : IntKind.i64.wrap (a : Int) = (a : Int) := IntWalk.i64_in _ (by omega)
  have e6 : IntKind.i64.wrap (b : Int) = (b : Int) := IntWalk.i64_in _ (by omega)
  have n0 : ¬ (N : Int) = 0 := by omega
  rw [ha, hb]
  clear ha hb h0
  go_enter Try.func61, Try.ntmps61
  go_wp2
  go_region
  all_goals
    go_wp2
    go_ret2
    exact ⟨rfl, by repeat (first | exact Below.refl _ _ | refine Below.alloc ?_ (by simp <;> omega) _ | refine Below.drew ?_)⟩
set_option maxRecDepth 100000 in
set_option maxHeartbeats 2000000 in
theorem isHidden_st (wd dp ex eb eh X Y H : Int) (o : Option (Int × Int)) (b o' M c i : Nat) (w : World)
    (HP : Kp (∀ W, Below w.heap.size w W → Calls Try.prog 61 #[.agg #[.int .i64 wd, .int .i64 dp, .slice (some ⟨b, o', none⟩) M c], .int .i64 i] W fun e w' => e = .returned (.tuple #[.int .i64 X, .int .i64 Y]) ∧ Below W.heap.size W w'))
    (HH : Kp (∀ W, Below w.heap.size w W → Calls Try.prog 67 #[.agg #[.int .i64 wd, .int .i64 dp, .slice (some ⟨b, o', none⟩) M c, .int .i64 ex, .int .i64 eb, .int .i64 eh], .int .i64 X, .int .i64 Y, .int .i64 H] W fun e w' => e = .returned (hidV o) ∧ Below W.heap.size W w'))
    (HC : Kp (w.cell? ⟨b, o' + i, none⟩ = some (.int .i64 H) ∧ i < M)) :
    Calls Try.prog 70 #[.agg #[.int .i64 wd, .int .i64 dp, .slice (some ⟨b, o', none⟩) M c, .int .i64 ex, .int .i64 eb, .int .i64 eh], .int .i64 i] w fun e w' => e = .returned (.bool (!o.isNone)) ∧ Below w.heap.size w w' := by
  go_enter Try.func70, Try.ntmps70
  go_wp2_with fail
  refine (HP.out _ (by repeat (first | exact Below.refl _ _ | refine Below.alloc ?_ (by simp <;> omega) _ | refine bDrewN ?_ _ | refine Below.drew ?_))).mono ?_
  rintro en w1 ⟨rfl, hb1⟩
  have HB1 : Kp (Below w.heap.size w w1) := ⟨Below.trans (by repeat (first | refine Below.alloc ?_ (by (try simp) <;> omega) _ | refine bDrewN ?_ _ | refine Below.drew ?_ | refine Below.setCell ?_ (by (try simp) <;> omega) _ | exact Below.refl _ _)) (hb1.mono (by (try simp) <;> omega))⟩
  have hz1_0 : w.heap.size < w1.heap.size := by have := hb1.size; (try simp at this); omega
  obtain ⟨hc, hf⟩ := bcell hb1
  have c1_0_0 : w1.cell? ⟨w.heap.size, 0, none⟩ = some (.int .i64 wd) := (hc _ _ (by (try simp) <;> omega)).trans (by go_simp)
  have c1_0_1 : w1.cell? ⟨w.heap.size, 1, none⟩ = some (.int .i64 dp) := (hc _ _ (by (try simp) <;> omega)).trans (by go_simp)
  have c1_0_2 : w1.cell? ⟨w.heap.size, 2, none⟩ = some ((.slice (some ⟨b, o', none⟩) M c)) := (hc _ _ (by (try simp) <;> omega)).trans (by go_simp)
  have c1_0_3 : w1.cell? ⟨w.heap.size, 3, none⟩ = some (.int .i64 ex) := (hc _ _ (by (try simp) <;> omega)).trans (by go_simp)
  have c1_0_4 : w1.cell? ⟨w.heap.size, 4, none⟩ = some (.int .i64 eb) := (hc _ _ (by (try simp) <;> omega)).trans (by go_simp)
  have c1_0_5 : w1.cell? ⟨w.heap.size, 5, none⟩ = some (.int .i64 eh) := (hc _ _ (by (try simp) <;> omega)).trans (by go_simp)
  have z1_0 : ∀ j, w1.frozen? ⟨w.heap.size, j, none⟩ = false := fun j => (hf _ _ (by (try simp) <;> omega)).trans (by go_simp)
  clear hc hf hb1
  have hbl := World.block_lt_of_cell? _ _ HC.out.1
  have cx := (HB1.out.cell (p := ⟨b, o' + i, none⟩) hbl).trans HC.out.1
  have o1 : (i : Int) < (M : Int) := by have := HC.out.2; omega
  have hbs : b < w1.heap.size := Nat.lt_of_lt_of_le hbl HB1.out.size
  go_wp2_with fail
  have rg_c1_0_0 := fun d os => cell_regrown c1_0_0 d os
  have rg_c1_0_1 := fun d os => cell_regrown c1_0_1 d os
  have rg_c1_0_2 := fun d os => cell_regrown c1_0_2 d os
  have rg_c1_0_3 := fun d os => cell_regrown c1_0_3 d os
  have rg_c1_0_4 := fun d os => cell_regrown c1_0_4 d os
  have rg_c1_0_5 := fun d os => cell_regrown c1_0_5 d os
  have rg_cx := fun d os => cell_regrown cx d os
  have HHK : Kp (∀ d os, _) := ⟨fun d os => HH.out (grow (redrawn w1 d) os) (HB1.out.trans ((below_regrown w1 d os).mono HB1.out.size))⟩
  clear c1_0_0 c1_0_1 c1_0_2 c1_0_3 c1_0_4 c1_0_5 cx z1_0 hz1_0 HH
  cases o with
  | none =>
    simp only [hidV] at HHK
    refine wp_region_quiet_below (by kernel_rfl) (by kernel_rfl) ?_
    repeat (any_goals (first | go_big_quiet_step (first | (with_reducible exact Calls.regrown_of (HHK.out _ _))) | quiet_step (first | (with_reducible exact Calls.regrown_of (HHK.out _ _)))))
    refine wpQuiet_nil ?_
    intro _ hqw
    obtain ⟨⟨dq, osq⟩, hqv⟩ := hqw
    subst hqv
    obtain ⟨wq, hqwq⟩ : ∃ wq, grow (redrawn (w1) dq) osq = wq := ⟨_, rfl⟩
    have hbwq : Below (w1).heap.size (w1) wq := by rw [← hqwq]; exact below_regrown _ dq osq
    rw [hqwq]
    clear hqwq
    have HBQ := Kp.mk (HB1.out.trans (hbwq.mono HB1.out.size))
    clear hbwq
    go_wp2
    go_ret
    exact ⟨rfl, HBQ.out⟩
  | some p =>
    obtain ⟨pc, pr⟩ := p
    simp only [hidV] at HHK
    refine wp_region_quiet_below (by kernel_rfl) (by kernel_rfl) ?_
    repeat (any_goals (first | go_big_quiet_step (first | (with_reducible exact Calls.regrown_of (HHK.out _ _))) | quiet_step (first | (with_reducible exact Calls.regrown_of (HHK.out _ _)))))
    refine wpQuiet_nil ?_
    intro _ hqw
    obtain ⟨⟨dq, osq⟩, hqv⟩ := hqw
    subst hqv
    obtain ⟨wq, hqwq⟩ : ∃ wq, grow (redrawn (w1) dq) osq = wq := ⟨_, rfl⟩
    have hbwq : Below (w1).heap.size (w1) wq := by rw [← hqwq]; exact below_regrown _ dq osq
    rw [hqwq]
    clear hqwq
    have HBQ := Kp.mk (HB1.out.trans (hbwq.mono HB1.out.size))
    clear hbwq
    go_wp2
    go_ret
    exact ⟨rfl, HBQ.out⟩
/-- A cell's own ground is seen. -/
def topB (wd : Nat) (L : List Int) (e : Ey) (i : Nat) : Bool := (hid wd L e ((i % wd : Nat) : Int) (i / wd) (L.getD i 0)).isNone
theorem place_bd {N D i : Nat} (h : i < N * D) : 0 < N ∧ i % N < N ∧ i / N < D := by
  have h0 : 0 < N := by
    rcases Nat.eq_zero_or_pos N with h1 | h1
    · rw [h1, Nat.zero_mul] at h; omega
    · exact h1
  exact ⟨h0, Nat.mod_lt _ h0, Nat.div_lt_of_lt_mul h⟩
theorem isHidden_any (N D : Nat) (v : Value) (L : List Int) (e : Ey) (i : Nat) (w : World) (hv : IS w v L) (hg : gdB N D L = true) (he : eyB N e = true) (hi : i < L.length) :
    Calls Try.prog 70 #[.agg #[.int .i64 N, .int .i64 D, v, .int .i64 e.x, .int .i64 e.b, .int .i64 e.h], .int .i64 i] w fun en w' => en = .returned (.bool (!topB N L e i)) ∧ Below w.heap.size w w' := by
  obtain ⟨⟨a1, a2⟩, ⟨b1, b2⟩, hl, hal⟩ := gdB_iff hg
  have hl2 : L.length = N * D := by
    have : (L.length : Int) = ((N * D : Nat) : Int) := by rw [hl, Int.natCast_mul]
    omega
  obtain ⟨h0, h1, h2⟩ := place_bd (hl2 ▸ hi)
  have hd : D ≤ 24 := by omega
  have hn : N ≤ 24 := by omega
  have hi2 : i ≤ 1000 := by
    have : N * D ≤ 24 * 24 := Nat.mul_le_mul hn hd
    omega
  have hat : L[i]? = some (L.getD i 0) := by
    rw [List.getD_eq_getElem?_getD, List.getElem?_eq_getElem hi]
    rfl
  have hb := allIn_at hal hat
  have HV := Kp.mk hv
  obtain ⟨b, o', c, rfl, hc⟩ := hv.at (by omega)
  unfold topB
  refine isHidden_st N D e.x e.b e.h ((i % N : Nat) : Int) ((i / N : Nat) : Int) (L.getD i 0) _ b o' L.length c i w ⟨fun W hW => placeOf_any N i D _ W h0 hn hi2⟩ ⟨fun W hW => ?_⟩ ⟨hc i hi, hi⟩
  exact hider_any N D _ L e _ _ _ W (HV.out.below hW) hg he ⟨by omega, by omega⟩ (by omega) ⟨by omega, by omega⟩
end Go.Proofs.Ytjnggchljilooaa.Sc
