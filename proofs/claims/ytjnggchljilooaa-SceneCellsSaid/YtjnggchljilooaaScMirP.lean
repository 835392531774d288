/-
  WALKS (layer 7, scene): rows of a ground turned about: plain, and slices.Chunk.
-/
import Derived.Test.YtjnggchljilooaaScLanes
import Derived.Test.YtjnggchljilooaaScHide
import Derived.Test.YtjnggchljilooaaScShelf
import Derived.Test.YtjnggchljilooaaScRaisI
import Derived.Laws.IdiomCopy
import Derived.Lib.QuietBelow
namespace Go.Proofs.Ytjnggchljilooaa.Sc
open Go Go.RowKit Go.Sort
attribute [local go_sem] Oper.semAt_some

/-- The heights of which the first rows are turned about. -/
def mirL (N k : Nat) (L : List Int) : List Int := (List.range L.length).map fun i => if i / N < k then L.getD (i / N * N + (N - 1 - i % N)) 0 else L.getD i 0
theorem mirL_len (N k : Nat) (L : List Int) : (mirL N k L).length = L.length := by simp [mirL]
theorem mirL_at {N k : Nat} {L : List Int} {i : Nat} (h : i < L.length) : (mirL N k L)[i]? = some (if i / N < k then L.getD (i / N * N + (N - 1 - i % N)) 0 else L.getD i 0) := by
  unfold mirL
  rw [List.getElem?_map, List.getElem?_range h]
  rfl
theorem mirL_zero (N : Nat) (L : List Int) : mirL N 0 L = L := by
  apply List.ext_getElem?
  intro i
  by_cases h : i < L.length
  · rw [mirL_at h, if_neg (Nat.not_lt_zero _), List.getD_eq_getElem?_getD, List.getElem?_eq_getElem h]
    rfl
  · rw [List.getElem?_eq_none (by rw [mirL_len]; omega), List.getElem?_eq_none (by omega)]
/-- One row. -/
def rowL (N r : Nat) (L : List Int) : List Int := (List.range N).map fun j => L.getD (r * N + j) 0
theorem rowL_len (N r : Nat) (L : List Int) : (rowL N r L).length = N := by simp [rowL]
theorem rowL_at {N r j : Nat} {L : List Int} (h : j < N) : (rowL N r L).getD j 0 = L.getD (r * N + j) 0 := by
  unfold rowL
  rw [List.getD_eq_getElem?_getD, List.getElem?_map, List.getElem?_range h]
  rfl
theorem div_row {N r j : Nat} (h : j < N) : (r * N + j) / N = r ∧ (r * N + j) % N = j := by
  have h0 : 0 < N := by omega
  rw [Nat.mul_comm r N]
  exact ⟨by rw [Nat.mul_add_div h0, Nat.div_eq_of_lt h, Nat.add_zero], by rw [Nat.mul_add_mod, Nat.mod_eq_of_lt h]⟩
theorem setCells_grown (b : Nat) : ∀ (vs : List Value) (o : Nat) (w : World), w.grownBy (w.setCells b o vs) (some b)
  | [], _, w => grown_below (Below.refl _ w) _
  | v :: r, o, w => grown_trans (setCell_grown w b o v) (setCells_grown b r (o + 1) _)
/-- A row turned about. -/
theorem RI.turn {V : World} {G N r q : Nat} {v : Value} {L : List Int} (h : RI V G v (mirL N r L)) (hN : 0 < N) (hr : r * N + N ≤ L.length) : RI ((V.drewN q).setCells G (r * N) ((((rowL N r L).take N).reverse).map (Value.int .i64))) G v (mirL N (r + 1) L) := by
  obtain ⟨c, rfl, hc, hf, hl⟩ := h
  have hvl : ((((rowL N r L).take N).reverse).map (Value.int .i64)).length = N := by rw [List.length_map, List.length_reverse, List.length_take, rowL_len]; omega
  rw [mirL_len] at hc
  have hsome : ∀ i, i < L.length → ((V.drewN q).cell? ⟨G, i, none⟩).isSome = true := fun i hi => by
    have := hl i _ (mirL_at hi)
    show (V.cell? ⟨G, i, none⟩).isSome = true
    rw [this]
    rfl
  refine ⟨c, by rw [mirL_len, mirL_len], by rw [mirL_len]; exact hc, fun j => by rw [World.frozen?_setCells]; exact hf j, fun i x hx => ?_⟩
  have hi : i < L.length := by have := (List.getElem?_eq_some_iff.1 hx).1; rwa [mirL_len] at this
  rw [mirL_at hi] at hx
  by_cases hin : r * N ≤ i ∧ i < r * N + N
  · obtain ⟨j, rfl⟩ : ∃ j, i = r * N + j := ⟨i - r * N, by omega⟩
    have hj : j < N := by omega
    obtain ⟨d1, d2⟩ := div_row (r := r) hj
    rw [d1, d2, if_pos (by omega)] at hx
    rw [World.cell?_setCells_in G _ (r * N) (V.drewN q) (fun t ht => hsome _ (by rw [hvl] at ht; omega)) j (by rw [hvl]; exact hj)]
    simp only [Option.some.injEq] at hx
    rw [← hx]
    simp only [List.getElem_map, List.getElem_reverse, Option.some.injEq, Value.int.injEq, true_and]
    rw [List.getElem_take]
    have hk : N - 1 - j < N := by omega
    have e := rowL_at (r := r) (L := L) hk
    rw [List.getD_eq_getElem?_getD, List.getElem?_eq_getElem (by rw [rowL_len]; exact hk)] at e
    rw [← e]
    simp only [Option.getD_some]
    congr 1
    rw [List.length_take, rowL_len, Nat.min_self]
  · have hne : (if i / N < r + 1 then L.getD (i / N * N + (N - 1 - i % N)) 0 else L.getD i 0) = (if i / N < r then L.getD (i / N * N + (N - 1 - i % N)) 0 else L.getD i 0) := by
      have hd : i / N ≠ r := by
        intro e
        have h1 := Nat.div_add_mod i N
        have h2 := Nat.mod_lt i hN
        rw [e, Nat.mul_comm] at h1
        omega
      by_cases h1 : i / N < r
      · rw [if_pos h1, if_pos (by omega)]
      · rw [if_neg h1, if_neg (by omega)]
    rw [hne] at hx
    rw [World.cell?_setCells_out G _ (r * N) (V.drewN q) ⟨G, i, none⟩ (fun _ _ => by rw [hvl]; simp only; omega)]
    show V.cell? ⟨G, i, none⟩ = _
    exact hl i x ((mirL_at hi).trans hx)
/-- What slices.Chunk tells: the rows, one by one. -/
def encC (G N : Nat) (r : Nat) : Array Value := #[.slice (some ⟨G, r * N, none⟩) N N]
def CK (C : Nat) (k : Nat) : Prop := k = C ∨ k = C + 1
theorem Chunk_any (g : Option Addr) (M c : Nat) (N : Nat) (w : World) (h0 : 0 < N) :
    Calls Try.prog 59 #[.slice g M c, .int .i64 N] w fun e w' => e = .returned (.func (.func 77) #[] #[.pointer (some ⟨w.heap.size, 0, none⟩), .pointer (some ⟨w.heap.size + 1, 0, none⟩)]) ∧ (w.alloc (.cells #[.slice g M c] 22)).alloc (.cells #[.int .i64 N] 3) = w' := by
  have o1 : ¬ (N : Int) < 1 := by omega
  go_enter Try.func59, Try.ntmps59
  go_wp2
  go_ret
  exact ⟨rfl, rfl⟩
set_option maxRecDepth 100000 in
set_option maxHeartbeats 2000000 in
theorem chunk_yields (n : Nat) (_hn : 1 ≤ n) (C G N D M cap : Nat) (w : World) (h0 : 0 < N) (hM : M = N * D) (hm : M ≤ 1000) (hcap : M ≤ cap)
    (hS : w.cell? ⟨C, 0, none⟩ = some (.slice (some ⟨G, 0, none⟩) M cap)) (hX : w.cell? ⟨C + 1, 0, none⟩ = some (.int .i64 N)) :
    YieldsS 0 (encC G N) Fence.wide n Try.prog 77 #[.pointer (some ⟨C, 0, none⟩), .pointer (some ⟨C + 1, 0, none⟩)] (Keep (CK C) 0) (List.range D) w := by
  intro lp J Jx W hW hsz hJ hJx hY hj0
  have HCS : Kp (W.cell? ⟨C, 0, none⟩ = some (.slice (some ⟨G, 0, none⟩) M cap)) := ⟨(hW.cell (p := ⟨C, 0, none⟩) (World.block_lt_of_cell? _ _ hS)).trans hS⟩
  have HCX : Kp (W.cell? ⟨C + 1, 0, none⟩ = some (.int .i64 N)) := ⟨(hW.cell (p := ⟨C + 1, 0, none⟩) (World.block_lt_of_cell? _ _ hX)).trans hX⟩
  have HJ0 : Kp (J (List.range 0) W) := ⟨hj0⟩
  have HYY := Kp.mk hY
  have HJT := Kp.mk hJ
  have HMM := Kp.mk (And.intro hM (And.intro hm (And.intro hcap h0)))
  clear hj0 hY hJ hJx hS hX hW hM
  refine callsIn_of_wp Try.func77 rfl trivial ?_ rfl
  simp only [Try.ntmps77, List.size_toArray, List.length_cons, List.length_nil, Nat.reduceAdd, Nat.reduceSub, Array.replicate_succ, Array.replicate_zero, List.push_toArray, List.append_toArray, List.nil_append, List.cons_append]
  gi_wp2
  gi_loopw [4] (fun a wr => ∃ k : Nat, k ≤ D ∧ a = .int .i64 ((k * N : Nat) : Int) ∧ Kp (wr.cell? ⟨C, 0, none⟩ = some (.slice (some ⟨G, 0, none⟩) M cap)) ∧ Kp (wr.cell? ⟨C + 1, 0, none⟩ = some (.int .i64 N)) ∧ Kp (W.heap.size ≤ wr.heap.size) ∧ J (List.range k) wr) (fun a _ => M - (intOf a).toNat)
  case atStart => exact ⟨0, Nat.zero_le _, by simp, HCS, HCX, ⟨Nat.le_refl _⟩, HJ0.out⟩
  case round =>
    clear HJ0 HCS HCX
    obtain ⟨k, hk, rfl, HCS, HCX, HZ, hJk⟩ := hrel
    have HJk := Kp.mk hJk
    clear hJk
    by_cases hlt : k < D
    · have hkn : k * N + N ≤ M := by
        have h1 := HMM.out.1
        have h2 : (k + 1) * N ≤ D * N := Nat.mul_le_mul_right N hlt
        rw [Nat.add_mul, Nat.one_mul] at h2
        rw [Nat.mul_comm] at h1
        omega
      have HPF : Kp (List.range (k + 1) <+: List.range D) := ⟨range_prefix (by omega)⟩
      have HST : Kp ((k + 1) * N = k * N + N) := ⟨by rw [Nat.add_mul, Nat.one_mul]⟩
      have HEN : Kp (encC G N k = #[.slice (some ⟨G, k * N, none⟩) N N]) := ⟨rfl⟩
      obtain ⟨i, hi⟩ : ∃ i, k * N = i := ⟨_, rfl⟩
      rw [hi] at hkn HST HEN ⊢
      have hm := HMM.out.2.1
      have o1 : (i : Int) < (M : Int) := by have := HMM.out.2.2.2; omega
      have hcs := HCS.out
      have hcx := HCX.out
      clear hi
      gi_wp2_with fail
      have rg_hcs := fun d os => cell_regrown hcs d os
      have rg_hcx := fun d os => cell_regrown hcx d os
      clear hcs hcx
      refine wpIn_wide.2 ?_
      refine wp_region_quiet_below (by kernel_rfl) (by kernel_rfl) ?_
      repeat (any_goals (first | go_big_quiet_step (fail) | quiet_step (fail)))
      refine wpQuiet_nil ?_
      intro _ hqw
      obtain ⟨⟨dq, osq⟩, hqv⟩ := hqw
      subst hqv
      obtain ⟨wq, hqwq⟩ : ∃ wq, grow (redrawn (wr) dq) osq = wq := ⟨_, rfl⟩
      have hbwq : Below (wr).heap.size (wr) wq := by rw [← hqwq]; exact below_regrown _ dq osq
      rw [hqwq]
      clear hqwq
      have hmin : min (N : Int) ((M - i : Nat) : Int) = (N : Int) := by omega
      rw [hmin]
      have HCS2 : Kp (wq.cell? ⟨C, 0, none⟩ = some (.slice (some ⟨G, 0, none⟩) M cap)) := ⟨(hbwq.cell (p := ⟨C, 0, none⟩) (World.block_lt_of_cell? _ _ HCS.out)).trans HCS.out⟩
      have HCX2 : Kp (wq.cell? ⟨C + 1, 0, none⟩ = some (.int .i64 N)) := ⟨(hbwq.cell (p := ⟨C + 1, 0, none⟩) (World.block_lt_of_cell? _ _ HCX.out)).trans HCX.out⟩
      have HZ2 : Kp (W.heap.size ≤ wq.heap.size) := ⟨Nat.le_trans HZ.out hbwq.size⟩
      have hj2 : J (List.range k) wq := HJT.out _ wr wq none HJk.out (grown_below hbwq none) (fun r e => by cases e)
      have hfs : List.range (k + 1) = List.range k ++ [k] := List.range_succ
      obtain ⟨fn, tmps, assign, body, hy, hRd⟩ := HYY.out (List.range k) k wq hj2 (by rw [← hfs]; exact HPF.out) (by have := HZ2.out; omega)
      rw [← hfs] at hRd
      rw [HEN.out] at hy
      have HRd := Kp.mk hRd
      have hcs := HCS2.out
      have hcx := HCX2.out
      have hcap := HMM.out.2.2.1
      have e1 : IntKind.i64.wrap ((i : Int) + (N : Int)) = ((i + N : Nat) : Int) := by rw [IntWalk.i64_in _ (by omega)]; omega
      have e2 : i + N - i = N := by omega
      clear hj2 hRd hfs hbwq rg_hcs rg_hcx hmin HJk HCS HCX HZ
      gi_wp2
      refine HRd.out.mono ?_
      rintro en W3 (⟨rfl, hJ3, hk3⟩ | ⟨rfl, hx3, hf3⟩)
      · have HJ3 := Kp.mk hJ3
        have HCS3 : Kp (W3.cell? ⟨C, 0, none⟩ = some (.slice (some ⟨G, 0, none⟩) M cap)) := ⟨(World.cell?_of_block (a := ⟨C, 0, none⟩) (hk3.same C (.inl rfl))).trans HCS2.out⟩
        have HCX3 : Kp (W3.cell? ⟨C + 1, 0, none⟩ = some (.int .i64 N)) := ⟨(World.cell?_of_block (a := ⟨C + 1, 0, none⟩) (hk3.same (C + 1) (.inr rfl))).trans HCX2.out⟩
        have HZ3 : Kp (W.heap.size ≤ W3.heap.size) := ⟨Nat.le_trans HZ2.out hk3.size⟩
        have hn0 := HMM.out.2.2.2
        have hcx3 := HCX3.out
        clear hJ3 hk3 hy hcs hcx e2
        gi_wp2
        go_roundw
        case rel => exact ⟨k + 1, by omega, by rw [HST.out]; simp, HCS3, HCX3, HZ3, HJ3.out⟩
        case measure => simp [intOf]; omega
      · have HX3 : Kp (Jx (List.range (k + 1)) W3) := ⟨hx3⟩
        clear hx3 hf3 hy e2
        gi_wp2
        exact bodyPost_ret (results_none rfl _ _ _) rfl ⟨⟨_, rfl⟩, .inr ⟨_, HPF.out, HX3.out⟩⟩
    · have hkm : k = D := by omega
      have HJF : Kp (J (List.range D) wr) := ⟨by have h := HJk.out; rw [hkm] at h; exact h⟩
      have o1 : ¬ ((k * N : Nat) : Int) < (M : Int) := by
        have h1 := HMM.out.1
        rw [hkm, h1, Nat.mul_comm]
        omega
      obtain ⟨i, hi⟩ : ∃ i, k * N = i := ⟨_, rfl⟩
      rw [hi] at o1 ⊢
      have hcs := HCS.out
      have hcx := HCX.out
      clear hkm hi
      gi_wp2
      go_end0
      exact ⟨⟨_, rfl⟩, .inl HJF.out⟩
end Go.Proofs.Ytjnggchljilooaa.Sc
