/-
  WALKS (layer 4, cold): the order in which boxes come, where they stand in it already; the lanes that they are given.
-/
import Derived.Test.YtbbbnfodjkpiaaaCdBox
import Derived.Test.YtbbbnfodjkpiaaaCdLaneP
import Derived.Sort.Row
import Derived.Laws.OwnMore
import Derived.Test.YtbbbnfodjkpiaaaCdHours
namespace Go.Proofs.Ytbbbnfodjkpiaaa.Cd
open Go Go.RowKit Go.Maps Go.Sort

def cmpR (x y : Int) : Int := if x < y then -1 else if y < x then 1 else 0
theorem Compare_any (x y : Int) (w : World) : Calls Try.prog 84 #[.int .i64 x, .int .i64 y] w fun e w' => e = .returned (.int .i64 (cmpR x y)) ∧ w = w' := by
  by_cases h : x < y
  · have HE : Kp (cmpR x y = -1) := ⟨by unfold cmpR; rw [if_pos h]⟩
    go_enter Try.func84, Try.ntmps84
    go_wp2
    go_ret
    exact ⟨ret_int HE.out.symm, rfl⟩
  · by_cases g : y < x
    · have HE : Kp (cmpR x y = 1) := ⟨by unfold cmpR; rw [if_neg h, if_pos g]⟩
      go_enter Try.func84, Try.ntmps84
      go_wp2
      go_ret
      exact ⟨ret_int HE.out.symm, rfl⟩
    · have HE : Kp (cmpR x y = 0) := ⟨by unfold cmpR; rw [if_neg h, if_neg g]⟩
      go_enter Try.func84, Try.ntmps84
      go_wp2
      go_ret
      exact ⟨ret_int HE.out.symm, rfl⟩
theorem cmp_q {x y z : Int} (h : ∀ W, Calls Try.prog 84 #[.int .i64 x, .int .i64 y] W fun e w' => e = .returned (.int .i64 z) ∧ W = w') (X : World) (k : Nat) :
    Calls Try.prog 84 #[.int .i64 x, .int .i64 y] (X.drewN k) fun e w' => e = .returned (.int .i64 z) ∧ ∃ m, w' = X.drewN m :=
  (h _).mono fun _ _ ⟨he, hw⟩ => ⟨he, k, hw.symm⟩
/-- The comparison of two boxes that stand in their order already. -/
theorem coming1_any (B b o : Nat) (n c : Nat) (i j : Nat) (x y : Int) (w : World) (hi : i < n) (hj : j < n) (_hn : n ≤ 100) (hB : w.cell? ⟨B, 0, none⟩ = some (.slice (some ⟨b, o, none⟩) n c)) (h1 : w.cell? ⟨b, o + i * 3, none⟩ = some (.int .i64 x)) (h2 : w.cell? ⟨b, o + j * 3, none⟩ = some (.int .i64 y)) :
    Calls Try.prog 83 #[.int .i64 (i : Int), .int .i64 (j : Int), .pointer (some ⟨B, 0, none⟩)] w fun e w' => e = .returned (.int .i64 (cmpR x y)) ∧ ∃ m, w' = w.drewN m := by
  have o1 : (i : Int) < (n : Int) := by omega
  have o2 : (j : Int) < (n : Int) := by omega
  have o3 : (0 : Int) ≤ (i : Int) := by omega
  have o4 : (0 : Int) ≤ (j : Int) := by omega
  obtain ⟨z, hz⟩ : ∃ z, cmpR x y = z := ⟨_, rfl⟩
  have HQ : Kp (∀ W, Calls Try.prog 84 #[.int .i64 x, .int .i64 y] W fun e w' => e = .returned (.int .i64 z) ∧ W = w') := ⟨fun W => hz ▸ Compare_any x y W⟩
  rw [hz]
  clear hz
  go_enter Try.func83, Try.ntmps83
  go_wp2
  go_quiet ((go_at_call 84; exact cmp_q HQ.out _ _))
  go_wp2
  go_ret
  exact ⟨rfl, _, rfl⟩

/-- A row of numbers of the call's own. -/
structure IR (U : Nat) (W : World) (xs : List Int) : Prop where
  heap : W.heap[U]? = some (.cells (xs.map (Value.int .i64)).toArray 3 (0, 0))
theorem IR.cell {U : Nat} {W : World} {xs : List Int} (h : IR U W xs) {k : Nat} {x : Int} (hk : xs[k]? = some x) : W.cell? ⟨U, k, none⟩ = some (.int .i64 x) := by
  rw [cell_of_row W U k _ _ (0, 0) h.heap]
  simp [hk]
theorem IR.froz {U : Nat} {W : World} {xs : List Int} (h : IR U W xs) (k : Nat) : W.frozen? ⟨U, k, none⟩ = false := frozen_of_row W U k _ _ h.heap
theorem IR.set_ {U : Nat} {W : World} {xs : List Int} (h : IR U W xs) (k : Nat) (x : Int) : IR U (W.setCell ⟨U, k, none⟩ (.int .i64 x)) (xs.set k x) := by
  refine ⟨(heap_setCell_same W U k _ _ (.int .i64 x) h.heap).trans ?_⟩
  simp
theorem IR.same {U : Nat} {W W' : World} {xs : List Int} (h : IR U W xs) (hb : W'.heap[U]? = W.heap[U]?) : IR U W' xs := ⟨hb.trans h.heap⟩
theorem IR.lt {U : Nat} {W : World} {xs : List Int} (h : IR U W xs) : U < W.heap.size := (Array.getElem?_eq_some_iff.1 h.heap).1
theorem IR.on {U : Nat} {W W' : World} {xs : List Int} (h : IR U W xs) (hb : Below W.heap.size W W') : IR U W' xs := h.same (hb.block _ h.lt)
theorem info_int : (Try.prog.info? 3).map (fun i => (i.zero, i.size, i.bytes)) = some (some (.int .i64 0), 1, 8) := by kernel_rfl
/-- A row of noughts is made. -/
theorem run_zeros (W : World) (n : Nat) (hn : n ≤ 100000) : ∃ W', (Instr.makeSlice 52 (.int .i64 (n : Int)) (.int .i64 (n : Int))).run Try.prog W = .ok (.slice (some ⟨W.heap.size, 0, none⟩) n n) W' ∧ IR W.heap.size W' (List.replicate n 0) ∧ Below W.heap.size W W' ∧ W'.heap.size = W.heap.size + 1 := by
  obtain ⟨i0, hi0, hz0, hz1, hz2⟩ := info_parts info_int
  have hr := run_make (P := Try.prog) W 52 3 i0 (.int .i64 0) Try.underlying52 hi0 hz0 .i64 .i64 n n (by omega) (Int.le_refl _) (by rw [hz2]; omega) (by omega)
  simp only [Int.toNat_natCast] at hr
  refine ⟨_, hr, ⟨?_⟩, (Below.refl _ _).alloc (Nat.le_refl _) _, by simp⟩
  have e : madeCells (Value.int .i64 0).cells (n * i0.size) = ((List.replicate n (0 : Int)).map (Value.int .i64)).toArray := by
    rw [hz1, Nat.mul_one]
    apply Array.ext'
    rw [List.map_replicate]
    exact toList_madeCells_one (.int .i64 0) n
  rw [e]
  exact World.alloc_heap_new W _
theorem get_range (n k : Nat) (h : k < n) : ((List.range n).map (fun (i : Nat) => (i : Int)))[k]? = some (k : Int) := by simp [h]
/-- What the comparison of neighbours answers, wherever it is asked. -/
def CmpOk (clo : Value) (n : Nat) (w : World) : Prop :=
  ∀ (i : Nat), i + 1 < n → ∃ z : Int, 0 ≤ z ∧ ∀ m, Calls Try.prog 83 #[.int .i64 ((i : Int) + 1), .int .i64 (i : Int), clo] (w.drewN m) fun e w' => e = .returned (.int .i64 z) ∧ ∃ k, w' = (w.drewN m).drewN k
theorem cmp_again {clo : Value} {i : Nat} {z : Int} {w X : World} (h : ∀ m, Calls Try.prog 83 #[.int .i64 ((i : Int) + 1), .int .i64 (i : Int), clo] (w.drewN m) fun e w' => e = .returned (.int .i64 z) ∧ ∃ k, w' = (w.drewN m).drewN k) (hX : ∃ m, X = w.drewN m) (k : Nat) :
    Calls Try.prog 83 #[.int .i64 ((i : Int) + 1), .int .i64 (i : Int), clo] (X.drewN k) fun e w' => e = .returned (.int .i64 z) ∧ ∃ j, w' = X.drewN j := by
  obtain ⟨m, rfl⟩ := hX
  rw [World.drewN_drewN]
  refine (h (m + k)).mono ?_
  rintro e w' ⟨he, j, hw⟩
  exact ⟨he, k + j, by rw [hw, World.drewN_drewN, World.drewN_drewN, Nat.add_assoc]⟩
theorem drew_more {w X : World} (h : ∃ m, X = w.drewN m) (k : Nat) : ∃ m, X.drewN k = w.drewN m := by
  obtain ⟨m, rfl⟩ := h
  exact ⟨m + k, World.drewN_drewN ..⟩
theorem drew_cell {w X : World} (h : ∃ m, X = w.drewN m) (p : Addr) : X.cell? p = w.cell? p := by
  obtain ⟨m, rfl⟩ := h
  rfl
set_option maxHeartbeats 1000000 in
theorem insert_asc (D cap B : Nat) (n : Nat) (w : World) (hn : n ≤ 100) (hd : ∀ i, i < n → w.cell? ⟨D, i, none⟩ = some (.int .i64 (i : Int))) (hq : CmpOk (.pointer (some ⟨B, 0, none⟩)) n w) :
    Calls Try.prog 91 #[.slice (some ⟨D, 0, none⟩) n cap, .int .i64 0, .int .i64 (n : Int), .func (.func 83) #[] #[.pointer (some ⟨B, 0, none⟩)]] w fun e w' => e = .returned (.tuple #[]) ∧ ∃ m, w' = w.drewN m := by
  have HD := Lib.hid hd
  have HQ := Lib.hid hq
  clear hd hq
  go_enter Try.func91, Try.ntmps91
  go_wp2
  go_loopw [8] (fun i wr => ∃ k : Nat, i = .int .i64 ((k : Int) + 1) ∧ (k = 0 ∨ k < n) ∧ Kp (∃ m, wr = w.drewN m)) (fun i _ => n + 1 - (intOf i).toNat)
  case atStart => exact ⟨0, rfl, .inl rfl, ⟨0, rfl⟩⟩
  case round =>
    obtain ⟨k, rfl, hk, HM⟩ := hrel
    by_cases hlt : k + 1 < n
    · have o1 : (k : Int) + 1 < (n : Int) := by omega
      have o2 : (0 : Int) < (k : Int) + 1 := by omega
      have c1 := (drew_cell HM.out _).trans (HD.out (k + 1) hlt)
      have c2 := (drew_cell HM.out _).trans (HD.out k (by omega))
      obtain ⟨z, hz, hcall⟩ := HQ.out k hlt
      have HC := Kp.mk (cmp_again hcall HM.out)
      clear hcall
      go_wp2
      refine wp_loop_rounds 1 ?_
      rw [rounds_succ]
      go_wp2
      have i1 : IntKind.i64.wrap ((k : Int) + 1 - 1) = (k : Int) := by rw [Int.add_sub_cancel]; exact IntWalk.i64_in _ (by omega)
      have i2 : ((k : Int) + 1).toNat = k + 1 := by omega
      have i3 : (0 : Int) ≤ (k : Int) + 1 := by omega
      have i4 : (k : Int) < (n : Int) := by omega
      have i5 : ¬ z < 0 := by omega
      go_quiet ((go_at_call 83; exact HC.out _))
      clear i1 i2
      go_wp2
      go_roundw
      case rel => exact ⟨k + 1, by go_num, .inr hlt, ⟨drew_more HM.out _⟩⟩
      case measure => simp [intOf]; omega
    · go_wp2
      go_end0
      exact ⟨rfl, HM.out⟩
theorem stable_asc (D cap B : Nat) (n : Nat) (w : World) (hn : n < 20) (hd : ∀ i, i < n → w.cell? ⟨D, i, none⟩ = some (.int .i64 (i : Int))) (hq : CmpOk (.pointer (some ⟨B, 0, none⟩)) n w) :
    Calls Try.prog 82 #[.slice (some ⟨D, 0, none⟩) n cap, .func (.func 83) #[] #[.pointer (some ⟨B, 0, none⟩)]] w fun e w' => e = .returned (.tuple #[]) ∧ ∃ m, w' = w.drewN m := by
  have o1 : ¬ (20 : Int) ≤ (n : Int) := by omega
  have o2 : ¬ (20 : Int) < (n : Int) := by omega
  have HI : Kp (Calls Try.prog 91 #[.slice (some ⟨D, 0, none⟩) n cap, .int .i64 0, .int .i64 (n : Int), .func (.func 83) #[] #[.pointer (some ⟨B, 0, none⟩)]] w fun e w' => e = .returned (.tuple #[]) ∧ ∃ m, w' = w.drewN m) := ⟨insert_asc D cap B n w (by omega) hd hq⟩
  have HS : Kp (Calls Try.prog 87 #[.slice (some ⟨D, 0, none⟩) n cap, .int .i64 (n : Int), .func (.func 83) #[] #[.pointer (some ⟨B, 0, none⟩)]] w fun e w' => e = .returned (.tuple #[]) ∧ ∃ m, w' = w.drewN m) := ⟨by
    clear hd hq
    go_enter Try.func87, Try.ntmps87
    go_wp2
    refine wp_loop_rounds 1 ?_
    rw [rounds_succ]
    go_wp2_with fail
    refine (HI.out).mono ?_
    rintro en w1 ⟨rfl, hm⟩
    have HM := Lib.hid hm
    clear hm
    go_wp2
    refine wp_loop_rounds 1 ?_
    rw [rounds_succ]
    go_wp2
    go_end0
    exact ⟨rfl, HM.out⟩⟩
  clear hd hq
  go_enter Try.func82, Try.ntmps82
  go_wp2_with fail
  refine (HS.out).mono ?_
  rintro en w1 ⟨rfl, hm⟩
  have HM := Lib.hid hm
  clear hm
  go_wp2
  go_end0
  exact ⟨rfl, HM.out⟩
end Go.Proofs.Ytbbbnfodjkpiaaa.Cd
