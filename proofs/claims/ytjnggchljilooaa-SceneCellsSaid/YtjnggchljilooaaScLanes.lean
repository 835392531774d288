/-
  WALKS (layer 7, scene): the rows ahead of a cell, with where the line of sight crosses them.
-/
import Derived.Test.YtjnggchljilooaaScCross
import Derived.Stop.RegionWithIn
namespace Go.Proofs.Ytjnggchljilooaa.Sc
open Go Go.RowKit Go.Sort
attribute [local go_sem] Oper.semAt_some

theorem range_prefix {k n : Nat} (h : k ≤ n) : List.range k <+: List.range n := by
  have : (List.range n).take k = List.range k := by rw [List.take_range, Nat.min_eq_left h]
  exact this ▸ List.take_prefix _ _
def encR (e : Ey) (x y : Int) (r : Nat) : Array Value := #[.int .i64 r, .agg #[.int .i64 (fst e x y r), .int .i64 (lst e x y r), .int .i64 (r + e.b), .int .i64 (y + e.b)]]
/-- What must lie: the cell's row, the sight, the cell's column. -/
def SK (B S X : Nat) (k : Nat) : Prop := k = B ∨ k = S ∨ k = X
/-- A sight, laid. -/
structure SG (W : World) (S : Nat) (wd dp : Int) (v : Value) (e : Ey) : Prop where
  c0 : W.cell? ⟨S, 0, none⟩ = some (.int .i64 wd)
  c1 : W.cell? ⟨S, 1, none⟩ = some (.int .i64 dp)
  c2 : W.cell? ⟨S, 2, none⟩ = some v
  c3 : W.cell? ⟨S, 3, none⟩ = some (.int .i64 e.x)
  c4 : W.cell? ⟨S, 4, none⟩ = some (.int .i64 e.b)
  c5 : W.cell? ⟨S, 5, none⟩ = some (.int .i64 e.h)
theorem SG.same {W V : World} {S : Nat} {wd dp : Int} {v : Value} {e : Ey} (h : SG W S wd dp v e) (hb : V.heap[S]? = W.heap[S]?) : SG V S wd dp v e :=
  ⟨(World.cell?_of_block (a := ⟨S, _, none⟩) hb).trans h.c0, (World.cell?_of_block (a := ⟨S, _, none⟩) hb).trans h.c1, (World.cell?_of_block (a := ⟨S, _, none⟩) hb).trans h.c2, (World.cell?_of_block (a := ⟨S, _, none⟩) hb).trans h.c3, (World.cell?_of_block (a := ⟨S, _, none⟩) hb).trans h.c4, (World.cell?_of_block (a := ⟨S, _, none⟩) hb).trans h.c5⟩
theorem SG.lt {W : World} {S : Nat} {wd dp : Int} {v : Value} {e : Ey} (h : SG W S wd dp v e) : S < W.heap.size := World.block_lt_of_cell? _ _ h.c0
theorem SG.on {W V : World} {S : Nat} {wd dp : Int} {v : Value} {e : Ey} (h : SG W S wd dp v e) (hb : Below W.heap.size W V) : SG V S wd dp v e := h.same (hb.block _ h.lt)
theorem rows_any (wd dp : Int) (v : Value) (e : Ey) (x y : Int) (w : World) : Calls Try.prog 78 #[.agg #[.int .i64 wd, .int .i64 dp, v, .int .i64 e.x, .int .i64 e.b, .int .i64 e.h], .int .i64 x, .int .i64 y] w fun en w' => en = .returned (.func (.func 80) #[] #[.pointer (some ⟨w.heap.size + 2, 0, none⟩), .pointer (some ⟨w.heap.size, 0, none⟩), .pointer (some ⟨w.heap.size + 1, 0, none⟩)]) ∧ ((w.alloc (.cells #[.int .i64 wd, .int .i64 dp, v, .int .i64 e.x, .int .i64 e.b, .int .i64 e.h] 85)).alloc (.cells #[.int .i64 x] 3)).alloc (.cells #[.int .i64 y] 3) = w' := by
  go_enter Try.func78, Try.ntmps78
  go_wp2
  go_ret
  exact ⟨rfl, rfl⟩
set_option maxRecDepth 100000 in
set_option maxHeartbeats 2000000 in
theorem rows_yields (n : Nat) (_hn : 1 ≤ n) (B S X : Nat) (wd dp : Int) (v : Value) (e : Ey) (x : Int) (y : Nat) (w : World) (hbd : ∀ r : Nat, r < y → Bd e x y r)
    (hB : w.cell? ⟨B, 0, none⟩ = some (.int .i64 (y : Int))) (hS : SG w S wd dp v e) (hX : w.cell? ⟨X, 0, none⟩ = some (.int .i64 x)) :
    YieldsS 0 (encR e x y) Fence.wide n Try.prog 80 #[.pointer (some ⟨B, 0, none⟩), .pointer (some ⟨S, 0, none⟩), .pointer (some ⟨X, 0, none⟩)] (Keep (SK B S X) 0) (List.range y) w := by
  intro lp J Jx W hW hsz hJ hJx hY h0
  have cB : W.cell? ⟨B, 0, none⟩ = some (.int .i64 (y : Int)) := (hW.cell (p := ⟨B, 0, none⟩) (World.block_lt_of_cell? _ _ hB)).trans hB
  have HCB := Kp.mk cB
  have HCX : Kp (W.cell? ⟨X, 0, none⟩ = some (.int .i64 x)) := ⟨(hW.cell (p := ⟨X, 0, none⟩) (World.block_lt_of_cell? _ _ hX)).trans hX⟩
  have HCS : Kp (SG W S wd dp v e) := ⟨hS.on hW⟩
  have HJ0 : Kp (J (List.range 0) W) := ⟨h0⟩
  have HYY := Kp.mk hY
  have HJT := Kp.mk hJ
  have HCR : Kp (∀ W (r : Nat), r < y → Calls Try.prog 63 #[.agg #[.int .i64 wd, .int .i64 dp, v, .int .i64 e.x, .int .i64 e.b, .int .i64 e.h], .int .i64 x, .int .i64 y, .int .i64 r] W fun en w' => en = .returned (.agg #[.int .i64 (fst e x y r), .int .i64 (lst e x y r), .int .i64 (r + e.b), .int .i64 (y + e.b)]) ∧ Below W.heap.size W w') := ⟨fun W r hr => crossing_any wd dp v e x y r W (hbd r hr)⟩
  have HYB : Kp (∀ r : Nat, r < y → y ≤ 23) := ⟨fun r hr => by have := hbd r hr; unfold Bd at this; omega⟩
  clear h0 hY hJ hJx hB hS hX hW hbd
  refine callsIn_of_wp Try.func80 rfl trivial ?_ rfl
  simp only [Try.ntmps80, List.size_toArray, List.length_cons, List.length_nil, Nat.reduceAdd, Nat.reduceSub, Array.replicate_succ, Array.replicate_zero, List.push_toArray, List.append_toArray, List.nil_append, List.cons_append]
  gi_wp2
  gi_loopw [7] (fun a wr => ∃ k : Nat, k ≤ y ∧ a = .int .i64 (k : Int) ∧ Kp (wr.cell? ⟨B, 0, none⟩ = some (.int .i64 (y : Int))) ∧ Kp (SG wr S wd dp v e) ∧ Kp (wr.cell? ⟨X, 0, none⟩ = some (.int .i64 x)) ∧ Kp (W.heap.size ≤ wr.heap.size) ∧ J (List.range k) wr) (fun a _ => y - (intOf a).toNat)
  case atStart => exact ⟨0, Nat.zero_le _, rfl, HCB, HCS, HCX, ⟨Nat.le_refl _⟩, HJ0.out⟩
  case round =>
    clear HJ0 HCB HCS HCX cB
    obtain ⟨k, hk, rfl, HCB, HCS, HCX, HZ, hJk⟩ := hrel
    have HJk := Kp.mk hJk
    clear hJk
    by_cases hlt : k < y
    · have o1 : (k : Int) < (y : Int) := by omega
      have o4 : k ≤ 23 := by have := HYB.out k hlt; omega
      have HPF : Kp (List.range (k + 1) <+: List.range y) := ⟨range_prefix (by omega)⟩
      have HCK := Kp.mk (fun W => HCR.out W k hlt)
      obtain ⟨F, hF⟩ : ∃ F, fst e x y k = F := ⟨_, rfl⟩
      obtain ⟨T, hT⟩ : ∃ F, lst e x y k = F := ⟨_, rfl⟩
      have HEN : Kp (encR e x y k = #[.int .i64 k, .agg #[.int .i64 F, .int .i64 T, .int .i64 (k + e.b), .int .i64 (y + e.b)]]) := ⟨by unfold encR; rw [hF, hT]⟩
      rw [hF, hT] at HCK
      have hcb := HCB.out
      have hcx := HCX.out
      obtain ⟨s0, s1, s2, s3, s4, s5⟩ := HCS.out
      clear hF hT
      gi_wp2_with fail
      refine ⟨trivial, (callsIn_wide.2 (HCK.out _)).mono ?_⟩
      rintro en W2 ⟨rfl, hb2⟩
      have HCB2 : Kp (W2.cell? ⟨B, 0, none⟩ = some (.int .i64 (y : Int))) := ⟨(hb2.cell (p := ⟨B, 0, none⟩) (World.block_lt_of_cell? _ _ hcb)).trans hcb⟩
      have HCX2 : Kp (W2.cell? ⟨X, 0, none⟩ = some (.int .i64 x)) := ⟨(hb2.cell (p := ⟨X, 0, none⟩) (World.block_lt_of_cell? _ _ hcx)).trans hcx⟩
      have HCS2 := Kp.mk (HCS.out.on hb2)
      have HZ2 : Kp (W.heap.size ≤ W2.heap.size) := ⟨Nat.le_trans HZ.out hb2.size⟩
      have hj2 : J (List.range k) W2 := HJT.out _ wr W2 none HJk.out (grown_below hb2 none) (fun r e => by cases e)
      clear hb2 hcb hcx s0 s1 s2 s3 s4 s5 HJk HCB HCS HCX HZ HCK
      have hfs : List.range (k + 1) = List.range k ++ [k] := List.range_succ
      obtain ⟨fn, tmps, assign, body, hy, hRd⟩ := HYY.out (List.range k) k W2 hj2 (by rw [← hfs]; exact HPF.out) (by have := HZ2.out; omega)
      rw [← hfs] at hRd
      rw [HEN.out] at hy
      have HRd := Kp.mk hRd
      clear hj2 hRd hfs
      gi_wp2
      refine HRd.out.mono ?_
      rintro en W3 (⟨rfl, hJ3, hk3⟩ | ⟨rfl, hx3, hf3⟩)
      · have HJ3 := Kp.mk hJ3
        have HCB3 : Kp (W3.cell? ⟨B, 0, none⟩ = some (.int .i64 (y : Int))) := ⟨(World.cell?_of_block (a := ⟨B, 0, none⟩) (hk3.same B (.inl rfl))).trans HCB2.out⟩
        have HCX3 : Kp (W3.cell? ⟨X, 0, none⟩ = some (.int .i64 x)) := ⟨(World.cell?_of_block (a := ⟨X, 0, none⟩) (hk3.same X (.inr (.inr rfl)))).trans HCX2.out⟩
        have HCS3 : Kp (SG W3 S wd dp v e) := ⟨HCS2.out.same (hk3.same S (.inr (.inl rfl)))⟩
        have HZ3 : Kp (W.heap.size ≤ W3.heap.size) := ⟨Nat.le_trans HZ2.out hk3.size⟩
        clear hJ3 hk3 hy
        gi_wp2
        go_roundw
        case rel => exact ⟨k + 1, by omega, by go_num, HCB3, HCS3, HCX3, HZ3, HJ3.out⟩
        case measure => simp [intOf]; omega
      · have HX3 : Kp (Jx (List.range (k + 1)) W3) := ⟨hx3⟩
        clear hx3 hf3 hy
        gi_wp2
        exact bodyPost_ret (results_none rfl _ _ _) rfl ⟨⟨_, rfl⟩, .inr ⟨_, HPF.out, HX3.out⟩⟩
    · have hkm : k = y := by omega
      have HJF : Kp (J (List.range y) wr) := ⟨by have h := HJk.out; rw [hkm] at h; exact h⟩
      have o1 : ¬ (k : Int) < (y : Int) := by omega
      clear hkm
      gi_wp2
      go_end0
      exact ⟨⟨_, rfl⟩, .inl HJF.out⟩
end Go.Proofs.Ytjnggchljilooaa.Sc
