/-
  WALKS (layer 5, carve), first part: grains and whether they are there, by the program.
-/
import Derived.Test.YtknggeofilfiaaaGreatDoorCvKit
import Derived.Test.YtknggeofilfiaaaGreatDoorCvPlain
import Derived.IntWalk
namespace Go.Proofs.YtknggeofilfiaaaGreatDoor.Cv
open Go Go.RowKit Go.Sort

/-- Truth values laid in a slice. -/
def LB (w : World) (v : Value) (h : List Bool) : Prop :=
  ∃ g c, v = .slice g h.length c ∧ h.length ≤ c ∧ ∀ i x, h[i]? = some x → ∃ b o, g = some ⟨b, o, none⟩ ∧ b < w.heap.size ∧ w.cell? ⟨b, o + i, none⟩ = some (.bool x)
theorem LB.shape {w : World} {v : Value} {h : List Bool} (hv : LB w v h) : ∃ g c, v = .slice g h.length c := by
  obtain ⟨g, c, e, _⟩ := hv; exact ⟨g, c, e⟩
theorem LB.below {w w' : World} {v : Value} {h : List Bool} (hv : LB w v h) (hb : Below w.heap.size w w') : LB w' v h := by
  obtain ⟨g, c, e, hc, hi⟩ := hv
  refine ⟨g, c, e, hc, fun i s hs => ?_⟩
  obtain ⟨b, o, hg, hlt, h1⟩ := hi i s hs
  exact ⟨b, o, hg, Nat.lt_of_lt_of_le hlt hb.size, (hb.cell (p := ⟨b, _, none⟩) hlt).trans h1⟩
theorem LB.same {w W : World} {H o c : Nat} {h : List Bool} (hv : LB w (.slice (some ⟨H, o, none⟩) h.length c) h) (hz : w.heap.size ≤ W.heap.size) (hb : W.heap[H]? = w.heap[H]?) : LB W (.slice (some ⟨H, o, none⟩) h.length c) h := by
  obtain ⟨g, c', e, hc, hi⟩ := hv
  refine ⟨g, c', e, hc, fun i s hs => ?_⟩
  obtain ⟨b', o', hg, hlt, h1⟩ := hi i s hs
  subst hg
  simp only [Value.slice.injEq, Option.some.injEq, Addr.mk.injEq, and_true] at e
  obtain ⟨⟨rfl, rfl⟩, -, -⟩ := e
  exact ⟨H, o, rfl, Nat.lt_of_lt_of_le hlt hz, (World.cell?_of_block (a := ⟨H, _, none⟩) hb).trans h1⟩
/-- A block, in its cells. -/
structure BK (B H o c s : Nat) (h : List Bool) (W : World) : Prop where
  side : W.cell? ⟨B, 0, none⟩ = some (.int .i64 s)
  has : W.cell? ⟨B, 1, none⟩ = some (.slice (some ⟨H, o, none⟩) h.length c)
  row : LB W (.slice (some ⟨H, o, none⟩) h.length c) h
  first : ∃ x, W.cell? ⟨H, o, none⟩ = some (.bool x)
theorem BK.same {B H o c s : Nat} {h : List Bool} {W V : World} (k : BK B H o c s h W) (hz : W.heap.size ≤ V.heap.size) (hB : V.heap[B]? = W.heap[B]?) (hH : V.heap[H]? = W.heap[H]?) : BK B H o c s h V :=
  ⟨(World.cell?_of_block (a := ⟨B, 0, none⟩) hB).trans k.side, (World.cell?_of_block (a := ⟨B, 1, none⟩) hB).trans k.has, k.row.same hz hH, by obtain ⟨x, hx⟩ := k.first; exact ⟨x, (World.cell?_of_block (a := ⟨H, o, none⟩) hH).trans hx⟩⟩
theorem BK.ltB {B H o c s : Nat} {h : List Bool} {W : World} (k : BK B H o c s h W) : B < W.heap.size := World.block_lt_of_cell? _ _ k.side
theorem BK.ltH {B H o c s : Nat} {h : List Bool} {W : World} (k : BK B H o c s h W) : H < W.heap.size := by
  obtain ⟨x, hx⟩ := k.first
  exact World.block_lt_of_cell? _ _ hx
theorem BK.on {B H o c s : Nat} {h : List Bool} {W V : World} (k : BK B H o c s h W) (hb : Below W.heap.size W V) : BK B H o c s h V := k.same hb.size (hb.block _ k.ltB) (hb.block _ k.ltH)
theorem BK.turns {B H o c s : Nat} {h : List Bool} {C : Nat} : Turns 0 C (BK B H o c s h) := by
  intro X Y row k g hr
  have key : ∀ b j v, X.cell? ⟨b, j, none⟩ = some v → Y.heap[b]? = X.heap[b]? := fun b j v hv => g.block b (World.block_lt_of_cell? _ _ hv) (fun e => by
    obtain ⟨h1, h2 | ⟨p, hp, hc⟩⟩ := hr b e.symm
    · omega
    · rw [cells_of hv p hp] at hc; cases hc)
  obtain ⟨x, hx⟩ := k.first
  exact k.same g.size (key _ _ _ k.side) (key _ _ _ hx)
/-- The blocks that hold a block. -/
def SB (B H : Nat) (k : Nat) : Prop := k = B ∨ k = H
theorem BK.keep {B H o c s m n : Nat} {h : List Bool} {S : Nat → Prop} {W V : World} (k : BK B H o c s h W) (hk : Keep S m n W V) (h1 : S B) (h2 : S H) : BK B H o c s h V := k.same hk.size (hk.same _ h1) (hk.same _ h2)
def ixB (n c : Int) : Bool := decide (0 ≤ n) && decide (n < c)
theorem isIndex_any (n c : Int) (w : World) : Calls Tryz.prog 45 #[.int .i64 n, .int .i64 c] w fun e w' => e = .returned (.bool (ixB n c)) ∧ w = w' := by
  by_cases h0 : 0 ≤ n
  · by_cases h1 : n < c
    · have HE : Kp (ixB n c = true) := ⟨by simp [ixB, h0, h1]⟩
      go_enter Tryz.func45, Tryz.ntmps45
      go_wp2
      go_ret
      exact ⟨ret_bool HE.out.symm, rfl⟩
    · have HE : Kp (ixB n c = false) := ⟨by simp [ixB, h0, h1]⟩
      go_enter Tryz.func45, Tryz.ntmps45
      go_wp2
      go_ret
      exact ⟨ret_bool HE.out.symm, rfl⟩
  · have HE : Kp (ixB n c = false) := ⟨by simp [ixB, h0]⟩
    go_enter Tryz.func45, Tryz.ntmps45
    go_wp2
    go_ret
    exact ⟨ret_bool HE.out.symm, rfl⟩
def inB (s : Int) (g : Gr) : Bool := ixB g.x s && (ixB g.y s && ixB g.z s)
theorem inB_ins (s : Nat) (g : Gr) : inB s g = insB s g := rfl
set_option maxHeartbeats 1000000 in
theorem inside_any (s x y z : Int) (w : World) : Calls Tryz.prog 94 #[.agg #[.int .i64 x, .int .i64 y, .int .i64 z], .int .i64 s] w fun e w' => e = .returned (.bool (inB s ⟨x, y, z⟩)) ∧ Below w.heap.size w w' := by
  obtain ⟨R, hR⟩ : ∃ R, inB s ⟨x, y, z⟩ = R := ⟨_, rfl⟩
  have HR := Kp.mk hR
  rw [hR]
  clear hR
  go_enter Tryz.func94, Tryz.ntmps94
  go_wp2
  all_goals (go_ret; refine ⟨ret_bool ?_, by repeat (first | exact Below.refl _ _ | refine Below.alloc ?_ (by simp <;> omega) _ | refine bDrewN ?_ _ | refine Below.drew ?_)⟩; rw [← HR.out, Bool.eq_iff_iff]; simp [inB, ixB]; omega)
theorem idx_bd {s : Nat} (hs : s ≤ 10) {g : Gr} (h : insB s g = true) : 0 ≤ idx s g ∧ idx s g < 1000 ∧ 0 ≤ (s : Int) * g.z ∧ (s : Int) * g.z < 100 ∧ 0 ≤ (s : Int) * (g.y + s * g.z) ∧ (s : Int) * (g.y + s * g.z) < 1000 := by
  obtain ⟨⟨a, b⟩, ⟨c, d⟩, e, f⟩ := ins_iff.1 h
  have h1 := idx_ins h
  have h2 : (s : Int) * s * s ≤ 1000 := by
    have h0 := Nat.mul_le_mul (Nat.mul_le_mul hs hs) hs
    have h' : ((s * s * s : Nat) : Int) ≤ 1000 := by omega
    rwa [Int.natCast_mul, Int.natCast_mul] at h'
  have h3 : 0 ≤ (s : Int) * g.z := Int.mul_nonneg (by omega) e
  have h4 : 0 ≤ (s : Int) * (g.y + s * g.z) := Int.mul_nonneg (by omega) (by omega)
  have h5 : (s : Int) * g.z ≤ 10 * 9 := Int.mul_le_mul (by omega) (by omega) e (by omega)
  unfold idx at *
  omega
theorem index_any {s : Nat} (hs : s ≤ 10) (g : Gr) (hg : insB s g = true) (w : World) : Calls Tryz.prog 95 #[.agg #[.int .i64 g.x, .int .i64 g.y, .int .i64 g.z], .int .i64 s] w fun e w' => e = .returned (.int .i64 (idx s g)) ∧ Below w.heap.size w w' := by
  obtain ⟨⟨a, b⟩, ⟨c, d⟩, e, f⟩ := ins_iff.1 hg
  have hb := idx_bd hs hg
  have e1 : IntKind.i64.wrap ((s : Int) * g.z) = s * g.z := IntWalk.i64_in _ (by omega)
  have e2 : IntKind.i64.wrap (g.y + s * g.z) = g.y + s * g.z := IntWalk.i64_in _ (by omega)
  have e3 : IntKind.i64.wrap ((s : Int) * (g.y + s * g.z)) = s * (g.y + s * g.z) := IntWalk.i64_in _ (by omega)
  have e4 : IntKind.i64.wrap (g.x + (s : Int) * (g.y + s * g.z)) = g.x + s * (g.y + s * g.z) := IntWalk.i64_in _ (by unfold idx at hb; omega)
  obtain ⟨gx, gy, gz⟩ := g
  simp only [idx] at *
  clear a b c d e f hb hg
  go_enter Tryz.func95, Tryz.ntmps95
  go_wp2
  go_ret
  exact ⟨rfl, by repeat (first | exact Below.refl _ _ | refine Below.alloc ?_ (by simp <;> omega) _ | refine bDrewN ?_ _ | refine Below.drew ?_)⟩
theorem has_start {w W1 : World} {s x y z v : Value} (h : (w.alloc (.cells #[s, v] 40)).alloc (.cells #[x, y, z] 64) = W1) :
    Below w.heap.size w W1 ∧ W1.cell? ⟨w.heap.size, 0, none⟩ = some s ∧ W1.cell? ⟨w.heap.size, 1, none⟩ = some v ∧ W1.cell? ⟨w.heap.size + 1, 0, none⟩ = some x ∧ W1.cell? ⟨w.heap.size + 1, 1, none⟩ = some y ∧ W1.cell? ⟨w.heap.size + 1, 2, none⟩ = some z := by
  subst h
  exact ⟨by repeat (first | exact Below.refl _ _ | refine Below.alloc ?_ (by simp <;> omega) _ | refine bDrewN ?_ _ | refine Below.drew ?_), by go_simp, by go_simp, by go_simp, by go_simp, by go_simp⟩
set_option maxHeartbeats 1000000 in
theorem has_any (s : Nat) (v : Value) (h : List Bool) (g : Gr) (w : World) (hs : s ≤ 10) (hl : h.length = s * s * s) (hv : LB w v h) :
    Calls Tryz.prog 76 #[.agg #[.int .i64 s, v], .agg #[.int .i64 g.x, .int .i64 g.y, .int .i64 g.z]] w fun e w' => e = .returned (.bool (hasB s h g)) ∧ Below w.heap.size w w' := by
  obtain ⟨ga, c, rfl, hc, hi⟩ := hv
  have HI : Kp (∀ W, Calls Tryz.prog 94 #[.agg #[.int .i64 g.x, .int .i64 g.y, .int .i64 g.z], .int .i64 s] W fun e w' => e = .returned (.bool (insB s g)) ∧ Below W.heap.size W w') := ⟨fun W => inB_ins s g ▸ inside_any s g.x g.y g.z W⟩
  cases hin : insB s g with
  | false =>
    have HR : Kp (hasB s h g = false) := ⟨by unfold hasB; rw [hin]; rfl⟩
    obtain ⟨gx, gy, gz⟩ := g
    rw [hin] at HI
    clear hi hc hl hin hs
    go_enter Tryz.func76, Tryz.ntmps76
    go_wp2
    obtain ⟨W1, hW1⟩ : ∃ W1, (w.alloc (.cells #[.int .i64 s, .slice ga h.length c] 40)).alloc (.cells #[.int .i64 gx, .int .i64 gy, .int .i64 gz] 64) = W1 := ⟨_, rfl⟩
    rw [hW1]
    obtain ⟨hB1, a0, a1, e0, e1, e2⟩ := has_start hW1
    have HB1 := Kp.mk hB1
    have r0 := fun d os => cell_regrown a0 d os
    have r1 := fun d os => cell_regrown a1 d os
    have r2 := fun d os => cell_regrown e0 d os
    have r3 := fun d os => cell_regrown e1 d os
    have r4 := fun d os => cell_regrown e2 d os
    have K1 : Kp (∀ d os, _) := ⟨fun d os => HI.out (grow (redrawn W1 d) os)⟩
    clear hW1 hB1 a0 a1 e0 e1 e2
    refine wp_region_quiet_below (by kernel_rfl) (by kernel_rfl) ?_
    repeat (any_goals (first | go_big_quiet_step (first | (with_reducible exact Calls.regrown_of (K1.out _ _))) | quiet_step (first | (with_reducible exact Calls.regrown_of (K1.out _ _)))))
    refine wpQuiet_nil ?_
    intro _ hqw
    obtain ⟨⟨dq, osq⟩, hqv⟩ := hqw
    subst hqv
    go_wp2
    go_ret
    exact ⟨ret_bool HR.out.symm, HB1.out.trans ((below_regrown W1 dq osq).mono HB1.out.size)⟩
  | true =>
    have hb := idx_bd hs hin
    have hb2 := idx_ins hin
    obtain ⟨k, hk⟩ : ∃ k : Nat, idx s g = k := ⟨(idx s g).toNat, by omega⟩
    have hkl : k < h.length := by
      rw [hl]
      have : ((k : Nat) : Int) < ((s * s * s : Nat) : Int) := by rw [← hk]; push_cast; exact hb2.2
      omega
    have HX : Kp (∀ W, Calls Tryz.prog 95 #[.agg #[.int .i64 g.x, .int .i64 g.y, .int .i64 g.z], .int .i64 s] W fun e w' => e = .returned (.int .i64 k) ∧ Below W.heap.size W w') := ⟨fun W => hk ▸ index_any hs g hin W⟩
    obtain ⟨x, hx⟩ : ∃ x, h[k]? = some x := ⟨_, List.getElem?_eq_getElem hkl⟩
    have HR : Kp (hasB s h g = x) := ⟨by unfold hasB; rw [hin, hk, List.getD_eq_getElem?_getD, show (k : Int).toNat = k from rfl, hx]; rfl⟩
    obtain ⟨b, o, rfl, hbl, hcell⟩ := hi k x hx
    obtain ⟨gx, gy, gz⟩ := g
    rw [hin] at HI
    have o1 : (k : Int) < (h.length : Int) := by omega
    clear hi hl hin hs hb hb2 hk hx
    go_enter Tryz.func76, Tryz.ntmps76
    go_wp2
    obtain ⟨W1, hW1⟩ : ∃ W1, (w.alloc (.cells #[.int .i64 s, .slice (some ⟨b, o, none⟩) h.length c] 40)).alloc (.cells #[.int .i64 gx, .int .i64 gy, .int .i64 gz] 64) = W1 := ⟨_, rfl⟩
    rw [hW1]
    obtain ⟨hB1, a0, a1, e0, e1, e2⟩ := has_start hW1
    have a5 : W1.cell? ⟨b, o + k, none⟩ = some (.bool x) := (hB1.cell (p := ⟨b, _, none⟩) hbl).trans hcell
    have HB1 := Kp.mk hB1
    have r0 := fun d os => cell_regrown a0 d os
    have r1 := fun d os => cell_regrown a1 d os
    have r2 := fun d os => cell_regrown e0 d os
    have r3 := fun d os => cell_regrown e1 d os
    have r4 := fun d os => cell_regrown e2 d os
    have r5 := fun d os => cell_regrown a5 d os
    have K1 : Kp (∀ d os, _) := ⟨fun d os => HI.out (grow (redrawn W1 d) os)⟩
    have K2 : Kp (∀ d os, _) := ⟨fun d os => HX.out (grow (redrawn W1 d) os)⟩
    clear hW1 hB1 a0 a1 e0 e1 e2 a5 hcell
    refine wp_region_quiet_below (by kernel_rfl) (by kernel_rfl) ?_
    repeat (any_goals (first | go_big_quiet_step (first | (with_reducible exact Calls.regrown_of (K1.out _ _)) | (with_reducible exact Calls.regrown_of (K2.out _ _))) | quiet_step (first | (with_reducible exact Calls.regrown_of (K1.out _ _)) | (with_reducible exact Calls.regrown_of (K2.out _ _)))))
    refine wpQuiet_nil ?_
    intro _ hqw
    obtain ⟨⟨dq, osq⟩, hqv⟩ := hqw
    subst hqv
    go_wp2
    go_ret
    exact ⟨ret_bool HR.out.symm, HB1.out.trans ((below_regrown W1 dq osq).mono HB1.out.size)⟩
end Go.Proofs.YtknggeofilfiaaaGreatDoor.Cv
