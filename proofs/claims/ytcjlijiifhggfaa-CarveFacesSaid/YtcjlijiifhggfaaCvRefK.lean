/-
  WALKS (layer 5, carve): views, by the reference.
-/
import Derived.Test.YtcjlijiifhggfaaCvRefJ
import Derived.Deep.RegionHeld3
namespace Go.Proofs.Ytcjlijiifhggfaa.Cv
open Go Go.RowKit Go.Sort

theorem rsquare_any (s k : Nat) (g : Gr) (hk : k < 3) (hs2 : s ≤ 10) (hg : insB s g = true) (w : World) : Calls Try.prog 52 #[.int .i64 s, .agg #[.int .i64 g.x, .int .i64 g.y, .int .i64 g.z], .int .i64 k] w fun e w' => e = .returned (.int .i64 (sqIx s (axSq k) g)) ∧ Below w.heap.size w w' := by
  obtain ⟨⟨a, b⟩, ⟨c, d⟩, e, f⟩ := ins_iff.1 hg
  have m1 : (s : Int) * g.z ≤ 10 * 10 := Int.mul_le_mul (by omega) (by omega) (by omega) (by omega)
  have m2 : (s : Int) * g.y ≤ 10 * 10 := Int.mul_le_mul (by omega) (by omega) (by omega) (by omega)
  have m3 : 0 ≤ (s : Int) * g.z := Int.mul_nonneg (by omega) e
  have m4 : 0 ≤ (s : Int) * g.y := Int.mul_nonneg (by omega) c
  obtain ⟨x, y, z⟩ := g
  simp only at *
  have e1 : IntKind.i64.wrap ((s : Int) * z) = s * z := IntWalk.i64_in _ (by omega)
  have e2 : IntKind.i64.wrap ((s : Int) * y) = s * y := IntWalk.i64_in _ (by omega)
  have e3 : IntKind.i64.wrap (y + (s : Int) * z) = y + s * z := IntWalk.i64_in _ (by omega)
  have e4 : IntKind.i64.wrap (x + (s : Int) * z) = x + s * z := IntWalk.i64_in _ (by omega)
  have e5 : IntKind.i64.wrap (x + (s : Int) * y) = x + s * y := IntWalk.i64_in _ (by omega)
  have q0 : ((sqIx s (axSq 0) ⟨x, y, z⟩ : Nat) : Int) = y + s * z := by show ((y + (s : Int) * z).toNat : Int) = _; omega
  have q1 : ((sqIx s (axSq 1) ⟨x, y, z⟩ : Nat) : Int) = x + s * z := by show ((x + (s : Int) * z).toNat : Int) = _; omega
  have q2 : ((sqIx s (axSq 2) ⟨x, y, z⟩ : Nat) : Int) = x + s * y := by show ((x + (s : Int) * y).toNat : Int) = _; omega
  have Q0 := Kp.mk q0
  have Q1 := Kp.mk q1
  have Q2 := Kp.mk q2
  clear q0 q1 q2 a b c d e f m1 m2 m3 m4 hg hs2
  obtain rfl | rfl | rfl : k = 0 ∨ k = 1 ∨ k = 2 := by omega
  · rw [Q0.out]
    go_enter Try.func52, Try.ntmps52
    go_wp2
    go_ret
    exact ⟨rfl, by repeat (first | exact Below.refl _ _ | refine Below.alloc ?_ (by simp <;> omega) _ | refine bDrewN ?_ _ | refine Below.drew ?_)⟩
  · rw [Q1.out]
    go_enter Try.func52, Try.ntmps52
    go_wp2
    go_ret
    exact ⟨rfl, by repeat (first | exact Below.refl _ _ | refine Below.alloc ?_ (by simp <;> omega) _ | refine bDrewN ?_ _ | refine Below.drew ?_)⟩
  · rw [Q2.out]
    go_enter Try.func52, Try.ntmps52
    go_wp2
    go_ret
    exact ⟨rfl, by repeat (first | exact Below.refl _ _ | refine Below.alloc ?_ (by simp <;> omega) _ | refine bDrewN ?_ _ | refine Below.drew ?_)⟩
/-- The squares that some grains make dark. -/
def darkL (s k : Nat) (l : List Gr) : List Bool := (List.range (s * s)).map fun i => decide (∃ g ∈ l, sqIx s (axSq k) g = i)
theorem darkL_len (s k : Nat) (l : List Gr) : (darkL s k l).length = s * s := by simp [darkL]
theorem darkL_nil (s k : Nat) : darkL s k [] = List.replicate (s * s) false := by
  unfold darkL
  simp only [List.not_mem_nil, false_and, exists_false, decide_false]
  rw [List.map_const', List.length_range]
theorem darkL_view (s k : Nat) (h : List Bool) : darkL s k (grainsL s h) = viewL s k h := rfl
theorem darkL_more {s k : Nat} {l : List Gr} {x : Gr} (hx : sqIx s (axSq k) x < s * s) : darkL s k (l ++ [x]) = (darkL s k l).set (sqIx s (axSq k) x) true := by
  apply List.ext_getElem?
  intro i
  rw [List.getElem?_set, darkL_len]
  unfold darkL
  rw [List.getElem?_map, List.getElem?_map]
  by_cases hi : sqIx s (axSq k) x = i
  · subst hi
    rw [if_pos rfl, if_pos hx, List.getElem?_range hx]
    simp
  · rw [if_neg hi]
    by_cases hl : i < s * s
    · rw [List.getElem?_range hl]
      simp only [Option.map_some, Option.some.injEq, decide_eq_decide, List.mem_append, List.mem_singleton]
      constructor
      · rintro ⟨g, hg | rfl, e⟩
        · exact ⟨g, hg, e⟩
        · exact absurd e hi
      · rintro ⟨g, hg, e⟩
        exact ⟨g, .inl hg, e⟩
    · rw [List.getElem?_eq_none (by rw [List.length_range]; omega)]
      rfl
theorem post_name {c : Code} {P : Program} {Q : Exit → Act → World → Prop} {a : Act} {w : World} (h : ∀ Q', Q' = Q → c.wp P Q' a w) : c.wp P Q a w := h Q rfl
theorem run_falsesW (N : Nat) (hn : N ≤ 100000) (W : World) : (Instr.makeSlice 22 (.int .i64 (N : Int)) (.int .i64 (N : Int))).run Try.prog W = .ok (.slice (some ⟨W.heap.size, 0, none⟩) N N) (W.alloc (.cells ((List.replicate N false).map Value.bool).toArray 4)) := by
  obtain ⟨i0, hi0, hz0, hz1, hz2⟩ := info_parts info_bool
  have hr := run_make (P := Try.prog) W 22 4 i0 (.bool false) Try.underlying22 hi0 hz0 .i64 .i64 N N (by omega) (Int.le_refl _) (by rw [hz2]; omega) (by omega)
  simp only [Int.toNat_natCast] at hr
  have e : madeCells (Value.bool false).cells (N * i0.size) = ((List.replicate N false).map Value.bool).toArray := by
    rw [hz1, Nat.mul_one]
    apply Array.ext'
    rw [List.map_replicate]
    exact toList_madeCells_one (.bool false) N
  rw [e] at hr
  exact hr
/-- The begin: the row and the view that is made, in either order. -/
structure VwI (w : World) (B s N : Nat) (W : World) : Prop where
  below : Below w.heap.size w W
  b0 : W.cell? ⟨B, 0, none⟩ = some (.int .i64 s)
  r0 : W.cell? ⟨B + 1, 0, none⟩ = some (.int .i64 0)
  r1 : W.cell? ⟨B + 1, 1, none⟩ = some (.slice none 0 0)
  rz : ∀ j, W.frozen? ⟨B + 1, j, none⟩ = false
theorem VwI.on {w W V : World} {B s N : Nat} (k : VwI w B s N W) (hb : Below W.heap.size W V) : VwI w B s N V := by
  have l : ∀ {b i : Nat} {v : Value}, W.cell? ⟨b, i, none⟩ = some v → V.cell? ⟨b, i, none⟩ = some v := fun hv => (hb.cell (p := ⟨_, _, none⟩) (World.block_lt_of_cell? _ _ hv)).trans hv
  exact ⟨k.below.trans (hb.mono k.below.size), l k.b0, l k.r0, l k.r1, fun j => (hb.frozen (p := ⟨B + 1, j, none⟩) (World.block_lt_of_cell? _ ⟨B + 1, 0, none⟩ k.r0)).trans (k.rz j)⟩
theorem rep_array (N : Nat) : Array.replicate N (Value.bool false) = ((List.replicate N false).map Value.bool).toArray := by simp
theorem VwI.rowfirst {w W : World} {B s N : Nat} (k : VwI w B s N W) (hN : 0 < N) : DlI w B W.heap.size N (W.heap.size + 1) s N (List.replicate N false) ((W.alloc (.cells (Array.replicate N (.bool false)) 4)).alloc (.cells #[.int .i64 s, .slice (some ⟨W.heap.size, 0, none⟩) N N] 49)).drew := by
  rw [rep_array]
  have b1 := (Below.refl _ W).alloc (Nat.le_refl _) (.cells ((List.replicate N false).map Value.bool).toArray 4)
  have k1 := k.on b1
  have hm := MR.made (World.alloc_heap_new W (.cells ((List.replicate N false).map Value.bool).toArray 4))
  have b2 := (Below.refl _ (W.alloc (.cells ((List.replicate N false).map Value.bool).toArray 4))).alloc (Nat.le_refl _) (.cells #[.int .i64 s, .slice (some ⟨W.heap.size, 0, none⟩) N N] 49)
  have k2 := k1.on b2
  exact DlI.on ⟨k2.below, hm.on hN b2, k2.b0, by go_simp, by go_simp, k2.r0, k2.r1, k2.rz⟩ hN (Below.refl _ _).drew
theorem VwI.boxfirst {w W : World} {B s N : Nat} (k : VwI w B s N W) (hN : 0 < N) : DlI w B (W.heap.size + 1) N W.heap.size s N (List.replicate N false) ((W.alloc (.cells #[.int .i64 s, .slice (some ⟨W.heap.size + 1, 0, none⟩) N N] 49)).alloc (.cells (Array.replicate N (.bool false)) 4)).drew := by
  rw [rep_array]
  have b1 := (Below.refl _ W).alloc (Nat.le_refl _) (.cells #[.int .i64 s, .slice (some ⟨W.heap.size + 1, 0, none⟩) N N] 49)
  have k1 := k.on b1
  have hm := MR.made (World.alloc_heap_new (W.alloc (.cells #[.int .i64 s, .slice (some ⟨W.heap.size + 1, 0, none⟩) N N] 49)) (.cells ((List.replicate N false).map Value.bool).toArray 4))
  rw [World.size_alloc] at hm
  have b2 := (Below.refl _ (W.alloc (.cells #[.int .i64 s, .slice (some ⟨W.heap.size + 1, 0, none⟩) N N] 49))).alloc (Nat.le_refl _) (.cells ((List.replicate N false).map Value.bool).toArray 4)
  have k2 := k1.on b2
  exact DlI.on ⟨k2.below, hm, k2.b0, by go_simp, by go_simp, k2.r0, k2.r1, k2.rz⟩ hN (Below.refl _ _).drew
theorem DlI.put {w W : World} {B M cap Q s N j : Nat} {L L' : List Bool} {x : Bool} (k : DlI w B M cap Q s N L W) (hj : j < N) (hL : L' = L.set j x) (hMQ : M ≠ Q) (hM : B + 1 < M) (hB : w.heap.size = B) : DlI w B M cap Q s N L' (W.setCell ⟨M, j, none⟩ (.bool x)) := by
  have o : ∀ b i, b ≠ M → (W.setCell ⟨M, j, none⟩ (.bool x)).cell? ⟨b, i, none⟩ = W.cell? ⟨b, i, none⟩ := fun b i hb => World.cell?_setCell_other _ _ _ _ (by intro he; simp only [Addr.mk.injEq] at he; exact hb he.1.symm)
  exact ⟨k.below.setCell (by simp only; omega) _, hL ▸ k.mr.set_ hj x, (o _ _ (by omega)).trans k.b0, (o _ _ (Ne.symm hMQ)).trans k.c0, (o _ _ (Ne.symm hMQ)).trans k.c1, (o _ _ (by omega)).trans k.r0, (o _ _ (by omega)).trans k.r1, fun i => by simp [go_sem, k.rz]⟩
theorem OwnG.put {W : World} {B0 M j : Nat} {v x : Value} {l : List Gr} (h : OwnG W B0 v l) (hM : M < B0) : OwnG (W.setCell ⟨M, j, none⟩ x) B0 v l := h.kept (setCell_grown W M j x) (by
  cases hv : v.ownBlock with
  | none => exact .inl rfl
  | some b =>
    refine .inr fun e => ?_
    have := (h.lt b hv).1
    simp only [Option.some.injEq] at e
    omega)
end Go.Proofs.Ytcjlijiifhggfaa.Cv
