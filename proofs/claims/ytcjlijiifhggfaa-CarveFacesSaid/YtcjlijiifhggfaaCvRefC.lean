/-
  WALKS (layer 5, carve): the block of listed grains, by the reference.
-/
import Derived.Test.YtcjlijiifhggfaaCvRefB
import Derived.Test.YtcjlijiifhggfaaCvLess
import Derived.Deep.RegionWith
namespace Go.Proofs.Ytcjlijiifhggfaa.Cv
open Go Go.RowKit Go.Sort

theorem mem_places {s : Nat} {g : Gr} (h : insB s g = true) : g ∈ placesL s := by
  obtain ⟨i1, i2⟩ := idx_ins h
  obtain ⟨⟨a, b⟩, ⟨c, d⟩, e, f⟩ := ins_iff.1 h
  obtain ⟨x, y, z⟩ := g
  simp only [idx] at *
  obtain ⟨X, rfl⟩ := Int.eq_ofNat_of_zero_le a
  obtain ⟨Y, rfl⟩ := Int.eq_ofNat_of_zero_le c
  obtain ⟨Z, rfl⟩ := Int.eq_ofNat_of_zero_le e
  have hX : X < s := by omega
  have hY : Y < s := by omega
  have hs : 0 < s := by omega
  have i3 : X + s * (Y + s * Z) < s * s * s := by
    have : ((X + s * (Y + s * Z) : Nat) : Int) < ((s * s * s : Nat) : Int) := by push_cast; exact i2
    exact_mod_cast this
  refine List.mem_map.2 ⟨X + s * (Y + s * Z), List.mem_range.2 i3, ?_⟩
  have e1 : (X + s * (Y + s * Z)) % s = X := by rw [Nat.add_mul_mod_self_left, Nat.mod_eq_of_lt hX]
  have e2 : (X + s * (Y + s * Z)) / s = Y + s * Z := by rw [Nat.add_mul_div_left _ _ hs, Nat.div_eq_of_lt hX, Nat.zero_add]
  have e3 : (Y + s * Z) % s = Y := by rw [Nat.add_mul_mod_self_left, Nat.mod_eq_of_lt hY]
  have e4 : (Y + s * Z) / s = Z := by rw [Nat.add_mul_div_left _ _ hs, Nat.div_eq_of_lt hY, Nat.zero_add]
  unfold grAt
  rw [e1, e2, e3, e4]
theorem MR.fb {M N c n : Nat} {ms : List Bool} {W : World} (h : MR M N c ms W) (hn : n ≤ M) : FB n W (.slice (some ⟨M, 0, none⟩) N c) ms := ⟨h.row, fun b o l c' e => by
  simp only [Value.slice.injEq, Option.some.injEq, Addr.mk.injEq, and_true] at e
  omega⟩
/-- The world of the second loop: the block's own cells, its row of marks, the result's cells. -/
structure OI (w : World) (M Q s : Nat) (pre : List Gr) (W : World) : Prop where
  below : Below w.heap.size w W
  mr : MR M (s * s * s) (s * s * s) (metL s pre) W
  c0 : W.cell? ⟨Q, 0, none⟩ = some (.int .i64 s)
  c1 : W.cell? ⟨Q, 1, none⟩ = some (.slice (some ⟨M, 0, none⟩) (s * s * s) (s * s * s))
  r0 : W.cell? ⟨w.heap.size, 0, none⟩ = some (.int .i64 0)
  r1 : W.cell? ⟨w.heap.size, 1, none⟩ = some (.slice none 0 0)
  rz : ∀ j, W.frozen? ⟨w.heap.size, j, none⟩ = false
theorem OI.ltQ {w W : World} {M Q s : Nat} {pre : List Gr} (k : OI w M Q s pre W) : Q < W.heap.size := World.block_lt_of_cell? _ _ k.c0
theorem OI.on {w W V : World} {M Q s : Nat} {pre : List Gr} (k : OI w M Q s pre W) (hs : 1 ≤ s) (hb : Below W.heap.size W V) : OI w M Q s pre V := by
  have h0 : 0 < s * s * s := Nat.mul_pos (Nat.mul_pos hs hs) hs
  have hR := World.block_lt_of_cell? _ _ k.r0
  exact ⟨k.below.trans (hb.mono k.below.size), k.mr.on h0 hb, (hb.cell (p := ⟨Q, 0, none⟩) k.ltQ).trans k.c0, (hb.cell (p := ⟨Q, 1, none⟩) k.ltQ).trans k.c1,
    (hb.cell (p := ⟨_, 0, none⟩) hR).trans k.r0, (hb.cell (p := ⟨_, 1, none⟩) hR).trans k.r1, fun j => (hb.frozen (p := ⟨_, j, none⟩) hR).trans (k.rz j)⟩
theorem OI.set_ {w W : World} {M Q s j : Nat} {pre : List Gr} {x : Gr} (k : OI w M Q s pre W) (hj : j < s * s * s) (hm : metL s (pre ++ [x]) = (metL s pre).set j true) (hMQ : M ≠ Q) (hM : w.heap.size < M) : OI w M Q s (pre ++ [x]) (W.setCell ⟨M, j, none⟩ (.bool true)) := by
  have o : ∀ b i, b ≠ M → (W.setCell ⟨M, j, none⟩ (.bool true)).cell? ⟨b, i, none⟩ = W.cell? ⟨b, i, none⟩ := fun b i hb => World.cell?_setCell_other _ _ _ _ (by intro he; simp only [Addr.mk.injEq] at he; exact hb he.1.symm)
  exact ⟨k.below.setCell (Nat.le_of_lt hM) _, hm ▸ k.mr.set_ hj true, (o _ _ (Ne.symm hMQ)).trans k.c0, (o _ _ (Ne.symm hMQ)).trans k.c1, (o _ _ (Nat.ne_of_lt hM)).trans k.r0, (o _ _ (Nat.ne_of_lt hM)).trans k.r1, fun i => by simp [go_sem, k.rz]⟩
theorem OI.start {w w2 V : World} {M s : Nat} {t : TypeId} (h : w2.alloc (.cells #[.int .i64 s, .slice (some ⟨M, 0, none⟩) (s * s * s) (s * s * s)] t) = V) (hs : 1 ≤ s) (hb : Below w.heap.size w w2) (hm : MR M (s * s * s) (s * s * s) (List.replicate (s * s * s) false) w2)
    (h0 : w2.cell? ⟨w.heap.size, 0, none⟩ = some (.int .i64 0)) (h1 : w2.cell? ⟨w.heap.size, 1, none⟩ = some (.slice none 0 0)) (hz : ∀ j, w2.frozen? ⟨w.heap.size, j, none⟩ = false) : OI w M w2.heap.size s [] V ∧ M ≠ w2.heap.size := by
  subst h
  have hp : 0 < s * s * s := Nat.mul_pos (Nat.mul_pos hs hs) hs
  have hR := World.block_lt_of_cell? _ _ h0
  have hb2 : Below w2.heap.size w2 (w2.alloc (.cells #[.int .i64 s, .slice (some ⟨M, 0, none⟩) (s * s * s) (s * s * s)] t)) := by repeat (first | exact Below.refl _ _ | refine Below.alloc ?_ (by simp <;> omega) _ | refine bDrewN ?_ _ | refine Below.drew ?_)
  exact ⟨⟨hb.alloc hb.size _, by rw [metL_nil]; exact hm.on hp hb2, by go_simp, by go_simp, (hb2.cell (p := ⟨_, 0, none⟩) hR).trans h0, (hb2.cell (p := ⟨_, 1, none⟩) hR).trans h1, fun j => (hb2.frozen (p := ⟨_, j, none⟩) hR).trans (hz j)⟩, Nat.ne_of_lt (hm.lt hp)⟩
theorem one_start {w W1 : World} {a b : Value} (h : w.alloc (.cells #[a, b] 24) = W1) : Below w.heap.size w W1 ∧ W1.cell? ⟨w.heap.size, 0, none⟩ = some a ∧ W1.cell? ⟨w.heap.size, 1, none⟩ = some b ∧ ∀ j, W1.frozen? ⟨w.heap.size, j, none⟩ = false := by
  subst h
  exact ⟨by repeat (first | exact Below.refl _ _ | refine Below.alloc ?_ (by simp <;> omega) _ | refine bDrewN ?_ _ | refine Below.drew ?_), by go_simp, by go_simp, fun j => by go_simp⟩
theorem nodup_more {l : List Gr} {k : Nat} {x : Gr} (hx : l[k]? = some x) (h : (l.take k).Nodup) (hn : x ∉ l.take k) : (l.take (k + 1)).Nodup ∧ l.take (k + 1) = l.take k ++ [x] := by
  have hk := (List.getElem?_eq_some_iff.1 hx).1
  have e : l[k] = x := (List.getElem?_eq_some_iff.1 hx).2
  have e1 : l.take (k + 1) = l.take k ++ [x] := by rw [List.take_succ_eq_append_getElem hk, e]
  refine ⟨?_, e1⟩
  rw [e1, List.nodup_append]
  refine ⟨h, by simp, fun a ha b hb => ?_⟩
  rw [List.mem_singleton] at hb
  subst hb
  exact fun e => hn (e ▸ ha)
theorem dup_at {l : List Gr} {k : Nat} {x : Gr} (hx : l[k]? = some x) (hn : x ∈ l.take k) : ¬ l.Nodup := by
  have hk := (List.getElem?_eq_some_iff.1 hx).1
  have e : l[k] = x := (List.getElem?_eq_some_iff.1 hx).2
  intro h
  have h1 := h.sublist (List.take_sublist (k + 1) l)
  rw [List.take_succ_eq_append_getElem hk, e, List.nodup_append] at h1
  exact h1.2.2 x hn x (by simp) rfl
theorem rOf_bad {s r : Int} {l : List Gr} {w w' : World} (h : ofE s l = r) (hr : r ≠ 0) (hb : Below w.heap.size w w') : ∃ u, Ending.returned (.tuple #[.agg #[.int .i64 0, .slice none 0 0], .int .i64 r]) = .returned (.tuple #[u, .int .i64 (ofE s l)]) ∧ VF w.heap.size w' u (ofS s l) (ofL s l) ∧ Below w.heap.size w w' := by
  obtain ⟨e1, e2⟩ := of_bad h hr
  rw [h, e1, e2]
  exact ⟨_, rfl, VF.nil _ _, hb⟩
end Go.Proofs.Ytcjlijiifhggfaa.Cv
