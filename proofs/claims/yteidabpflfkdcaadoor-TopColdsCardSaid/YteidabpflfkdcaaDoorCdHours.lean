/-
  Plain mathematics of the stretches; what a walk over them keeps.
-/
import Derived.Test.YteidabpflfkdcaaDoorCdStretch
namespace Go.Proofs.YteidabpflfkdcaaDoor.Cd
open Go Go.RowKit Go.Sort

/-- Readings and an end that are valid. -/
structure Good (l : List Rd) (e : Int) : Prop where
  read : readB l = true
  fin : endB l e = true
theorem Good.len {l : List Rd} {e : Int} (h : Good l e) : 1 ≤ l.length ∧ l.length ≤ 200 := read_len h.read
theorem Good.end_ {l : List Rd} {e : Int} (h : Good l e) {x : Rd} {i : Nat} (hx : l[i]? = some x) : x.h ≤ e ∧ e ≤ 1000000 := by
  have hl := h.len
  have hi := (List.getElem?_eq_some_iff.1 hx).1
  have hf := h.fin
  unfold endB at hf
  have hy : l[l.length - 1]? = some l[l.length - 1] := List.getElem?_eq_getElem (by omega)
  rw [List.getD_eq_getElem?_getD, hy, in_iff] at hf
  simp only [Option.getD_some] at hf
  by_cases e' : i = l.length - 1
  · subst e'
    rw [hy] at hx
    cases hx
    exact hf
  · have := read_asc' h.read (show i < l.length - 1 by omega) hx hy
    omega
/-- What is known of a stretch. -/
theorem Good.sg {l : List Rd} {e : Int} (h : Good l e) {i : Nat} (hi : i < l.length) : (0 ≤ (sgAt l e i).f ∧ (sgAt l e i).f ≤ (sgAt l e i).t ∧ (sgAt l e i).t ≤ 1000000) ∧ -1000 ≤ (sgAt l e i).c ∧ (sgAt l e i).c ≤ 1000 := by
  have hx : l[i]? = some l[i] := List.getElem?_eq_getElem hi
  have hb := read_bd h.read hx
  have he := h.end_ hx
  rw [sgAt_at hx]
  refine ⟨⟨hb.1.1, ?_, ?_⟩, hb.2⟩
  · show (l[i]).h ≤ tillL l e i
    unfold tillL
    by_cases hn : i + 1 < l.length
    · have hy : l[i + 1]? = some l[i + 1] := List.getElem?_eq_getElem hn
      have := read_asc h.read hx hy
      rw [hy]
      simp only
      omega
    · rw [List.getElem?_eq_none (by omega)]
      exact he.1
  · show tillL l e i ≤ 1000000
    unfold tillL
    by_cases hn : i + 1 < l.length
    · have hy : l[i + 1]? = some l[i + 1] := List.getElem?_eq_getElem hn
      rw [hy]
      exact (read_bd h.read hy).1.2
    · rw [List.getElem?_eq_none (by omega)]
      exact he.2
theorem sg_next {l : List Rd} {e : Int} {i : Nat} (hi : i + 1 < l.length) : (sgAt l e (i + 1)).f = (sgAt l e i).t := by
  have hx : l[i]? = some l[i] := List.getElem?_eq_getElem (by omega)
  have hy : l[i + 1]? = some l[i + 1] := List.getElem?_eq_getElem hi
  rw [sgAt_at hx, sgAt_at hy]
  unfold tillL
  rw [hy]
theorem sg_last {l : List Rd} {e : Int} {i : Nat} (hi : i + 1 = l.length) : (sgAt l e i).t = e := by
  have hx : l[i]? = some l[i] := List.getElem?_eq_getElem (by omega)
  rw [sgAt_at hx]
  unfold tillL
  rw [List.getElem?_eq_none (by omega)]
theorem chk_good {l : List Rd} {e : Int} {ts : List Int} (h : chkE l e ts = 0) : Good l e ∧ allB (-1000) 1000 ts = true := by
  unfold chkE at h
  split at h
  · split at h
    · rename_i h1 h2
      rw [Bool.and_eq_true] at h2
      exact ⟨⟨h1, h2.1⟩, h2.2⟩
    · cases h
  · cases h
theorem good_chk {l : List Rd} {e : Int} {ts : List Int} (h : Good l e) (g : allB (-1000) 1000 ts = true) : chkE l e ts = 0 := by
  unfold chkE; rw [h.read, h.fin, g]; rfl

/-! ### What a walk over stretches keeps -/
/-- Cells of the call's own that hold what they are said to. -/
structure Hd (w : World) (ps : List (Nat × Nat × Value)) (W : World) : Prop where
  below : Below w.heap.size w W
  cells : ∀ p ∈ ps, W.cell? ⟨p.1, p.2.1, none⟩ = some p.2.2 ∧ W.frozen? ⟨p.1, p.2.1, none⟩ = false
theorem Hd.lt {w W : World} {ps : List (Nat × Nat × Value)} (h : Hd w ps W) {p : Nat × Nat × Value} (hp : p ∈ ps) : p.1 < W.heap.size := World.block_lt_of_cell? _ _ (h.cells p hp).1
theorem Hd.same {w W W' : World} {ps : List (Nat × Nat × Value)} (h : Hd w ps W) (hb : Below w.heap.size w W') (hs : ∀ p ∈ ps, W'.heap[p.1]? = W.heap[p.1]?) : Hd w ps W' :=
  ⟨hb, fun p hp => ⟨(World.cell?_of_block (a := ⟨p.1, p.2.1, none⟩) (hs p hp)).trans (h.cells p hp).1, (World.frozen?_of_block (a := ⟨p.1, p.2.1, none⟩) (hs p hp)).trans (h.cells p hp).2⟩⟩
theorem Hd.on {w W W' : World} {ps : List (Nat × Nat × Value)} (h : Hd w ps W) (hb : Below W.heap.size W W') : Hd w ps W' :=
  h.same (h.below.trans (hb.mono h.below.size)) fun _ hp => hb.block _ (h.lt hp)
theorem Hd.abide {w : World} {ps : List (Nat × Nat × Value)} {B : Nat} (hB : w.heap.size ≤ B) (hp : ∀ p ∈ ps, p.1 < B) : Abides B (Hd w ps) := by
  intro X Y row h g hr
  have hr' : ∀ r, row = some r → B ≤ r := fun r e => by rcases hr r e with h | h <;> omega
  refine h.same ⟨g.os.trans h.below.os, g.tape.trans h.below.tape, g.output.trans h.below.output, Nat.le_trans h.below.size g.size, fun k hk => ?_⟩ fun p hq => ?_
  · exact (g.block k (Nat.lt_of_lt_of_le hk h.below.size) (fun e => by have := hr' k e.symm; omega)).trans (h.below.block k hk)
  · exact g.block p.1 (h.lt hq) (fun e => by have := hr' _ e.symm; have := hp p hq; omega)
/-- A box more. -/
theorem Hd.box {w W : World} {ps : List (Nat × Nat × Value)} (h : Hd w ps W) (v : Value) (t : TypeId) {Y : Nat} (hY : W.heap.size = Y) (hw : w.heap.size ≤ Y) : Hd w (ps ++ [(Y, 0, v)]) (W.alloc (.cells #[v] t)) := by
  subst hY
  have hb : Below W.heap.size W (W.alloc (.cells #[v] t)) := (Below.refl _ _).alloc (Nat.le_refl _) _
  refine ⟨h.below.alloc hw _, fun p hp => ?_⟩
  rcases List.mem_append.1 hp with h1 | h1
  · exact (h.on hb).cells p h1
  · rw [List.mem_singleton.1 h1]
    constructor <;> go_simp
theorem Hd.drew {w W : World} {ps : List (Nat × Nat × Value)} (h : Hd w ps W) : Hd w ps W.drew := h.same (Below.drew h.below) fun _ _ => rfl
theorem Hd.one {w W : World} {Z : Nat} {v : Value} (hb : Below w.heap.size w W) (h : W.cell? ⟨Z, 0, none⟩ = some v) (z : ∀ j, W.frozen? ⟨Z, j, none⟩ = false) : Hd w [(Z, 0, v)] W :=
  ⟨hb, fun p hp => by rw [List.mem_singleton.1 hp]; exact ⟨h, z 0⟩⟩
/-- An iterator over stretches has been made. -/
theorem str_start {X W0 : World} {s : Value} {e : Int} {Y : Nat} (hX : X.heap.size = Y) (h : (X.alloc (.cells #[s] 47)).alloc (.cells #[.int .i64 e] 3) = W0) :
    W0.heap.size = Y + 2 ∧ Below X.heap.size X W0 ∧ W0.cell? ⟨Y, 0, none⟩ = some s ∧ W0.cell? ⟨Y + 1, 0, none⟩ = some (.int .i64 e) := by
  subst h
  subst hX
  refine ⟨by simp, ((Below.refl _ _).alloc (Nat.le_refl _) _).alloc (by simp) _, by go_simp, by go_simp⟩
theorem abide_const {B : Nat} {q : Prop} : Abides B (fun _ => q) := fun _ _ _ h _ _ => h
theorem abide_and {B : Nat} {I J : World → Prop} (h : Abides B I) (g : Abides B J) : Abides B (fun W => I W ∧ J W) := fun X Y row hX hg hr => ⟨h X Y row hX.1 hg hr, g X Y row hX.2 hg hr⟩
/-- The boxed stretch. -/
structure SgAt (W : World) (U : Nat) (x : Sg) : Prop where
  c0 : W.cell? ⟨U, 0, none⟩ = some (.int .i64 x.f)
  c1 : W.cell? ⟨U, 1, none⟩ = some (.int .i64 x.t)
theorem SgAt.abide {X Y : World} {U B : Nat} {x : Sg} {row : Option Nat} (h : SgAt X U x) (g : X.grownBy Y row) (hr : ∀ r, row = some r → r = B + 2 ∨ (B ≤ r ∧ ∃ o : Obj, X.heap[r]? = some o ∧ o.isCells = false)) (hU : B + 2 < U) : SgAt Y U x := by
  have hlt := World.block_lt_of_cell? _ _ h.c0
  have hne : some U ≠ row := fun e => by
    rcases hr U e.symm with h1 | ⟨-, o, ho, hc⟩
    · omega
    · have hc0 := h.c0
      simp only [World.cell?, ho] at hc0
      cases o <;> simp_all [Obj.isCells]
  have hb := g.block U hlt hne
  exact ⟨(World.cell?_of_block (a := ⟨U, 0, none⟩) hb).trans h.c0, (World.cell?_of_block (a := ⟨U, 1, none⟩) hb).trans h.c1⟩
theorem alloc_keeps (B : Nat) (W : World) (o : Obj) : KeepsFrom B W (W.alloc o) := KeepsFrom.of_grownBy (World.grownBy_alloc W o none) (fun j e => by cases e)
theorem alloc_keep3 {S : Nat → Prop} {n : Nat} (W : World) (o : Obj) (hS : ∀ k, S k → k < W.heap.size) : Keep3 S n W (W.alloc o) := ⟨by simp, fun k hk => Below.heap_alloc _ _ _ (hS k hk)⟩
end Go.Proofs.YteidabpflfkdcaaDoor.Cd
