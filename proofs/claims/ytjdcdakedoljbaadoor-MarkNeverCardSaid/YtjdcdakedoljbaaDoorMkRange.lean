/-
  A range over a function whose body always goes on; the function ranged over may keep one block of cells of its own.
-/
import Derived.RangeFuncNested
import Derived.RangeFuncBound
import Derived.RangeFuncCalls
import Derived.RangeFuncLeaves
import Derived.Shelf.Abstract
import Derived.WalkKit
import Derived.OwnWalkIn
import Derived.TacticsInMore
import Derived.LoopNIn
import Derived.LoopIn
namespace Go.Proofs.YtjdcdakedoljbaaDoor.Mk
open Go Go.RowKit

variable {F : Fence} {n : Nat} {P : Program}

/-- How a round is left that goes on. -/
def GoesOn (Kp : World → World → Prop) (B : Nat) (I : List Nat → World → Prop) (xs : List Nat) (W : World) : Exit → Act → World → Prop
  | .normal, _, W' => KeepsFrom B W W' ∧ Kp W W' ∧ I xs W'
  | _, _, _ => False
/-- The numbers come in their order, whatever the rounds do that keep Kp; of cells the function turns at most the block that it lays first. -/
def Yields (own : Bool) (F : Fence) (n : Nat) (P : Program) (g : Nat) (lb : Array Value) (Kp : World → World → Prop) (xs : List Nat) (w : World) : Prop :=
  ∀ (l : Nat) (J : List Nat → World → Prop) (W : World), Below w.heap.size w W → W.heap.size = w.heap.size + 2 →
    (∀ s A B row, J s A → A.grownBy B row → (∀ r, row = some r → own = true ∧ r = W.heap.size) → J s B) →
    (∀ (pre : List Nat) (x : Nat) (W1 : World), J pre W1 → (pre ++ [x]) <+: xs → (own = true → W.heap.size < W1.heap.size) → YieldAt F (n - 1) P l #[.int .i64 (x : Int)] W1 fun e W' => e = .returned (.bool true) ∧ J (pre ++ [x]) W' ∧ Kp W1 W') →
    J [] W →
    CallsIn F n P g (#[.func (.yield l) #[] #[]] ++ lb) W fun e W' => (∃ v, e = .returned v) ∧ J xs W'
theorem wpIn_yields {g : Operand} {t : Tmp} {assign body : Code} {Q : Exit → Act → World → Prop} {a : Act} {w : World}
    (hro : F.round = none) (h1 : 1 ≤ n) {gf : Nat} {lb : Array Value} (hg : a.eval g = .func (.func gf) #[] lb) (hFg : F.fn gf) (eg : ∀ args w, (callFunc gf args).run P w = .ok (.enter gf args) w)
    {own : Bool} {Kp : World → World → Prop} {xs : List Nat} (hy : Yields own F (n - 1) P gf lb Kp xs w)
    (hKt : ∀ {A B C : World}, Kp A B → Kp B C → Kp A C) (hKb : ∀ (W : World) (l : Nat) (o o' : Obj), w.heap.size ≤ l → W.heap[l]? = some o → o.isCells = false → o'.isCells = false → Kp W (W.putObj l o'))
    (I : List Nat → World → Prop) (hI : ∀ s A B row, I s A → A.grownBy B row → (∀ r, row = some r → own = true ∧ r = w.heap.size + 2 ∨ (w.heap.size ≤ r ∧ ∃ o : Obj, A.heap[r]? = some o ∧ o.isCells = false)) → I s B) (h0 : I [] w)
    (a₁ : Nat → Act)
    (hassign : ∀ (l x : Nat) (W : World) (K : Act → World → Prop), K (a₁ x) W → assign.wpIn (F.inRound l) (n - 1 - 1) P (Exit.then K (fun _ _ _ => False)) { tmps := a.tmps.setIfInBounds t (.int .i64 (x : Int)), defers := [] } W)
    (hbody : ∀ (l : Nat) (pre : List Nat) (x : Nat) (W : World), I pre W → (pre ++ [x]) <+: xs → (own = true → w.heap.size + 2 < W.heap.size) → body.wpIn (F.inRound l) (n - 1 - 1) P (GoesOn Kp w.heap.size I (pre ++ [x]) W) (a₁ x) W)
    (hdone : ∀ (D : Nat) (W : World), w.heap.size ≤ D → I xs W → W.heap[D]? = some (.deferred (some [])) → Q .normal { a with defers := { target := .collected D, args := #[] } :: a.defers } W) :
    (Code.rangeFunc g #[t] assign body).wpIn F n P Q a w := by
  refine wpIn_rangeFunc ?_
  intro fn hfn
  rw [hro]
  obtain ⟨rc, hrc⟩ : ∃ rc : LoopState → Loop, rc = fun st => { state := st, pending := none, fn, tmps := a.tmps, params := #[t], assign, body, defers := w.heap.size } := ⟨_, rfl⟩
  have e0 : ({ state := .ready, pending := none, fn, tmps := a.tmps, params := #[t], assign, body, defers := w.heap.size } : Loop) = rc .ready := by rw [hrc]
  have hpar : ∀ st, (rc st).params = #[t] := fun st => by rw [hrc]
  have hstate : ∀ st, (rc st).state = st := fun st => by rw [hrc]
  have hpend : ∀ st, (rc st).pending = none := fun st => by rw [hrc]
  have hset : ∀ st st', ({ rc st with state := st' } : Loop) = rc st' := fun st st' => by rw [hrc]
  have hset2 : ∀ st st', ({ rc st with state := st', pending := none } : Loop) = rc st' := fun st st' => by rw [hrc]
  have hwf : ∀ st, (rc st).fn = fn ∧ (rc st).tmps = a.tmps ∧ (rc st).assign = assign ∧ (rc st).body = body := fun st => by rw [hrc]; exact ⟨rfl, rfl, rfl, rfl⟩
  obtain ⟨W1, hW1⟩ : ∃ W1, (w.alloc (.deferred (some []))).alloc (.loop (rc .ready)) = W1 := ⟨_, rfl⟩
  have hz1 : W1.heap.size = w.heap.size + 2 := by rw [← hW1]; simp
  have hL1 : W1.heap[w.heap.size + 1]? = some (.loop (rc .ready)) := by
    rw [← hW1]
    have := World.alloc_heap_new (w.alloc (.deferred (some []))) (.loop (rc .ready))
    rwa [World.size_alloc] at this
  have hD1 : W1.heap[w.heap.size]? = some (.deferred (some [])) := by
    rw [← hW1]
    exact (Below.heap_alloc _ _ _ (by simp)).trans (World.alloc_heap_new w _)
  have hb1 : Below w.heap.size w W1 := by
    rw [← hW1]
    exact ((Below.refl _ w).alloc (Nat.le_refl _) _).alloc (by simp) _
  have hI1 : I [] W1 := by
    rw [← hW1]
    exact hI _ _ _ none (hI _ _ _ none h0 (World.grownBy_alloc _ _ none) (fun r e => by cases e)) (World.grownBy_alloc _ _ none) (fun r e => by cases e)
  have hput : ∀ (s : List Nat) (A : World) (l : Nat) (o o' : Obj), w.heap.size ≤ l → I s A → A.heap[l]? = some o → o.isCells = false → I s (A.putObj l o') := fun s A l o o' hl hs ho hc =>
    hI s A _ (some l) hs (grownBy_putObj' A l o') (fun r e => by cases e; exact .inr ⟨hl, o, ho, hc⟩)
  refine ⟨w.heap.size + 1, [{ target := .collected w.heap.size, args := #[] }], W1, { target := .fn (.func gf) lb, args := #[.func (.yield (w.heap.size + 1)) #[] #[]] }, W1, gf,
    #[.func (.yield (w.heap.size + 1)) #[] #[]] ++ lb, W1, ?_, ?_, ?_, ?_, fun _ => h1, ?_⟩
  · rw [run_enterLoop_outer, e0, hW1]
  · simp only [resolve, hg]
    simp [go_sem]
  · intro f' hf'
    simp [Target.leads] at hf'
    subst hf'
    exact hFg
  · simp [invoke, go_sem, eg]
  · refine (hy (w.heap.size + 1) (fun pre W => I pre W ∧ W.heap[w.heap.size + 1]? = some (.loop (rc .ready)) ∧ W.heap[w.heap.size]? = some (.deferred (some []))) W1 hb1 hz1 ?_ ?_ ⟨hI1, hL1, hD1⟩).mono ?_
    · rintro s A B row ⟨hi, hl, hd⟩ hg' hr
      have hne : ∀ k, k ≤ w.heap.size + 1 → some k ≠ row := fun k hk e => by
        have := (hr k e.symm).2
        omega
      have hlt := (Array.getElem?_eq_some_iff.1 hl).1
      exact ⟨hI s A B row hi hg' (fun r e => .inl ⟨(hr r e).1, by have := (hr r e).2; omega⟩), (hg'.block _ hlt (hne _ (Nat.le_refl _))).trans hl, (hg'.block _ (by omega) (hne _ (by omega))).trans hd⟩
    · rintro pre x W ⟨hi, hl, hd⟩ hpre hown
      have hlt : w.heap.size + 1 < W.heap.size := (Array.getElem?_eq_some_iff.1 hl).1
      have hyy := run_yield (P := P) (args := #[.int .i64 (x : Int)]) hl (by rw [hpar]; rfl)
      rw [hpar, (hwf _).1, (hwf _).2.1, (hwf _).2.2.1, (hwf _).2.2.2] at hyy
      have ez : ((#[t] : Array Tmp).zip #[Value.int .i64 (x : Int)]).foldl (fun tmps (q : Tmp × Value) => tmps.setIfInBounds q.1 q.2) a.tmps = a.tmps.setIfInBounds t (.int .i64 (x : Int)) := by simp
      have hyy2 : (Instr.yield (w.heap.size + 1) #[Value.int .i64 (x : Int)]).run P W = .ok (.round (w.heap.size + 1) fn (a.tmps.setIfInBounds t (.int .i64 (x : Int))) assign body) W := by
        rw [← ez]
        exact hyy
      clear hyy
      refine ⟨fn, _, assign, body, hyy2, roundIn_of_wpIn hfn ?_⟩
      refine hassign _ x W _ ?_
      refine ⟨_, run_beginRound hl (hstate _), ?_⟩
      rw [hset]
      obtain ⟨W2, hW2⟩ : ∃ W2, W.putObj (w.heap.size + 1) (.loop (rc .busy)) = W2 := ⟨_, rfl⟩
      have hl2 : W2.heap[w.heap.size + 1]? = some (.loop (rc .busy)) := by rw [← hW2]; exact World.putObj_heap_same hlt
      have hd2 : W2.heap[w.heap.size]? = some (.deferred (some [])) := by rw [← hW2]; exact (World.putObj_heap_other (by omega)).trans hd
      have hi2 : I pre W2 := by rw [← hW2]; exact hput _ _ _ _ _ (by omega) hi hl rfl
      have hk2 : Kp W W2 := by rw [← hW2]; exact hKb _ _ _ _ (by omega) hl rfl rfl
      rw [hW2]
      refine wpIn_mono (hbody _ pre x W2 hi2 hpre (fun h => by have := hown h; rw [← hW2]; simp; omega)) ?_
      rintro e a3 W3 hp
      cases e with
      | normal =>
        obtain ⟨hkf, hk3, hi3⟩ := hp
        have hl3 := hkf.same _ _ (by omega) hl2 rfl
        have hd3 := hkf.same _ _ (Nat.le_refl _) hd2 rfl
        have her := run_endRound (P := P) none hl3
        simp only [Option.isNone_none, if_true] at her
        rw [hset2] at her
        refine ⟨_, _, her, rfl, ⟨hput _ _ _ _ _ (by omega) hi3 hl3 rfl, World.putObj_heap_same (Array.getElem?_eq_some_iff.1 hl3).1, (World.putObj_heap_other (by omega)).trans hd3⟩, hKt (hKt hk2 hk3) (hKb _ _ _ _ (by omega) hl3 rfl rfl)⟩
      | ret => exact hp.elim
      | exit id => exact hp.elim
      | goto t => exact hp.elim
      | panic ch => exact hp.elim
      | outgrown => exact hp.elim
    · rintro e W2 ⟨⟨v, rfl⟩, hi, hl, hd⟩
      refine ⟨none, _, ?_, hdone w.heap.size _ (Nat.le_refl _) (hput _ _ _ _ (.loop (rc .exhausted)) (by omega) hi hl rfl) ((World.putObj_heap_other (by omega)).trans hd)⟩
      have := run_endLoop (P := P) hl (by rw [hstate]; simp)
      rw [hpend, hset2] at this
      exact this
/-! ### What a body keeps that writes a box and the row that the box holds -/
def IsCells (W : World) (k : Nat) : Prop := ∃ o : Obj, W.heap[k]? = some o ∧ o.isCells = true
/-- A block that is neither the box nor the row in it. -/
def NotOwn (Bx : Nat) (W : World) (k : Nat) : Prop := k ≠ Bx ∧ ∀ v, W.cell? ⟨Bx, 0, none⟩ = some v → v.ownBlock ≠ some k
structure Keep (Bx : Nat) (W W' : World) : Prop where
  size : W.heap.size ≤ W'.heap.size
  same : ∀ k, k < W.heap.size → IsCells W k → NotOwn Bx W k → W'.heap[k]? = W.heap[k]?
  own : ∀ k, k < W.heap.size → NotOwn Bx W k → NotOwn Bx W' k
theorem Keep.refl (Bx : Nat) (W : World) : Keep Bx W W := ⟨Nat.le_refl _, fun _ _ _ _ => rfl, fun _ _ h => h⟩
theorem Keep.trans {Bx : Nat} {A B C : World} (h : Keep Bx A B) (k : Keep Bx B C) : Keep Bx A C :=
  ⟨Nat.le_trans h.size k.size, fun i hi hc hn => by
    have h1 := h.same i hi hc hn
    have hc2 : IsCells B i := by
      obtain ⟨o, ho, hc⟩ := hc
      exact ⟨o, h1.trans ho, hc⟩
    exact (k.same i (Nat.lt_of_lt_of_le hi h.size) hc2 (h.own i hi hn)).trans h1, fun i hi hn => k.own i (Nat.lt_of_lt_of_le hi h.size) (h.own i hi hn)⟩
theorem cell_none_of {W : World} {k : Nat} {o : Obj} (h : W.heap[k]? = some o) (hc : o.isCells = false) (j : Nat) : W.cell? ⟨k, j, none⟩ = none := by
  cases o <;> simp_all [World.cell?, Obj.isCells]
theorem Keep.putObj (Bx : Nat) (W : World) (l : Nat) (o o' : Obj) (hl : W.heap[l]? = some o) (ho : o.isCells = false) (ho' : o'.isCells = false) : Keep Bx W (W.putObj l o') := by
  refine ⟨by simp, fun k hk hc _ => ?_, fun k hk hn => ⟨hn.1, fun v hv => ?_⟩⟩
  · refine World.putObj_heap_other (fun e => ?_)
    obtain ⟨o2, h2, h3⟩ := hc
    rw [e, hl] at h2
    simp only [Option.some.injEq] at h2
    rw [← h2, ho] at h3
    cases h3
  · by_cases e : Bx = l
    · have h1 : (W.putObj l o').heap[Bx]? = some o' := by rw [e]; exact World.putObj_heap_same (Array.getElem?_eq_some_iff.1 hl).1
      rw [cell_none_of h1 ho'] at hv
      cases hv
    · refine hn.2 v ?_
      rw [← hv]
      exact (World.cell?_of_block (w := W) (World.putObj_heap_other e)).symm
theorem isCells_of {W : World} {k j : Nat} {v : Value} (h : W.cell? ⟨k, j, none⟩ = some v) : IsCells W k := by
  have hlt := World.block_lt_of_cell? _ _ h
  obtain ⟨o, ho⟩ : ∃ o, W.heap[k]? = some o := ⟨W.heap[k], Array.getElem?_eq_getElem hlt⟩
  refine ⟨o, ho, ?_⟩
  cases hc : o.isCells with
  | true => rfl
  | false =>
    rw [cell_none_of ho hc] at h
    cases h
/-- A cell that the body keeps. -/
theorem Keep.cell {Bx : Nat} {W W' : World} (h : Keep Bx W W') {k j : Nat} {v : Value} (hc : W.cell? ⟨k, j, none⟩ = some v) (hn : NotOwn Bx W k) : W'.cell? ⟨k, j, none⟩ = some v :=
  (World.cell?_of_block (w := W) (h.same k (World.block_lt_of_cell? _ _ hc) (isCells_of hc) hn)).trans hc
theorem NotOwn.alloc {Bx k : Nat} {W : World} (h : NotOwn Bx W k) (hB : Bx < W.heap.size) (o : Obj) : NotOwn Bx (W.alloc o) k :=
  ⟨h.1, fun v hv => h.2 v (by rw [← hv]; exact (World.cell?_of_block (w := W) (Below.heap_alloc W o Bx hB)).symm)⟩
end Go.Proofs.YtjdcdakedoljbaaDoor.Mk
