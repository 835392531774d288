/-
  A range over a function, whose loop variables may be boxed and whose body may return or jump out; the function ranged over may keep some blocks of cells of its own, the first that it lays, and range over functions itself.
-/
import Derived.RangeFuncNested
import Derived.RangeFuncBound
import Derived.RangeFuncCalls
import Derived.RangeFuncLeaves
import Derived.Shelf.Abstract
import Derived.WalkKit
import Derived.OwnWalkIn
import Derived.TacticsInMore
import Derived.LoopNIn
import Derived.LoopIn
namespace Go.Proofs.Ythkamfjjfkpekaa.Pe
open Go Go.RowKit

variable {F : Fence} {n : Nat} {P : Program} {E : Type}

theorem keeps_more {B C : Nat} {X Y : World} (h : KeepsFrom B X Y) (hC : B ≤ C) : KeepsFrom C X Y := ⟨h.size, fun k o hk => h.same k o (Nat.le_trans hC hk)⟩
theorem keeps_put {B l : Nat} {A : World} {o' : Obj} (hl : l < B) : KeepsFrom B A (A.putObj l o') := ⟨by simp, fun k _ hk ho _ => (World.putObj_heap_other (by omega)).trans ho⟩
/-- How a round is left: it goes on, or it returns. -/
def RoundEnd (Kp : World → World → Prop) (B : Nat) (I : List E → World → Prop) (Ix : Code → List E → World → Prop) (xs : List E) (W : World) : Exit → Act → World → Prop
  | .normal, _, W' => KeepsFrom B W W' ∧ Kp W W' ∧ I xs W'
  | .ret, _, W' => KeepsFrom B W W' ∧ Ix .ret xs W'
  | .exit id, _, W' => KeepsFrom B W W' ∧ Ix (.exit id) xs W'
  | _, _, _ => False
/-- It abides new blocks, a turn of the first blocks from B on, and a turn of a block from B on that is without cells. -/
def Turns (k : Nat) (B : Nat) (I : World → Prop) : Prop :=
  ∀ X Y row, I X → X.grownBy Y row → (∀ r, row = some r → B ≤ r ∧ (r < B + k ∨ ∃ o : Obj, X.heap[r]? = some o ∧ o.isCells = false)) → I Y
/-- The elements come in their order, whatever the rounds do that keep Kp, till a round says no more; of cells the function turns at most the block that it lays first. -/
def YieldsS (k : Nat) (enc : E → Array Value) (F : Fence) (n : Nat) (P : Program) (g : Nat) (lb : Array Value) (Kp : Nat → World → World → Prop) (xs : List E) (w : World) : Prop :=
  ∀ (l : Nat) (J Jx : List E → World → Prop) (W : World), Below w.heap.size w W → W.heap.size = w.heap.size + 2 →
    (∀ s, Turns k W.heap.size (J s)) →
    (∀ s, Turns k W.heap.size (Jx s)) →
    (∀ (pre : List E) (x : E) (W1 : World), J pre W1 → (pre ++ [x]) <+: xs → W.heap.size + k ≤ W1.heap.size →
      YieldAt F (n - 1) P l (enc x) W1 fun e W' => (e = .returned (.bool true) ∧ J (pre ++ [x]) W' ∧ Kp W.heap.size W1 W') ∨ (e = .returned (.bool false) ∧ Jx (pre ++ [x]) W' ∧ KeepsFrom W.heap.size W1 W')) →
    J [] W →
    CallsIn F n P g (#[.func (.yield l) #[] #[]] ++ lb) W fun e W' => (∃ v, e = .returned v) ∧ (J xs W' ∨ ∃ ys, ys <+: xs ∧ Jx ys W')
/-- What an invariant abides that a loop keeps: new blocks, a turn of the function's own first blocks, a turn of a block without cells. -/
def Abides (k : Nat) (B : Nat) (I : World → Prop) : Prop :=
  ∀ X Y row, I X → X.grownBy Y row → (∀ r, row = some r → B ≤ r ∧ ((B + 2 ≤ r ∧ r < B + 2 + k) ∨ ∃ o : Obj, X.heap[r]? = some o ∧ o.isCells = false)) → I Y
theorem Turns.abides {B C : Nat} {I : World → Prop} (h : Turns 0 C I) (hB : C ≤ B) : Abides 0 B I := fun X Y row hX hg hr =>
  h X Y row hX hg fun r e => by
    obtain ⟨h1, h2⟩ := hr r e
    exact ⟨by omega, .inr (by rcases h2 with h2 | h2; omega; exact h2)⟩
set_option maxHeartbeats 1000000 in
theorem wpIn_yieldsS {k : Nat} {enc : E → Array Value} {g : Operand} {ps : Array Tmp} {assign body : Code} {Q : Exit → Act → World → Prop} {a : Act} {w : World}
    (hro : F.round = none) (h1 : 1 ≤ n) {gf : Nat} {lb : Array Value} (hg : a.eval g = .func (.func gf) #[] lb) (hFg : F.fn gf) (eg : ∀ args w, (callFunc gf args).run P w = .ok (.enter gf args) w)
    (henc : ∀ x, (enc x).size = ps.size)
    {Kp : Nat → World → World → Prop} {xs : List E} (hy : YieldsS k enc F (n - 1) P gf lb Kp xs w)
    (hKt : ∀ {A B C : World}, Kp (w.heap.size + 2) A B → Kp (w.heap.size + 2) B C → Kp (w.heap.size + 2) A C) (hKb : ∀ (W : World) (o o' : Obj), W.heap[w.heap.size + 1]? = some o → o.isCells = false → o'.isCells = false → Kp (w.heap.size + 2) W (W.putObj (w.heap.size + 1) o'))
    (I : List E → World → Prop) (Ix : Code → List E → World → Prop) (hI : ∀ s, Abides k w.heap.size (I s)) (hIx : ∀ c s, Abides k w.heap.size (Ix c s)) (h0 : I [] w)
    (Ax : List E → E → Act → World → Prop) (hAx : ∀ pre x a', Abides k w.heap.size (Ax pre x a'))
    (hassign : ∀ (l : Nat) (pre : List E) (x : E) (W : World), I pre W → (pre ++ [x]) <+: xs → w.heap.size + 2 + k ≤ W.heap.size →
      assign.wpIn (F.inRound l) (n - 1 - 1) P (Exit.then (fun a' W' => KeepsFrom w.heap.size W W' ∧ Kp (w.heap.size + 2) W W' ∧ Ax pre x a' W') (fun _ _ _ => False)) { tmps := (ps.zip (enc x)).foldl (fun tmps (q : Tmp × Value) => tmps.setIfInBounds q.1 q.2) a.tmps, defers := [] } W)
    (hbody : ∀ (l : Nat) (pre : List E) (x : E) (a' : Act) (W : World), Ax pre x a' W → (pre ++ [x]) <+: xs → w.heap.size + 2 + k ≤ W.heap.size → body.wpIn (F.inRound l) (n - 1 - 1) P (RoundEnd (Kp (w.heap.size + 2)) w.heap.size I Ix (pre ++ [x]) W) a' W)
    (hdone : ∀ (D : Nat) (W : World), w.heap.size ≤ D → I xs W → W.heap[D]? = some (.deferred (some [])) → Q .normal { a with defers := { target := .collected D, args := #[] } :: a.defers } W)
    (hstop : ∀ (D : Nat) (c : Code) (ys : List E) (W : World), w.heap.size ≤ D → ys <+: xs → Ix c ys W → W.heap[D]? = some (.deferred (some [])) → c.wpIn F n P Q { a with defers := { target := .collected D, args := #[] } :: a.defers } W) :
    (Code.rangeFunc g ps assign body).wpIn F n P Q a w := by
  refine wpIn_rangeFunc ?_
  intro fn hfn
  rw [hro]
  obtain ⟨rc, hrc⟩ : ∃ rc : LoopState → Option Code → Loop, rc = fun st pe => { state := st, pending := pe, fn, tmps := a.tmps, params := ps, assign, body, defers := w.heap.size } := ⟨_, rfl⟩
  have e0 : ({ state := .ready, pending := none, fn, tmps := a.tmps, params := ps, assign, body, defers := w.heap.size } : Loop) = rc .ready none := by rw [hrc]
  have hpar : ∀ st pe, (rc st pe).params = ps := fun st pe => by rw [hrc]
  have hstate : ∀ st pe, (rc st pe).state = st := fun st pe => by rw [hrc]
  have hpend : ∀ st pe, (rc st pe).pending = pe := fun st pe => by rw [hrc]
  have hset : ∀ st st' pe, ({ rc st pe with state := st' } : Loop) = rc st' pe := fun st st' pe => by rw [hrc]
  have hset2 : ∀ st st' pe pe', ({ rc st pe with state := st', pending := pe' } : Loop) = rc st' pe' := fun st st' pe pe' => by rw [hrc]
  have hwf : ∀ st pe, (rc st pe).fn = fn ∧ (rc st pe).tmps = a.tmps ∧ (rc st pe).assign = assign ∧ (rc st pe).body = body := fun st pe => by rw [hrc]; exact ⟨rfl, rfl, rfl, rfl⟩
  obtain ⟨W1, hW1⟩ : ∃ W1, (w.alloc (.deferred (some []))).alloc (.loop (rc .ready none)) = W1 := ⟨_, rfl⟩
  have hz1 : W1.heap.size = w.heap.size + 2 := by rw [← hW1]; simp
  have hL1 : W1.heap[w.heap.size + 1]? = some (.loop (rc .ready none)) := by
    rw [← hW1]
    have := World.alloc_heap_new (w.alloc (.deferred (some []))) (.loop (rc .ready none))
    rwa [World.size_alloc] at this
  have hD1 : W1.heap[w.heap.size]? = some (.deferred (some [])) := by
    rw [← hW1]
    exact (Below.heap_alloc _ _ _ (by simp)).trans (World.alloc_heap_new w _)
  have hb1 : Below w.heap.size w W1 := by
    rw [← hW1]
    exact ((Below.refl _ w).alloc (Nat.le_refl _) _).alloc (by simp) _
  have hI1 : I [] W1 := by
    rw [← hW1]
    exact hI _ _ _ none (hI _ _ _ none h0 (World.grownBy_alloc _ _ none) (fun r e => by cases e)) (World.grownBy_alloc _ _ none) (fun r e => by cases e)
  have hput : ∀ {T : World → Prop} (_ : Abides k w.heap.size T) (A : World) (l : Nat) (o o' : Obj), w.heap.size ≤ l → T A → A.heap[l]? = some o → o.isCells = false → T (A.putObj l o') := fun hT A l o o' hl hs ho hc =>
    hT A _ (some l) hs (grownBy_putObj' A l o') (fun r e => by cases e; exact ⟨hl, .inr ⟨o, ho, hc⟩⟩)
  refine ⟨w.heap.size + 1, [{ target := .collected w.heap.size, args := #[] }], W1, { target := .fn (.func gf) lb, args := #[.func (.yield (w.heap.size + 1)) #[] #[]] }, W1, gf,
    #[.func (.yield (w.heap.size + 1)) #[] #[]] ++ lb, W1, ?_, ?_, ?_, ?_, fun _ => h1, ?_⟩
  · rw [run_enterLoop_outer, e0, hW1]
  · simp only [resolve, hg]
    simp [go_sem]
  · intro f' hf'
    simp [Target.leads] at hf'
    subst hf'
    exact hFg
  · simp [invoke, go_sem, eg]
  · have stab : ∀ (T : List E → World → Prop) (_ : ∀ s, Abides k w.heap.size (T s)) (st : LoopState) (pe : Option Code) (s : List E) (A B : World) (row : Option Nat), (T s A ∧ A.heap[w.heap.size + 1]? = some (.loop (rc st pe)) ∧ A.heap[w.heap.size]? = some (.deferred (some []))) → A.grownBy B row → (∀ r, row = some r → W1.heap.size ≤ r ∧ (r < W1.heap.size + k ∨ ∃ o : Obj, A.heap[r]? = some o ∧ o.isCells = false)) →
        (T s B ∧ B.heap[w.heap.size + 1]? = some (.loop (rc st pe)) ∧ B.heap[w.heap.size]? = some (.deferred (some []))) := by
      rintro T hT st pe s A B row ⟨hi, hl, hd⟩ hg' hr
      have hne : ∀ k, k ≤ w.heap.size + 1 → some k ≠ row := fun k hk e => by
        have := hr k e.symm
        omega
      have hlt := (Array.getElem?_eq_some_iff.1 hl).1
      exact ⟨hT s A B row hi hg' (fun r e => by have := hr r e; exact ⟨by omega, this.2.imp (fun h => ⟨by omega, by omega⟩) id⟩), (hg'.block _ hlt (hne _ (Nat.le_refl _))).trans hl, (hg'.block _ (by omega) (hne _ (by omega))).trans hd⟩
    refine (hy (w.heap.size + 1) (fun pre W => I pre W ∧ W.heap[w.heap.size + 1]? = some (.loop (rc .ready none)) ∧ W.heap[w.heap.size]? = some (.deferred (some [])))
      (fun pre W => ∃ c, Ix c pre W ∧ W.heap[w.heap.size + 1]? = some (.loop (rc .done (some c))) ∧ W.heap[w.heap.size]? = some (.deferred (some []))) W1 hb1 hz1 (stab I hI .ready none) (fun s A B row h hg' hr => by obtain ⟨c, h⟩ := h; exact ⟨c, stab (Ix c) (hIx c) .done (some c) s A B row h hg' hr⟩) ?_ ⟨hI1, hL1, hD1⟩).mono ?_
    · rintro pre x W ⟨hi, hl, hd⟩ hpre hown
      have hlt : w.heap.size + 1 < W.heap.size := (Array.getElem?_eq_some_iff.1 hl).1
      have hyy := run_yield (P := P) (args := enc x) hl (by rw [hpar]; exact henc x)
      rw [hpar, (hwf _ _).1, (hwf _ _).2.1, (hwf _ _).2.2.1, (hwf _ _).2.2.2] at hyy
      refine ⟨fn, _, assign, body, hyy, roundIn_of_wpIn hfn ?_⟩
      refine wpIn_mono (hassign _ pre x W hi hpre (by omega)) ?_
      rintro e a' Wa hA
      cases e with
      | normal =>
        obtain ⟨hka, hkp, hax⟩ := hA
        have hla := hka.same _ _ (by omega) hl rfl
        have hda := hka.same _ _ (Nat.le_refl _) hd rfl
        have hlta : w.heap.size + 1 < Wa.heap.size := (Array.getElem?_eq_some_iff.1 hla).1
        refine ⟨_, run_beginRound hla (hstate _ _), ?_⟩
        rw [hset]
        obtain ⟨W2, hW2⟩ : ∃ W2, Wa.putObj (w.heap.size + 1) (.loop (rc .busy none)) = W2 := ⟨_, rfl⟩
        have hl2 : W2.heap[w.heap.size + 1]? = some (.loop (rc .busy none)) := by rw [← hW2]; exact World.putObj_heap_same hlta
        have hd2 : W2.heap[w.heap.size]? = some (.deferred (some [])) := by rw [← hW2]; exact (World.putObj_heap_other (by omega)).trans hda
        have hax2 : Ax pre x a' W2 := by rw [← hW2]; exact hput (hAx pre x a') _ _ _ _ (by omega) hax hla rfl
        have hk2 : Kp (w.heap.size + 2) W W2 := by rw [← hW2]; exact hKt hkp (hKb _ _ _ hla rfl rfl)
        have hs2 : w.heap.size + 2 + k ≤ W2.heap.size := by have := hka.size; rw [← hW2]; simp; omega
        have hkf2 : KeepsFrom (w.heap.size + 2) W W2 := by rw [← hW2]; exact (keeps_more hka (by omega)).trans (keeps_put (by omega))
        rw [hW2]
        refine wpIn_mono (hbody _ pre x a' W2 hax2 hpre hs2) ?_
        rintro e a3 W3 hp
        cases e with
        | normal =>
          obtain ⟨hkf, hk3, hi3⟩ := hp
          have hl3 := hkf.same _ _ (by omega) hl2 rfl
          have hd3 := hkf.same _ _ (Nat.le_refl _) hd2 rfl
          have her := run_endRound (P := P) none hl3
          simp only [Option.isNone_none, if_true] at her
          rw [hset2] at her
          refine ⟨_, _, her, .inl ⟨rfl, ⟨hput (hI _) _ _ _ _ (by omega) hi3 hl3 rfl, World.putObj_heap_same (Array.getElem?_eq_some_iff.1 hl3).1, (World.putObj_heap_other (by omega)).trans hd3⟩, ?_⟩⟩
          rw [hz1]
          exact hKt (hKt hk2 hk3) (hKb _ _ _ hl3 rfl rfl)
        | ret =>
          obtain ⟨hkf, hi3⟩ := hp
          have hl3 := hkf.same _ _ (by omega) hl2 rfl
          have hd3 := hkf.same _ _ (Nat.le_refl _) hd2 rfl
          have her := run_endRound (P := P) (some .ret) hl3
          simp only [Option.isNone_some, Bool.false_eq_true, if_false] at her
          rw [hset2] at her
          exact ⟨_, _, her, .inr ⟨rfl, ⟨.ret, hput (hIx _ _) _ _ _ _ (by omega) hi3 hl3 rfl, World.putObj_heap_same (Array.getElem?_eq_some_iff.1 hl3).1, (World.putObj_heap_other (by omega)).trans hd3⟩, by rw [hz1]; exact (hkf2.trans (keeps_more hkf (by omega))).trans (keeps_put (by omega))⟩⟩
        | exit id =>
          obtain ⟨hkf, hi3⟩ := hp
          have hl3 := hkf.same _ _ (by omega) hl2 rfl
          have hd3 := hkf.same _ _ (Nat.le_refl _) hd2 rfl
          have her := run_endRound (P := P) (some (.exit id)) hl3
          simp only [Option.isNone_some, Bool.false_eq_true, if_false] at her
          rw [hset2] at her
          exact ⟨_, _, her, .inr ⟨rfl, ⟨.exit id, hput (hIx _ _) _ _ _ _ (by omega) hi3 hl3 rfl, World.putObj_heap_same (Array.getElem?_eq_some_iff.1 hl3).1, (World.putObj_heap_other (by omega)).trans hd3⟩, by rw [hz1]; exact (hkf2.trans (keeps_more hkf (by omega))).trans (keeps_put (by omega))⟩⟩
        | goto t => exact hp.elim
        | panic ch => exact hp.elim
        | outgrown => exact hp.elim
      | ret => exact hA.elim
      | exit id => exact hA.elim
      | goto t => exact hA.elim
      | panic ch => exact hA.elim
      | outgrown => exact hA.elim
    · rintro e W2 ⟨⟨v, rfl⟩, h⟩
      rcases h with ⟨hi, hl, hd⟩ | ⟨ys, hys, c, hi, hl, hd⟩
      · refine ⟨none, _, ?_, hdone w.heap.size _ (Nat.le_refl _) (hput (hI _) _ _ _ (.loop (rc .exhausted none)) (by omega) hi hl rfl) ((World.putObj_heap_other (by omega)).trans hd)⟩
        have := run_endLoop (P := P) hl (by rw [hstate]; simp)
        rw [hset, hpend] at this
        exact this
      · refine ⟨some c, _, ?_, hstop w.heap.size c ys _ (Nat.le_refl _) hys (hput (hIx _ _) _ _ _ (.loop (rc .exhausted (some c))) (by omega) hi hl rfl) ((World.putObj_heap_other (by omega)).trans hd)⟩
        have := run_endLoop (P := P) hl (by rw [hstate]; simp)
        rw [hset, hpend] at this
        exact this
/-- What an iterator asks of a round: some blocks lie as they lay; from n on so do those that are no cells, and the first m of cells. -/
structure Keep (S : Nat → Prop) (m n : Nat) (A B : World) : Prop where
  size : A.heap.size ≤ B.heap.size
  same : ∀ k, S k → B.heap[k]? = A.heap[k]?
  loops : ∀ k o, n ≤ k → A.heap[k]? = some o → o.isCells = false → B.heap[k]? = some o
  own : ∀ k o, n ≤ k → k < n + m → A.heap[k]? = some o → B.heap[k]? = some o
theorem Keep.refl (S : Nat → Prop) (m n : Nat) (A : World) : Keep S m n A A := ⟨Nat.le_refl _, fun _ _ => rfl, fun _ _ _ h _ => h, fun _ _ _ _ h => h⟩
theorem Keep.trans {S : Nat → Prop} {m n : Nat} {A B C : World} (h : Keep S m n A B) (k : Keep S m n B C) : Keep S m n A C :=
  ⟨Nat.le_trans h.size k.size, fun j hj => (k.same j hj).trans (h.same j hj), fun j o hj ho hc => k.loops j o hj (h.loops j o hj ho hc) hc, fun j o hj hm ho => k.own j o hj hm (h.own j o hj hm ho)⟩
/-- A turn of one block ahead of n, not one of those that must lie. -/
theorem Keep.of_grown {S : Nat → Prop} {m n : Nat} {A B : World} {row : Option Nat} (h : A.grownBy B row) (hA : ∀ k, S k → k < A.heap.size) (hr : ∀ r, row = some r → r < n ∧ ¬ S r) : Keep S m n A B :=
  have hb : ∀ k o, n ≤ k → A.heap[k]? = some o → B.heap[k]? = some o := fun k _ hk ho => (h.block k (Array.getElem?_eq_some_iff.1 ho).1 (fun e => by have := (hr k e.symm).1; omega)).trans ho
  ⟨h.size, fun k hk => h.block k (hA k hk) (fun e => (hr k e.symm).2 hk), fun k o hk ho _ => hb k o hk ho, fun k o hk _ ho => hb k o hk ho⟩
theorem Keep.putObj {S : Nat → Prop} {m n : Nat} {W : World} {l : Nat} {o' : Obj} (hl : l < n) (hS : ¬ S l) : Keep S m n W (W.putObj l o') :=
  ⟨by simp, fun k hk => World.putObj_heap_other (fun e => hS (e ▸ hk)), fun k p hk hp _ => (World.putObj_heap_other (by omega)).trans hp, fun k p hk _ hp => (World.putObj_heap_other (by omega)).trans hp⟩
theorem Keep.from {S : Nat → Prop} {m n : Nat} {A B : World} (h : Keep S m n A B) : KeepsFrom n A B := ⟨h.size, h.loops⟩
theorem Keep.weaken {S T : Nat → Prop} {m n p q : Nat} {A B : World} (h : Keep S m n A B) (hT : ∀ k, T k → S k ∨ (n ≤ k ∧ k < n + m ∧ k < A.heap.size)) (hn : n ≤ q) (hp : q + p ≤ n + m ∨ p = 0) : Keep T p q A B :=
  ⟨h.size, fun k hk => by
    rcases hT k hk with h1 | ⟨h1, h2, h3⟩
    · exact h.same k h1
    · have ha : A.heap[k]? = some A.heap[k] := Array.getElem?_eq_getElem h3
      rw [h.own k _ h1 h2 ha, ha], fun k o hk ho hc => h.loops k o (by omega) ho hc, fun k o hk hm ho => h.own k o (by omega) (by omega) ho⟩
end Go.Proofs.Ythkamfjjfkpekaa.Pe
