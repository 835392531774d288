/-
  A grain as a key of a map: every grain within a block reads as one, no two as the same.
-/
import Derived.Test.YtcjlijiifhggfaaCvHull
import Derived.DeepKeys4
import Derived.Maps.OwnSet
import Derived.Maps.Views
namespace Go.Proofs.Ytcjlijiifhggfaa.Cv
open Go Go.RowKit Go.Maps

theorem laidOutM : laidOutB Try.prog = true := by kernel_rfl
theorem rowG : (48 : TypeId) < Try.prog.types.size := of_decide_eq_true (by kernel_rfl)
theorem wideG : (match Try.prog.underlying 48 with | some (.array _ _) | some (.struct _) => true | _ => false) = true := by kernel_rfl
set_option maxRecDepth 100000 in
theorem keyedG : Keyed Try.prog 48 := Keyed.of_law (deep_law_laid laidOutM (m := 2) (by omega) rowG (by kernel_rfl) wideG)
theorem cellsG : Try.prog.cellsOf 48 = 3 := by kernel_rfl
theorem cellsI : Try.prog.cellsOf 3 = 1 := by kernel_rfl
theorem keyTypeG : Try.prog.keyType 48 = true := by kernel_rfl
theorem formedG (x y z : Int) : (Value.agg #[.int .i64 x, .int .i64 y, .int .i64 z]).formed Try.prog 48 = true := by
  simp [Value.formed, Try.underlying48, cellsG]
theorem litsI (d : Nat) {n : Int} (h : (Lit.int .i64 n).wf = true) : Try.prog.keyLits (d + 1) 3 [.int .i64 n] = some [.int .i64 n] := by
  simp [Program.keyLits, Try.underlying3, h]
theorem litsG (d : Nat) {x y z : Int} (hx : (Lit.int .i64 x).wf = true) (hy : (Lit.int .i64 y).wf = true) (hz : (Lit.int .i64 z).wf = true) : Try.prog.keyLits (d + 2) 48 [.int .i64 x, .int .i64 y, .int .i64 z] = some [.int .i64 x, .int .i64 y, .int .i64 z] := by
  unfold Program.keyLits
  simp only [Try.underlying48]
  simp [cellsG, cellsI, litsI d hx, litsI d hy, litsI d hz]
def gkey (x y z : Int) : Lit := .string (keyBytes [.int .i64 x, .int .i64 y, .int .i64 z])
theorem key_of {x y z : Int} (hx : (Lit.int .i64 x).wf = true) (hy : (Lit.int .i64 y).wf = true) (hz : (Lit.int .i64 z).wf = true) : keyOf Try.prog 48 (.agg #[.int .i64 x, .int .i64 y, .int .i64 z]) = some (gkey x y z) := by
  unfold keyOf gkey
  obtain ⟨d, hd⟩ : ∃ d, Try.prog.types.size + 1 = d + 2 := ⟨Try.prog.types.size - 1, by have h : (48 : Nat) < Try.prog.types.size := rowG; omega⟩
  rw [hd]
  simp [Try.underlying48, keyTypeG, formedG, litsG d hx hy hz, Value.cells]

/-- A grain whose numbers are ints. -/
def Gr.ok (g : Gr) : Prop := (Lit.int .i64 g.x).wf = true ∧ (Lit.int .i64 g.y).wf = true ∧ (Lit.int .i64 g.z).wf = true
def Gr.key (g : Gr) : Lit := gkey g.x g.y g.z
theorem Gr.ok.key {g : Gr} (h : g.ok) : keyOf Try.prog 48 (.agg #[.int .i64 g.x, .int .i64 g.y, .int .i64 g.z]) = some g.key := key_of h.1 h.2.1 h.2.2
theorem Gr.ok.inj {g g' : Gr} (h : g.ok) (h' : g'.ok) (e : g.key = g'.key) : g = g' := by
  have h2 := h'.key
  rw [← e] at h2
  have := keyedG.inj h.key h2
  obtain ⟨x, y, z⟩ := g
  obtain ⟨x', y', z'⟩ := g'
  simp at this
  obtain ⟨rfl, rfl, rfl⟩ := this
  rfl
theorem key_isKey (g : Gr) : WideAt.IsKeyLit g.key := trivial
theorem ins_ok {s : Nat} {g : Gr} (hs : s ≤ 10) (h : insB s g = true) : g.ok := by
  obtain ⟨⟨a, b⟩, ⟨c, d⟩, e, f⟩ := ins_iff.1 h
  exact ⟨WalkArith.wf_i64 (by omega), WalkArith.wf_i64 (by omega), WalkArith.wf_i64 (by omega)⟩

/-! ### A map that is a set of grains -/
abbrev tru : DataW Unit := .lit (.bool true)
abbrev fls : DataW Unit := .lit (.bool false)
def SM (W : World) (b : Nat) (l : List Gr) : Prop := W.ownsMap Try.prog 48 (plainElem (H := Unit) Try.prog 4) b l.length (Maps.setOf tru (l.map Gr.key))
open Classical in
theorem atKey_fold (k : Lit) (z : DataW Unit) : ∀ (acc : List Lit) (m : DataW Unit), IsMap m → (∀ x ∈ acc, WideAt.IsKeyLit x) → (acc.foldl (fun m x => m.put x tru) m).atKey k z = if k ∈ acc then tru else m.atKey k z
  | [], m, _, _ => by simp
  | x :: xs, m, hm, hk => by
    rw [List.foldl_cons, atKey_fold k z xs _ (hm.put _ _) (fun y hy => hk y (by simp [hy]))]
    by_cases h1 : k ∈ xs
    · rw [if_pos h1, if_pos (by simp [h1])]
    · rw [if_neg h1]
      by_cases h2 : k = x
      · subst h2
        rw [atKey_put_same hm (hk _ (by simp)), if_pos (by simp)]
      · rw [atKey_put_other h2, if_neg (by simp [h1, h2])]
theorem atKey_set {l : List Gr} {g : Gr} (hl : ∀ x ∈ l, x.ok) (hg : g.ok) : (Maps.setOf tru (l.map Gr.key)).atKey g.key fls = if g ∈ l then tru else fls := by
  unfold Maps.setOf
  rw [atKey_fold _ _ _ _ isMap_empty (fun x hx => by obtain ⟨y, -, rfl⟩ := List.mem_map.1 hx; exact key_isKey y)]
  have e : g.key ∈ l.map Gr.key ↔ g ∈ l := by
    constructor
    · intro h
      obtain ⟨y, hy, h2⟩ := List.mem_map.1 h
      rw [← (hl y hy).inj hg h2]
      exact hy
    · intro h
      exact List.mem_map.2 ⟨g, h, rfl⟩
  by_cases hm : g ∈ l
  · rw [if_pos hm, if_pos (e.2 hm)]
  · rw [if_neg hm, if_neg (fun h => hm (e.1 h))]
    rfl
theorem zeroB (w : World) : (zeroValue 4).run Try.prog w = .ok (.bool false) w := by kernel_rfl
set_option maxRecDepth 100000 in
theorem plainB_inv {v : Value} {z : DataW Unit × List MemPlace} (h : plainElem (H := Unit) Try.prog 4 v = some z) : ∃ a, v = .bool a ∧ z = (.lit (.bool a), []) := by
  unfold plainElem at h
  rw [Try.underlying4] at h
  cases v <;> simp at h
  exact ⟨_, rfl, h.symm⟩
theorem SM.made (w : World) : SM (w.alloc (.map #[] 0)) w.heap.size [] := World.ownsMap_made _ _ _ _
theorem SM.kept {w w' : World} {b : Nat} {l : List Gr} {row : Option Nat} (h : SM w b l) (hg : w.grownBy w' row) (hne : some b ≠ row) : SM w' b l := World.ownsMap.kept h hg hne
theorem SM.lt {w : World} {b : Nat} {l : List Gr} (h : SM w b l) : b < w.heap.size := World.ownsMap.lt h
theorem SM.has {W : World} {b : Nat} {l : List Gr} {g : Gr} (h : SM W b l) (hl : ∀ x ∈ l, x.ok) (hg : g.ok) :
    (Instr.lookup 92 (.map (some b)) (.agg #[.int .i64 g.x, .int .i64 g.y, .int .i64 g.z]) false).run Try.prog W = .ok (.bool (decide (g ∈ l))) W := by
  obtain ⟨v, ps, hrun, hv⟩ := World.ownsMap.lookup h keyedG Try.underlying92 (zeroB W) (plainElem_bool Try.underlying4 false) hg.key
  obtain ⟨a, rfl, h2⟩ := plainB_inv hv
  rw [hrun]
  have h3 := congrArg Prod.fst h2
  simp only at h3
  rw [atKey_set hl hg] at h3
  by_cases hm : g ∈ l
  · rw [if_pos hm] at h3
    cases a
    · cases h3
    · rw [decide_eq_true hm]
  · rw [if_neg hm] at h3
    cases a
    · rw [decide_eq_false hm]
    · cases h3
theorem SM.put {W : World} {b : Nat} {l : List Gr} {g : Gr} (h : SM W b l) (hn : l.length < maxLen) (hg : g.ok) :
    ∃ W', (Instr.mapUpdate 92 (.map (some b)) (.agg #[.int .i64 g.x, .int .i64 g.y, .int .i64 g.z]) (.bool true)).run Try.prog W = .ok () W' ∧ SM W' b (l ++ [g]) ∧ W.grownBy W' (some b) := by
  obtain ⟨W', h1, h2, h3⟩ := World.ownsMap.update h keyedG Try.underlying92 hn hg.key (plainElem_bool Try.underlying4 true)
  refine ⟨W', h1, ?_, h3⟩
  unfold SM
  rw [List.map_append, List.map_singleton, setOf_snoc, List.length_append]
  exact h2
end Go.Proofs.Ytcjlijiifhggfaa.Cv
