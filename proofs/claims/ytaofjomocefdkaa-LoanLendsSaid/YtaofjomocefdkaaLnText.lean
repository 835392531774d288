/-
  WALKS (layer 9, loan): a map of texts to texts of the call's own.
-/
import Derived.Test.YtaofjomocefdkaaLnCal
import Derived.Maps.StringElems
namespace Go.Proofs.Ytaofjomocefdkaa.Ln
open Go Go.RowKit Go.ChangeMaps Go.MapKept Go.ChangeShapes Go.Maps

/-- Block b is a map of texts: what it says of each text. -/
def TM (W : World) (b n : Nat) (f : ByteArray → ByteArray) : Prop :=
  ∃ D : DataW Unit, W.ownsMap Try.prog 9 (plainElem Try.prog 9) b n D ∧ ∀ s : ByteArray, s.size ≤ maxLen → D.atKey (.string s.data.toList) (.lit (.string [])) = .lit (.string (f s).data.toList)
theorem zeroT (w : World) : (zeroValue 9).run Try.prog w = .ok (.string ⟨#[]⟩) w := by kernel_rfl
theorem TM.made (w : World) : TM (w.alloc (.map #[] 0)) w.heap.size 0 (fun _ => ⟨#[]⟩) := ⟨_, World.ownsMap_made _ _ _ _, fun _ _ => rfl⟩
theorem TM.kept {w w' : World} {b n : Nat} {f : ByteArray → ByteArray} {row : Option Nat} (h : TM w b n f) (hg : w.grownBy w' row) (hne : some b ≠ row) : TM w' b n f := by
  obtain ⟨D, h1, h2⟩ := h
  exact ⟨D, h1.kept hg hne, h2⟩
theorem TM.on {w w' : World} {b n : Nat} {f : ByteArray → ByteArray} (h : TM w b n f) (hb : Below w.heap.size w w') : TM w' b n f := h.kept (grown_below hb none) (by simp)
theorem TM.lt {w : World} {b n : Nat} {f : ByteArray → ByteArray} (h : TM w b n f) : b < w.heap.size := by
  obtain ⟨D, h1, -⟩ := h
  exact h1.lt
theorem TM.at {W : World} {b n : Nat} {f : ByteArray → ByteArray} {s : ByteArray} (h : TM W b n f) (hs : s.size ≤ maxLen) :
    (Instr.lookup 39 (.map (some b)) (.string s) false).run Try.prog W = .ok (.string (f s)) W := by
  obtain ⟨D, h1, h2⟩ := h
  obtain ⟨v, ps, hrun, hv⟩ := World.ownsMap.lookup h1 keyedS Try.underlying39 (zeroT W) (plainElem_string Try.underlying9 (s := ⟨#[]⟩) (by unfold maxLen; decide)) (Go.WideMaps.keyOf_string_mk Try.underlying9 hs)
  obtain ⟨t, rfl, h3⟩ := plainElem_string_inv Try.underlying9 hv
  rw [hrun]
  have h4 := congrArg Prod.fst h3.1
  simp only at h4
  have h5 : (DataW.lit (.string (f s).data.toList) : DataW Unit) = .lit (.string t.data.toList) := (h2 s hs).symm.trans h4
  have h6 : (f s).data.toList = t.data.toList := by simpa using h5
  have : f s = t := ByteArray.ext (Array.ext' h6)
  rw [this]
theorem TM.put {W : World} {b n : Nat} {f : ByteArray → ByteArray} {s t : ByteArray} (h : TM W b n f) (hn : n < maxLen) (hs : s.size ≤ maxLen) (ht : t.size ≤ maxLen) :
    ∃ W', (Instr.mapUpdate 39 (.map (some b)) (.string s) (.string t)).run Try.prog W = .ok () W' ∧ TM W' b (n + 1) (fun u => if u = s then t else f u) ∧ W.grownBy W' (some b) := by
  obtain ⟨D, h1, h2⟩ := h
  have hk : keyOf Try.prog 9 (.string s) = some (.string s.data.toList) := Go.WideMaps.keyOf_string_mk Try.underlying9 hs
  obtain ⟨W', r1, r2, r3⟩ := World.ownsMap.update h1 keyedS Try.underlying39 hn hk (plainElem_string Try.underlying9 ht)
  refine ⟨W', r1, ⟨_, r2, fun u hu => ?_⟩, r3⟩
  show _ = DataW.lit (Lit.string (if u = s then t else f u).data.toList)
  by_cases e : u = s
  · subst e
    rw [if_pos rfl]
    exact atKey_put_same h1.isMap (keyedS.key hk) _ _
  · rw [if_neg e, atKey_put_other (fun h => e (ByteArray.ext (Array.ext' (by simpa using h))))]
    exact h2 u hu
end Go.Proofs.Ytaofjomocefdkaa.Ln
