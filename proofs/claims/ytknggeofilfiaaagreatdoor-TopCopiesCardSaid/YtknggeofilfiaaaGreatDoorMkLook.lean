/-
  LOOK-UPS in the map that values makes; firstClash.
-/
import Derived.Test.YtknggeofilfiaaaGreatDoorMkVals
import Derived.Maps.Views
namespace Go.Proofs.YtknggeofilfiaaaGreatDoor.Mk
open Go Go.RowKit Go.Maps

theorem keyL_inj {a b : ByteArray} (h : keyL a = keyL b) : a = b := by
  unfold keyL at h
  injection h with h
  apply ByteArray.ext
  exact Array.ext' h
theorem litD_inj {a b : ByteArray} (h : litD a = litD b) : a = b := by
  unfold litD at h
  injection h with h
  injection h with h
  apply ByteArray.ext
  exact Array.ext' h
/-- The value of a key: of several fields with it, the last one's. -/
def lookOn (k : ByteArray) : Option ByteArray → List FB → Option ByteArray
  | acc, [] => acc
  | acc, f :: L => lookOn k (if f.1 = k then some f.2 else acc) L
def lookL (L : List FB) (k : ByteArray) : Option ByteArray := lookOn k none L
def pick (o : Option ByteArray) (z : DataW Unit) : DataW Unit := match o with
  | none => z
  | some v => litD v
theorem isKey (s : ByteArray) : WideAt.IsKeyLit (keyL s) := by
  unfold keyL
  trivial
theorem vals_at (k : ByteArray) : ∀ (L : List FB) (D : DataW Unit) (acc : Option ByteArray), IsMap D → (∀ z, D.atKey (keyL k) z = pick acc z) →
    ∀ z, (L.foldl (fun D f => D.put (keyL f.1) (litD f.2)) D).atKey (keyL k) z = pick (lookOn k acc L) z
  | [], _, _, _, h => h
  | f :: L, D, acc, hD, h => by
    refine vals_at k L (D.put (keyL f.1) (litD f.2)) _ (hD.put _ _) fun z => ?_
    by_cases e : f.1 = k
    · rw [if_pos e, e, atKey_put_same hD (isKey k)]
      rfl
    · rw [if_neg e, atKey_put_other (fun h2 => e (keyL_inj h2).symm)]
      exact h z
theorem vals_look (L : List FB) (k : ByteArray) (z : DataW Unit) : (vals L).atKey (keyL k) z = pick (lookL L k) z :=
  vals_at k L (.map []) none isMap_empty (fun _ => rfl) z
theorem zeroStr (w : World) : (zeroValue 9).run Tryz.prog w = .ok (.string ⟨#[]⟩) w := by kernel_rfl
def found (o : Option ByteArray) : Value := match o with
  | none => .tuple #[.string ⟨#[]⟩, .bool false]
  | some v => .tuple #[.string v, .bool true]
theorem look_any {w : World} {B n : Nat} {L : List FB} (h : MapOf w B n (vals L)) (k : ByteArray) (hk : k.size ≤ maxLen) :
    (Instr.lookup 54 (.map (some B)) (.string k) true).run Tryz.prog w = .ok (found (lookL L k)) w := by
  obtain ⟨es, clock, hb, F, hn, hD⟩ := h.own
  have hat := vals_look L k
  rw [hD] at hat
  rcases fit_look true keyed Tryz.underlying54 (zeroStr w) hb F (WideMaps.keyOf_string_mk Tryz.underlying9 hk) with ⟨h1, _, h3⟩ | ⟨e0, y, _, _, h1, h2, h3, _⟩
  · rw [h1]
    have h4 := (h3 .nil).symm.trans (hat .nil)
    cases hl : lookL L k with
    | none => rfl
    | some v => rw [hl] at h4; cases h4
  · rw [h1]
    obtain ⟨s, hs1, hs2, _⟩ := plainElem_string_inv Tryz.underlying9 h2
    have h4 := (h3 .nil).symm.trans (hat .nil)
    rw [hs2] at h4
    cases hl : lookL L k with
    | none => rw [hl] at h4; cases h4
    | some v =>
      rw [hl] at h4
      have e : s = v := litD_inj h4
      rw [hs1, e]
      rfl
end Go.Proofs.YtknggeofilfiaaaGreatDoor.Mk
