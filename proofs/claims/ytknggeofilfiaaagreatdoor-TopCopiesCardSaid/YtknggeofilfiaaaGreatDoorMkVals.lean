/-
  THE WALK of values: a label's values by their keys, in a map of the call's own.
-/
import Derived.Test.YtknggeofilfiaaaGreatDoorMkLabB
import Derived.Maps.Own
import Derived.Maps.StringElems
import Derived.StringKeys
namespace Go.Proofs.YtknggeofilfiaaaGreatDoor.Mk
open Go Go.RowKit Go.Maps

theorem made_hint (n : Int) (w : World) : (Instr.makeMap 54 (some (.int .i64 n))).run Tryz.prog w = .ok (.map (some w.heap.size)) (w.alloc (.map #[] 0)) := by
  simp [Instr.makeMap, run_underlying Tryz.underlying54]
  rfl
theorem keyed : Keyed Tryz.prog 9 := string_keyed Tryz.underlying9
def keyL (s : ByteArray) : Lit := .string s.data.toList
def litD (s : ByteArray) : DataW Unit := .lit (.string s.data.toList)
/-- The values by their keys, after the first fields. -/
def vals (L : List FB) : DataW Unit := L.foldl (fun D f => D.put (keyL f.1) (litD f.2)) (.map [])
theorem vals_snoc (L : List FB) (f : FB) : vals (L ++ [f]) = (vals L).put (keyL f.1) (litD f.2) := by
  unfold vals
  rw [List.foldl_append]
  rfl
/-- A map of the call's own that holds the values of a label. -/
structure MapOf (w : World) (B n : Nat) (D : DataW Unit) : Prop where
  own : w.ownsMap Tryz.prog 9 (plainElem Tryz.prog 9) B n D
theorem take_next {L : List FB} {k : Nat} {f : FB} (hf : L[k]? = some f) : L.take (k + 1) = L.take k ++ [f] := by
  obtain ⟨h, e⟩ := List.getElem?_eq_some_iff.1 hf
  rw [List.take_succ_eq_append_getElem h, e]
set_option maxHeartbeats 400000 in
theorem values_any (v : Value) (L : List FB) (w : World) (h : RL w v L) (hs : Kq (∀ f ∈ L, f.1.size ≤ maxLen ∧ f.2.size ≤ maxLen)) (hn : L.length ≤ 1000000) :
    Calls Tryz.prog 21 #[v] w fun e w' => (∃ B, e = .returned (.map (some B)) ∧ w.heap.size ≤ B ∧ MapOf w' B L.length (vals L)) ∧ Below w.heap.size w w' := by
  obtain ⟨g, cap, rfl, hc⟩ := h
  have HC := Lib.hid hc
  clear hc
  have hmm := made_hint
  go_enter Tryz.func21, Tryz.ntmps21
  go_wp2
  clear hmm
  go_loopw [11] (fun i wr => ∃ k : Nat, k ≤ L.length ∧ i = .int .i64 (k : Int) ∧ MapOf wr w.heap.size k (vals (L.take k)) ∧ Below w.heap.size w wr) (fun i _ => L.length - (intOf i).toNat)
  case atStart => exact ⟨0, Nat.zero_le _, rfl, ⟨World.ownsMap_made _ _ _ _⟩, (Below.refl _ w).alloc (Nat.le_refl _) _⟩
  case round =>
    obtain ⟨k, hk, rfl, hown, hb⟩ := hrel
    have HB := Lib.hid hb
    have hz := hb.size
    clear hb
    by_cases hlt : k < L.length
    · obtain ⟨f, hf⟩ : ∃ f, L[k]? = some f := ⟨L[k], List.getElem?_eq_getElem hlt⟩
      obtain ⟨b, o, hg, hbl, hb1, hb2⟩ := HC.out k f hf
      subst hg
      have c1 : wr.cell? ⟨b, o + k * 2, none⟩ = some (.string f.1) := (HB.out.cell (p := ⟨b, _, none⟩) hbl).trans hb1
      have c2 : wr.cell? ⟨b, o + k * 2 + 1, none⟩ = some (.string f.2) := (HB.out.cell (p := ⟨b, _, none⟩) hbl).trans hb2
      have hsz := hs.out f (List.mem_of_getElem? hf)
      have HT : Kq (vals (L.take (k + 1)) = (vals (L.take k)).put (keyL f.1) (litD f.2)) := ⟨by rw [take_next hf, vals_snoc]⟩
      have hkey : Kq (keyOf Tryz.prog 9 (.string f.1) = some (keyL f.1)) := ⟨WideMaps.keyOf_string_mk Tryz.underlying9 hsz.1⟩
      have hval : Kq (plainElem Tryz.prog 9 (.string f.2) = some (litD f.2, [])) := ⟨plainElem_string Tryz.underlying9 hsz.2⟩
      have hkm : k < maxLen := by unfold maxLen; omega
      have hown2 := hown.own.alloc (Obj.cells #[Value.string f.1, Value.string f.2] 27)
      clear hb1 hb2 hf hsz hown
      go_wp2_with (at_mapUpdate; refine wpList_mapUpdate_own _ rfl _ _ _ 54 rfl 9 9 keyed Tryz.underlying54 (plainElem Tryz.prog 9) w.heap.size k _ rfl hown2 hkm _ _ (keyL f.1) rfl rfl hkey.out (litD f.2) [] hval.out ?_; intro w1 hown1 hgrow1)
      have HB1 : Below w.heap.size w w1 := (HB.out.alloc hz _).grown hgrow1 (by simp; omega) (fun j e => by cases e; exact Nat.le_refl _)
      have HM1 : MapOf w1 w.heap.size (k + 1) (vals (L.take (k + 1))) := ⟨by rw [HT.out]; exact hown1⟩
      clear hown1 hgrow1 hown2
      go_wp2
      go_roundw
      case rel => exact ⟨k + 1, by omega, by go_num, HM1, HB1⟩
      case measure => simp [intOf]; omega
    · have hkl : k = L.length := by omega
      have hfin : MapOf wr w.heap.size L.length (vals L) := by
        rw [hkl, List.take_of_length_le (Nat.le_refl _)] at hown
        exact hown
      clear hkl hown
      go_wp2
      go_ret
      exact ⟨⟨_, rfl, Nat.le_refl _, hfin⟩, HB.out⟩
end Go.Proofs.YtknggeofilfiaaaGreatDoor.Mk
