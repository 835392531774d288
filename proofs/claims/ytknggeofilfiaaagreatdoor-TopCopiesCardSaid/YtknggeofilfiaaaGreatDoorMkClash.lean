/-
  THE WALK of firstClash.
-/
import Derived.Test.YtknggeofilfiaaaGreatDoorMkLook
namespace Go.Proofs.YtknggeofilfiaaaGreatDoor.Mk
open Go Go.RowKit Go.Maps

theorem MapOf.below {w w' : World} {B n : Nat} {D : DataW Unit} (h : MapOf w B n D) (hb : Below w.heap.size w w') : MapOf w' B n D :=
  ⟨h.own.kept (row := none) ⟨hb.os, hb.tape, hb.output, hb.size, fun k hk _ => hb.block k hk⟩ (by simp)⟩
def clashL (A : List FB) : List FB → Option ByteArray
  | [] => none
  | f :: L => match lookL A f.1 with
    | none => clashL A L
    | some v => if v = f.2 then clashL A L else some f.1
def clashV (o : Option ByteArray) : Value := match o with
  | none => .tuple #[.string ⟨#[]⟩, .bool false]
  | some k => .tuple #[.string k, .bool true]
theorem drop_at {L : List FB} {k : Nat} {f : FB} (hf : L[k]? = some f) : L.drop k = f :: L.drop (k + 1) := by
  obtain ⟨h, e⟩ := List.getElem?_eq_some_iff.1 hf
  rw [List.drop_eq_getElem_cons h, e]
theorem toList_eq {a b : ByteArray} : ((a.toList == b.toList) = true) ↔ a = b := by
  rw [beq_iff_eq, Lib.toList_data, Lib.toList_data]
  constructor
  · intro h
    apply ByteArray.ext
    exact Array.ext' h
  · intro h
    rw [h]
theorem toList_ne {a b : ByteArray} (h : a ≠ b) : (a.toList == b.toList) = false := by
  cases h2 : a.toList == b.toList
  · rfl
  · exact absurd (toList_eq.1 h2) h
set_option maxHeartbeats 400000 in
theorem firstClash_any (B n : Nat) (A : List FB) (v : Value) (L : List FB) (w : World) (hm : MapOf w B n (vals A)) (h : RL w v L) (hs : Kq (∀ f ∈ L, f.1.size ≤ maxLen ∧ f.2.size ≤ maxLen)) (hn : L.length ≤ 1000000) :
    Calls Tryz.prog 20 #[.map (some B), v] w fun e w' => e = .returned (clashV (clashL A L)) ∧ Below w.heap.size w w' := by
  obtain ⟨g, cap, rfl, hc⟩ := h
  have HC := Lib.hid hc
  clear hc
  go_enter Tryz.func20, Tryz.ntmps20
  go_wp2
  go_loopw [12] (fun i wr => ∃ k : Nat, k ≤ L.length ∧ i = .int .i64 (k : Int) ∧ Kq (clashL A (L.drop k) = clashL A L) ∧ Below w.heap.size w wr) (fun i _ => L.length - (intOf i).toNat)
  case atStart => exact ⟨0, Nat.zero_le _, rfl, ⟨rfl⟩, Below.refl _ _⟩
  case round =>
    obtain ⟨k, hk, rfl, hcl, hb⟩ := hrel
    have HB := Lib.hid hb
    have hz := hb.size
    have hm2 := hm.below hb
    clear hb
    by_cases hlt : k < L.length
    · obtain ⟨f, hf⟩ : ∃ f, L[k]? = some f := ⟨L[k], List.getElem?_eq_getElem hlt⟩
      obtain ⟨b, o, hg, hbl, hb1, hb2⟩ := HC.out k f hf
      subst hg
      have c1 : wr.cell? ⟨b, o + k * 2, none⟩ = some (.string f.1) := (HB.out.cell (p := ⟨b, _, none⟩) hbl).trans hb1
      have c2 : wr.cell? ⟨b, o + k * 2 + 1, none⟩ = some (.string f.2) := (HB.out.cell (p := ⟨b, _, none⟩) hbl).trans hb2
      have hsz := hs.out f (List.mem_of_getElem? hf)
      have hd := drop_at hf
      have hm3 : MapOf (wr.alloc (Obj.cells #[Value.string f.1, Value.string f.2] 27)) B n (vals A) := ⟨hm2.own.alloc _⟩
      have hlk := look_any hm3 f.1 hsz.1
      have HBA : Hid (Below w.heap.size w (wr.alloc (Obj.cells #[Value.string f.1, Value.string f.2] 27))) := HB.out.alloc hz _
      clear hb1 hb2 hf hsz hm3 hm2
      cases hl : lookL A f.1 with
      | none =>
        have hstep : Kq (clashL A (L.drop (k + 1)) = clashL A L) := ⟨by
          have h1 := hcl.out
          rw [hd] at h1
          simp only [clashL, hl] at h1
          exact h1⟩
        rw [hl] at hlk
        unfold found at hlk
        clear hd hl hcl
        go_wp2
        go_roundw
        case rel => exact ⟨k + 1, by omega, by go_num, hstep, HBA.out⟩
        case measure => simp [intOf]; omega
      | some u =>
        by_cases hu : u = f.2
        · have hstep : Kq (clashL A (L.drop (k + 1)) = clashL A L) := ⟨by
            have h1 := hcl.out
            rw [hd] at h1
            simp only [clashL, hl] at h1
            rw [if_pos hu] at h1
            exact h1⟩
          have t1 : (u.toList == f.2.toList) = true := toList_eq.2 hu
          rw [hl] at hlk
          unfold found at hlk
          clear hd hl hu hcl
          go_wp2
          go_roundw
          case rel => exact ⟨k + 1, by omega, by go_num, hstep, HBA.out⟩
          case measure => simp [intOf]; omega
        · have hres : Kq (clashL A L = some f.1) := ⟨by
            have h1 := hcl.out
            rw [hd] at h1
            simp only [clashL, hl] at h1
            rw [if_neg hu] at h1
            exact h1.symm⟩
          have t1 : (u.toList == f.2.toList) = false := toList_ne hu
          rw [hl] at hlk
          unfold found at hlk
          clear hd hl hu hcl
          go_wp2
          go_ret2
          exact ⟨by rw [hres.out]; rfl, HBA.out⟩
    · have hkl : k = L.length := by omega
      have hres : Kq (clashL A L = none) := ⟨by
        have h1 := hcl.out
        rw [hkl, List.drop_length] at h1
        exact h1.symm⟩
      clear hkl hcl
      go_wp2
      go_ret2
      exact ⟨by rw [hres.out]; rfl, HB.out⟩
end Go.Proofs.YtknggeofilfiaaaGreatDoor.Mk
