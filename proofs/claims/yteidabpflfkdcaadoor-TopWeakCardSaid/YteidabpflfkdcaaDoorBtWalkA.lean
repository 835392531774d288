/-
  WALKS (layer 3, baths), first part: what is valid, by the program and by the reference.
-/
import Derived.Test.YteidabpflfkdcaaDoorProg
import Derived.Test.YteidabpflfkdcaaDoorBtPlainB
import Derived.WalkKit
import Derived.WalkSpells
import Derived.WalkLawsBesides
import Derived.Lib.Hide
import Derived.Below
import Derived.Deep.QuietTactic
import Derived.BigQuiet
namespace Go.Proofs.YteidabpflfkdcaaDoor.Bt
open Go Go.RowKit

/-- A fact kept from the walk, by a structure: no unfolding reaches it. -/
structure Kp (p : Prop) : Prop where
  out : p
theorem ret_bool {a b : Bool} (h : a = b) : Ending.returned (.bool a) = .returned (.bool b) := by rw [h]
def allB (m : Int) (l : List Int) : Bool := l.all (rngB m)
theorem all_snoc {l : List Int} {k : Nat} {m : Int} (hk : k < l.length) (h : (l.take k).all (rngB m) = true) (g : rngB m l[k] = true) : (l.take (k + 1)).all (rngB m) = true := by
  rw [List.take_succ_eq_append_getElem hk, List.all_append, h]; simp [g]
theorem all_not {l : List Int} {k : Nat} {m : Int} (hk : k < l.length) (g : rngB m l[k] = false) : allB m l = false := by
  unfold allB
  rw [List.all_eq_false]; exact ⟨_, List.getElem_mem hk, by rw [g]; decide⟩

/-! ### The program's -/
theorem within_any (m : Int) (l : List Int) (b : Nat) (w : World) (hl : l.length ≤ 4) (hc : ∀ k, (h : k < l.length) → w.cell? ⟨b, k, none⟩ = some (.int .i64 l[k])) :
    Calls Tryd.prog 34 #[.int .i64 m, .slice (some ⟨b, 0, none⟩) l.length l.length] w fun e w' => e = .returned (.bool (allB m l)) ∧ w = w' := by
  have HC := Lib.hid hc
  clear hc
  go_enter Tryd.func34, Tryd.ntmps34
  go_wp2
  go_loop [9] (fun i => ∃ k : Nat, k ≤ l.length ∧ i = .int .i64 k ∧ Kp ((l.take k).all (rngB m) = true)) (fun i => l.length - (intOf i).toNat)
  case atStart => exact ⟨0, Nat.zero_le _, rfl, ⟨rfl⟩⟩
  case round =>
    obtain ⟨k, hk, rfl, HK⟩ := hrel
    by_cases hlt : k < l.length
    · have hcell := HC.out k hlt
      obtain ⟨x, hx⟩ : ∃ x, l[k] = x := ⟨_, rfl⟩
      rw [hx] at hcell
      have HX : Kp (l[k] = x) := ⟨hx⟩
      clear hx
      by_cases h0 : x < 0
      · have HE : Kp (allB m l = false) := ⟨all_not hlt (by rw [HX.out]; exact rng_no (.inl h0))⟩
        go_wp2
        go_ret
        exact ⟨ret_bool HE.out.symm, rfl⟩
      · by_cases h1 : m < x
        · have HE : Kp (allB m l = false) := ⟨all_not hlt (by rw [HX.out]; exact rng_no (.inr h1))⟩
          go_wp2
          go_ret
          exact ⟨ret_bool HE.out.symm, rfl⟩
        · have HE : Kp ((l.take (k + 1)).all (rngB m) = true) := ⟨all_snoc hlt HK.out (by rw [HX.out]; exact rng_yes (by omega) (by omega))⟩
          go_wp2
          go_round
          case rel => exact ⟨k + 1, by omega, by go_num, HE⟩
          case measure => simp [intOf]; omega
    · go_wp2
      go_ret
      refine ⟨ret_bool ?_, rfl⟩
      have := HK.out
      rw [List.take_of_length_le (by omega)] at this
      exact this.symm
theorem allB3 (m x y z : Int) : allB m [x, y, z] = (rngB m x && rngB m y && rngB m z) := by simp [allB, Bool.and_assoc]
theorem allB1 (m x : Int) : allB m [x] = rngB m x := by simp [allB]
theorem allB2 (m x y : Int) : allB m [x, y] = (rngB m x && rngB m y) := by simp [allB]
theorem ValidBath_any (x y z : Int) (w : World) :
    Calls Tryd.prog 33 #[.agg #[.int .i64 x, .int .i64 y, .int .i64 z]] w fun e w' => e = .returned (.bool (bathB ⟨x, y, z⟩)) ∧ Below w.heap.size w w' := by
  go_enter Tryd.func33, Tryd.ntmps33
  go_wp2_with fail
  refine (within_any 1000000000 [x, y, z] _ _ (by simp) ?_).mono ?_
  · intro k h
    have h' : k = 0 ∨ k = 1 ∨ k = 2 := by simp at h; omega
    rcases h' with rfl | rfl | rfl <;> first | (simp; done) | (simp; go_simp; done) | (go_simp; done)
  rintro e w1 ⟨rfl, rfl⟩
  go_wp2
  go_ret
  exact ⟨ret_bool (allB3 _ _ _ _), ((Below.refl _ _).alloc (Nat.le_refl _) _).alloc (by simp) _⟩
theorem ValidBath_yes (x y z : Int) (w : World) (h : bathB ⟨x, y, z⟩ = true) :
    Calls Tryd.prog 33 #[.agg #[.int .i64 x, .int .i64 y, .int .i64 z]] w fun e w' => e = .returned (.bool true) ∧ Below w.heap.size w w' :=
  (ValidBath_any x y z w).mono fun _ _ ⟨he, hb⟩ => ⟨by rw [he, h], hb⟩
theorem ValidBath_no (x y z : Int) (w : World) (h : bathB ⟨x, y, z⟩ = false) :
    Calls Tryd.prog 33 #[.agg #[.int .i64 x, .int .i64 y, .int .i64 z]] w fun e w' => e = .returned (.bool false) ∧ Below w.heap.size w w' :=
  (ValidBath_any x y z w).mono fun _ _ ⟨he, hb⟩ => ⟨by rw [he, h], hb⟩

theorem skin_of {x y z o : Int} : skinB ⟨x, y, z, o⟩ = (bathB ⟨x, y, z⟩ && rngB 1000 o) := rfl
theorem ValidSkin_any (x y z o : Int) (w : World) :
    Calls Tryd.prog 63 #[.agg #[.int .i64 x, .int .i64 y, .int .i64 z, .int .i64 o]] w fun e w' => e = .returned (.bool (skinB ⟨x, y, z, o⟩)) ∧ Below w.heap.size w w' := by
  by_cases hb : bathB ⟨x, y, z⟩ = true
  · have HE : Kp (allB 1000000000 [x, y, z] = true) := ⟨(allB3 _ _ _ _).trans hb⟩
    have HS : Kp (skinB ⟨x, y, z, o⟩ = allB 1000 [o]) := ⟨by rw [skin_of, hb, allB1]; rfl⟩
    clear hb
    go_enter Tryd.func63, Tryd.ntmps63
    go_wp2_with fail
    refine (within_any 1000000000 [x, y, z] _ _ (by simp) ?_).mono ?_
    · intro k h
      have h' : k = 0 ∨ k = 1 ∨ k = 2 := by simp at h; omega
      rcases h' with rfl | rfl | rfl <;> first | (simp; done) | (simp; go_simp; done) | (go_simp; done)
    rw [HE.out]
    rintro e w1 ⟨rfl, rfl⟩
    go_wp2_with fail
    refine (within_any 1000 [o] _ _ (by simp) ?_).mono ?_
    · intro k h
      obtain rfl : k = 0 := by simp at h; omega
      first | (simp; done) | (simp; go_simp; done) | (go_simp; done)
    rintro e w1 ⟨rfl, rfl⟩
    go_wp2
    go_ret
    exact ⟨ret_bool HS.out.symm, (((Below.refl _ _).alloc (Nat.le_refl _) _).alloc (by simp) _).alloc (by simp; omega) _⟩
  · have hb' : bathB ⟨x, y, z⟩ = false := by simpa using hb
    have HE : Kp (allB 1000000000 [x, y, z] = false) := ⟨(allB3 _ _ _ _).trans hb'⟩
    have HS : Kp (skinB ⟨x, y, z, o⟩ = false) := ⟨by rw [skin_of, hb']; rfl⟩
    clear hb hb'
    go_enter Tryd.func63, Tryd.ntmps63
    go_wp2_with fail
    refine (within_any 1000000000 [x, y, z] _ _ (by simp) ?_).mono ?_
    · intro k h
      have h' : k = 0 ∨ k = 1 ∨ k = 2 := by simp at h; omega
      rcases h' with rfl | rfl | rfl <;> first | (simp; done) | (simp; go_simp; done) | (go_simp; done)
    rw [HE.out]
    rintro e w1 ⟨rfl, rfl⟩
    go_wp2
    go_ret
    exact ⟨ret_bool HS.out.symm, ((Below.refl _ _).alloc (Nat.le_refl _) _).alloc (by simp) _⟩
theorem ValidSkin_yes (x y z o : Int) (w : World) (h : skinB ⟨x, y, z, o⟩ = true) :
    Calls Tryd.prog 63 #[.agg #[.int .i64 x, .int .i64 y, .int .i64 z, .int .i64 o]] w fun e w' => e = .returned (.bool true) ∧ Below w.heap.size w w' :=
  (ValidSkin_any x y z o w).mono fun _ _ ⟨he, hb⟩ => ⟨by rw [he, h], hb⟩
theorem ValidSkin_no (x y z o : Int) (w : World) (h : skinB ⟨x, y, z, o⟩ = false) :
    Calls Tryd.prog 63 #[.agg #[.int .i64 x, .int .i64 y, .int .i64 z, .int .i64 o]] w fun e w' => e = .returned (.bool false) ∧ Below w.heap.size w w' :=
  (ValidSkin_any x y z o w).mono fun _ _ ⟨he, hb⟩ => ⟨by rw [he, h], hb⟩

end Go.Proofs.YteidabpflfkdcaaDoor.Bt
