/-
  WALKS (layer 7, scene): the search by halves.
-/
import Derived.Test.YtjnggchljilooaaScKit
import Derived.IntWalk
namespace Go.Proofs.Ytjnggchljilooaa.Sc
open Go Go.RowKit Go.Sort

set_option maxHeartbeats 1000000 in
theorem search_any (f : Nat) (lb : Array Value) (n : Nat) (p : Nat → Bool) (w : World) (hn : n ≤ 100000)
    (hE : ∀ args W, (callFunc f args).run Try.prog W = .ok (.enter f args) W)
    (hm : ∀ i j : Nat, i ≤ j → p i = true → p j = true)
    (HF : Kp (∀ W (i : Nat), Below w.heap.size w W → i < n → Calls Try.prog f (#[.int .i64 i] ++ lb) W fun e w' => e = .returned (.bool (p i)) ∧ Below W.heap.size W w')) :
    Calls Try.prog 68 #[.int .i64 n, .func (.func f) #[] lb] w fun e w' => ∃ k : Nat, k ≤ n ∧ e = .returned (.int .i64 k) ∧ (∀ i : Nat, i < k → p i = false) ∧ (k < n → p k = true) ∧ Below w.heap.size w w' := by
  have HM := Kp.mk hm
  have HNN := Kp.mk hn
  clear hm hn
  go_enter Try.func68, Try.ntmps68
  go_wp2
  go_loopw [5, 6] (fun a b wr => ∃ i j : Nat, i ≤ j ∧ j ≤ n ∧ a = .int .i64 i ∧ b = .int .i64 j ∧ Kp (∀ t : Nat, t < i → p t = false) ∧ Kp (j < n → p j = true) ∧ Kp (Below w.heap.size w wr)) (fun a b _ => (intOf b).toNat - (intOf a).toNat)
  case atStart => exact ⟨0, n, by omega, by omega, rfl, rfl, ⟨fun t h => by omega⟩, ⟨fun h => by omega⟩, ⟨Below.refl _ _⟩⟩
  case round =>
    obtain ⟨i, j, hij, hjn, rfl, rfl, HA, HB, HW⟩ := hrel
    by_cases hlt : i < j
    · have o1 : (i : Int) < (j : Int) := by omega
      obtain ⟨h, hh⟩ : ∃ h : Nat, (i + j) / 2 = h := ⟨_, rfl⟩
      have hb : i ≤ h ∧ h < j := by omega
      have HH := Kp.mk hb
      have HC := Kp.mk (HF.out wr h HW.out (by omega))
      have e1 : IntKind.i64.wrap ((i : Int) + j) = (i : Int) + j := IntWalk.i64_in _ (by have := HNN.out; omega)
      have e2 : IntKind.u64.wrap ((i : Int) + j) = (i : Int) + j := IntWalk.u64_in _ (by have := HNN.out; omega)
      have e3 : IntKind.i64.wrap (((i : Int) + j) / 2) = (h : Int) := by
        have : ((i : Int) + j) / 2 = (h : Int) := by omega
        rw [this]
        exact IntWalk.i64_in _ (by have := HNN.out; omega)
      have e4 : IntKind.i64.wrap ((h : Int) + 1) = (h : Int) + 1 := IntWalk.i64_in _ (by have := HNN.out; omega)
      obtain ⟨R, hR⟩ : ∃ R, p h = R := ⟨_, rfl⟩
      have HR := Kp.mk hR
      rw [hR] at HC
      clear hR hh hb
      go_wp2_with fail
      refine HC.out.mono ?_
      rintro en w1 ⟨rfl, hb1⟩
      have HW1 := Kp.mk (HW.out.trans (hb1.mono HW.out.size))
      clear hb1
      cases R with
      | false =>
        have HA1 : Kp (∀ t : Nat, t < h + 1 → p t = false) := ⟨fun t ht => by
          cases hp : p t with
          | false => rfl
          | true =>
            have := HM.out t h (by omega) hp
            rw [HR.out] at this
            cases this⟩
        go_wp2
        go_roundw
        case rel => exact ⟨h + 1, j, by have := HH.out; omega, hjn, by go_num, rfl, HA1, HB, HW1⟩
        case measure => have := HH.out; simp [intOf]; omega
      | true =>
        have HB1 : Kp (h < n → p h = true) := ⟨fun _ => HR.out⟩
        go_wp2
        go_roundw
        case rel => exact ⟨i, h, by have := HH.out; omega, by have := HH.out; omega, rfl, rfl, HA, HB1, HW1⟩
        case measure => have := HH.out; simp [intOf]; omega
    · obtain rfl : i = j := by omega
      have HJN := Kp.mk hjn
      clear hlt hij hjn
      go_wp2
      go_ret
      exact ⟨i, HJN.out, rfl, HA.out, HB.out, HW.out⟩
end Go.Proofs.Ytjnggchljilooaa.Sc
