import Derived.Test.YtacghdfhafkcoaaDoorMkNearB
import Derived.Test.YtacghdfhafkcoaaDoorMkRefA
import Derived.Deep.QuietTactic
import Derived.BigQuiet
namespace Go.Proofs.YtacghdfhafkcoaaDoor.Mk
open Go Go.RowKit

theorem same_yes (v u : Value) (L : List Int) (w : World) (hl : L.length ≤ 1000) (h1 : RI w v L) (h2 : RI w u L) :
    Calls Tryd.prog 19 #[v, u] w fun e w' => e = .returned (.bool true) ∧ ∃ n, w' = w.drewN n := by
  obtain ⟨g, cap, rfl, hc1⟩ := h1
  obtain ⟨g', cap', rfl, hc2⟩ := h2
  have H1 := Lib.hid hc1
  have H2 := Lib.hid hc2
  clear hc1 hc2
  have hlen : ((L.length : Int) != (L.length : Int)) = false := by simp
  go_enter Tryd.func19, Tryd.ntmps19
  go_wp2
  go_loopw [13] (fun i wr => ∃ k : Nat, k ≤ L.length ∧ i = .int .i64 (k : Int) ∧ ∃ n, wr = w.drewN n) (fun i _ => L.length - (intOf i).toNat)
  case atStart => exact ⟨0, Nat.zero_le _, rfl, 0, rfl⟩
  case round =>
    obtain ⟨k, hk, rfl, n, rfl⟩ := hrel
    by_cases hlt : k < L.length
    · obtain ⟨x, hx⟩ : ∃ x, L[k]? = some x := ⟨L[k], List.getElem?_eq_getElem hlt⟩
      obtain ⟨b, hg, hb⟩ := H1.out k x hx
      obtain ⟨b', hg', hb'⟩ := H2.out k x hx
      subst hg
      subst hg'
      have o1 : (k : Int) < (L.length : Int) := by omega
      have t1 : (x != x) = false := by simp
      clear hx
      go_wp2_with fail
      go_quiet (fail)
      go_wp2
      go_roundw
      case rel => exact ⟨k + 1, by omega, by go_num, _, rfl⟩
      case measure => simp [intOf]; omega
    · have hkl : k = L.length := by omega
      have HK := Lib.hid hkl
      clear hkl
      go_wp2
      go_ret
      exact ⟨rfl, n, rfl⟩
end Go.Proofs.YtacghdfhafkcoaaDoor.Mk
