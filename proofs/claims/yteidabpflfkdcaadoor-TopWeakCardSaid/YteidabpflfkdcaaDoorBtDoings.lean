/-
  WALKS (layer 3, baths): what each kind of step does, by the program.
-/
import Derived.Test.YteidabpflfkdcaaDoorBtWait
import Derived.Test.YteidabpflfkdcaaDoorBtPart
namespace Go.Proofs.YteidabpflfkdcaaDoor.Bt
open Go Go.RowKit

/-- What a step does to a vat. -/
def doS (v : Va) (k n : Int) : Va :=
  if k = 1 then hoursN n.toNat v
  else if k = 2 then ⟨⟨v.b.w + n, v.b.s, v.b.a⟩, v.s, v.g⟩
  else if k = 3 then ⟨⟨v.b.w, v.b.s + n, v.b.a⟩, v.s, v.g⟩
  else if k = 4 then ⟨⟨v.b.w, v.b.s, v.b.a + n⟩, v.s, v.g⟩
  else if k = 5 then ⟨⟨v.b.w, v.b.s, v.b.a - min n v.b.a⟩, v.s, ⟨v.g.w, v.g.s, v.g.a + min n v.b.a⟩⟩
  else ⟨restB n v.b, v.s, addB v.g (partB n v.b)⟩
theorem water_any (P : Nat) (v : Va) (n : Int) (w : World) (hA : VatAt w P v) (hv : vatB v = true) (h0 : 0 ≤ n) (h1 : n ≤ 1000000000) :
    Calls Tryd.prog 88 #[.pointer (some ⟨P, 0, none⟩), .int .i64 n] w (WaitPost w P (doS v 2 n)) := by
  obtain ⟨a0, a1, a2, a3, a4, a5, a6, a7, a8, a9, az⟩ := hA
  have hb := vat_bd hv
  have b0 : 0 ≤ v.b.w := by omega
  have b1 : v.b.w ≤ 1000000000 := by omega
  have HR : Kp (VatAt (w.setCell ⟨P, 0, none⟩ (.int .i64 (v.b.w + n))) P (doS v 2 n)) := ⟨by
    unfold doS
    constructor <;> simp [go_sem, a0, a1, a2, a3, a4, a5, a6, a7, a8, a9, az]⟩
  clear hv hb a3 a4 a5 a6 a7 a8 a9
  go_enter Tryd.func88, Tryd.ntmps88
  go_wp2
  exact bodyPost_end (results_none rfl _ _ _) rfl ⟨⟨_, rfl⟩, setCell_grown _ _ _ _, HR.out⟩
theorem salt_any (P : Nat) (v : Va) (n : Int) (w : World) (hA : VatAt w P v) (hv : vatB v = true) (h0 : 0 ≤ n) (h1 : n ≤ 1000000000) :
    Calls Tryd.prog 89 #[.pointer (some ⟨P, 0, none⟩), .int .i64 n] w (WaitPost w P (doS v 3 n)) := by
  obtain ⟨a0, a1, a2, a3, a4, a5, a6, a7, a8, a9, az⟩ := hA
  have hb := vat_bd hv
  have b0 : 0 ≤ v.b.s := by omega
  have b1 : v.b.s ≤ 1000000000 := by omega
  have HR : Kp (VatAt (w.setCell ⟨P, 1, none⟩ (.int .i64 (v.b.s + n))) P (doS v 3 n)) := ⟨by
    unfold doS
    constructor <;> simp [go_sem, a0, a1, a2, a3, a4, a5, a6, a7, a8, a9, az]⟩
  clear hv hb a3 a4 a5 a6 a7 a8 a9
  go_enter Tryd.func89, Tryd.ntmps89
  go_wp2
  exact bodyPost_end (results_none rfl _ _ _) rfl ⟨⟨_, rfl⟩, setCell_grown _ _ _ _, HR.out⟩
theorem acid_any (P : Nat) (v : Va) (n : Int) (w : World) (hA : VatAt w P v) (hv : vatB v = true) (h0 : 0 ≤ n) (h1 : n ≤ 1000000000) :
    Calls Tryd.prog 90 #[.pointer (some ⟨P, 0, none⟩), .int .i64 n] w (WaitPost w P (doS v 4 n)) := by
  obtain ⟨a0, a1, a2, a3, a4, a5, a6, a7, a8, a9, az⟩ := hA
  have hb := vat_bd hv
  have b0 : 0 ≤ v.b.a := by omega
  have b1 : v.b.a ≤ 1000000000 := by omega
  have HR : Kp (VatAt (w.setCell ⟨P, 2, none⟩ (.int .i64 (v.b.a + n))) P (doS v 4 n)) := ⟨by
    unfold doS
    constructor <;> simp [go_sem, a0, a1, a2, a3, a4, a5, a6, a7, a8, a9, az]⟩
  clear hv hb a3 a4 a5 a6 a7 a8 a9
  go_enter Tryd.func90, Tryd.ntmps90
  go_wp2
  exact bodyPost_end (results_none rfl _ _ _) rfl ⟨⟨_, rfl⟩, setCell_grown _ _ _ _, HR.out⟩
theorem lime_any (P : Nat) (v : Va) (n : Int) (w : World) (hA : VatAt w P v) (hv : vatB v = true) (h0 : 0 ≤ n) (h1 : n ≤ 1000000000) :
    Calls Tryd.prog 91 #[.pointer (some ⟨P, 0, none⟩), .int .i64 n] w (WaitPost w P (doS v 5 n)) := by
  obtain ⟨a0, a1, a2, a3, a4, a5, a6, a7, a8, a9, az⟩ := hA
  have hb := vat_bd hv
  have b0 : 0 ≤ v.b.a := by omega
  have b1 : v.b.a ≤ 1000000000 := by omega
  have b2 : 0 ≤ v.g.a := by omega
  have b3 : v.g.a ≤ 1000000000 := by omega
  have HR : ∀ m : Int, m = min n v.b.a → VatAt ((w.setCell ⟨P, 2, none⟩ (.int .i64 (v.b.a - m))).setCell ⟨P, 9, none⟩ (.int .i64 (v.g.a + m))) P (doS v 5 n) := fun m hm => by
    unfold doS
    subst hm
    constructor <;> simp [go_sem, a0, a1, a2, a3, a4, a5, a6, a7, a8, a9, az]
  have HR := Lib.hid HR
  clear hv hb a3 a4 a5 a6 a7 a8
  by_cases h : n ≤ v.b.a
  · have hm : ¬ v.b.a < n := by omega
    go_enter Tryd.func91, Tryd.ntmps91
    go_wp2
    all_goals
      exact bodyPost_end (results_none rfl _ _ _) rfl ⟨⟨_, rfl⟩, grown_trans (setCell_grown _ _ _ _) (setCell_grown _ _ _ _), HR.out _ (by omega)⟩
  · have hm : v.b.a < n := by omega
    have HR2 : Kp (VatAt ((w.setCell ⟨P, 2, none⟩ (.int .i64 0)).setCell ⟨P, 9, none⟩ (.int .i64 (v.g.a + v.b.a))) P (doS v 5 n)) := ⟨by
      have := HR.out v.b.a (by omega)
      rwa [Int.sub_self] at this⟩
    go_enter Tryd.func91, Tryd.ntmps91
    go_wp2
    all_goals
      exact bodyPost_end (results_none rfl _ _ _) rfl ⟨⟨_, rfl⟩, grown_trans (setCell_grown _ _ _ _) (setCell_grown _ _ _ _), HR2.out⟩
end Go.Proofs.YteidabpflfkdcaaDoor.Bt
