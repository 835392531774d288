/-
  WALKS (layer 7, scene): the program's With at every ground and number.
-/
import Derived.Test.YtjnggchljilooaaScWith
import Derived.Test.YtjnggchljilooaaScPlus
import Derived.Test.YtjnggchljilooaaScRaisA
import Derived.Test.YtjnggchljilooaaScSeen
namespace Go.Proofs.Ytjnggchljilooaa.Sc
open Go Go.RowKit Go.Sort

theorem chkE_zero {r g e : Bool} (h : chkE r g e = 0) : r = true ∧ g = true ∧ e = true := by
  cases r <;> cases g <;> cases e <;> simp [chkE] at h ⊢
/-- The number of a cell. -/
def cellN (wd x y : Int) : Nat := (x + wd * y).toNat
theorem cell_bd {wd dp : Int} {L : List Int} {x y : Int} (hg : gdB wd dp L = true) (hc : cellB wd dp x y = true) : (0 ≤ x ∧ x ≤ wd - 1) ∧ (0 ≤ y ∧ y ≤ dp - 1) ∧ ((cellN wd x y : Nat) : Int) = x + wd * y ∧ cellN wd x y < L.length := by
  obtain ⟨⟨a1, a2⟩, ⟨b1, b2⟩, hl, -⟩ := gdB_iff hg
  unfold cellB rowB at hc
  rw [Bool.and_eq_true, wrap_less a1 a2, wrap_less b1 b2, inB_iff, inB_iff] at hc
  obtain ⟨⟨c1, c2⟩, d1, d2⟩ := hc
  have h0 : 0 ≤ wd * y := Int.mul_nonneg (by omega) d1
  have h1 : wd * (y + 1) ≤ wd * dp := Int.mul_le_mul_of_nonneg_left (by omega) (by omega)
  rw [Int.mul_add, Int.mul_one] at h1
  unfold cellN
  exact ⟨⟨c1, c2⟩, ⟨d1, d2⟩, by omega, by omega⟩
/-- The error of With. -/
def wE (wd dp : Int) (L : List Int) (x y n : Int) : Int := wiE (chkE (cellB wd dp x y && inB 0 1000 n) (gdB wd dp L) true) (decide (L.getD (cellN wd x y) 0 + n ≤ 1000))
/-- The heights with a mount. -/
def wL (wd : Int) (L : List Int) (x y n : Int) : List Int := L.set (cellN wd x y) (L.getD (cellN wd x y) 0 + n)
theorem wE_zero {wd dp : Int} {L : List Int} {x y n : Int} (h : wE wd dp L x y n = 0) : gdB wd dp L = true ∧ cellB wd dp x y = true ∧ (0 ≤ n ∧ n ≤ 1000) ∧ L.getD (cellN wd x y) 0 + n ≤ 1000 := by
  unfold wE wiE at h
  split at h
  · rename_i k
    obtain ⟨k1, k2, -⟩ := chkE_zero k
    rw [Bool.and_eq_true] at k1
    split at h
    · rename_i k3
      exact ⟨k2, k1.1, inB_iff.1 k1.2, by simpa using k3⟩
    · omega
  · rename_i k
    exact absurd h k
/-- A ground that is answered. -/
def GV (w : World) (V : Value) (a b : Int) (L : List Int) : Prop := ∃ g c, V = .agg #[.int .i64 a, .int .i64 b, .slice g L.length c] ∧ IS w (.slice g L.length c) L
theorem GV.mk_ {w : World} {a b : Int} {g : Option Addr} {M c : Nat} {L : List Int} (h : IS w (.slice g M c) L) : GV w (.agg #[.int .i64 a, .int .i64 b, .slice g M c]) a b L := by
  obtain ⟨g2, c2, e, hc⟩ := h
  have h2 : IS w (.slice g M c) L := ⟨g2, c2, e, hc⟩
  simp only [Value.slice.injEq] at e
  obtain ⟨rfl, rfl, rfl⟩ := e
  exact ⟨g, c, rfl, h2⟩
theorem With_full (wd dp x y n : Int) (v : Value) (L : List Int) (w : World) (hv : IS w v L) (hl : L.length ≤ 9223372036854775807) :
    Calls Try.prog 14 #[.agg #[.int .i64 wd, .int .i64 dp, v], .int .i64 x, .int .i64 y, .int .i64 n] w fun e w' => (∃ a b g M c, e = .returned (.tuple #[.agg #[.int .i64 a, .int .i64 b, .slice g M c], .int .i64 (wE wd dp L x y n)]) ∧ (wE wd dp L x y n = 0 → a = wd ∧ b = dp ∧ IS w' (.slice g M c) (wL wd L x y n)) ∧ (wE wd dp L x y n ≠ 0 → a = 0 ∧ b = 0 ∧ IS w' (.slice g M c) [])) ∧ Below w.heap.size w w' := by
  have HIC : Kp (∀ W, Calls Try.prog 47 #[.agg #[.int .i64 wd, .int .i64 dp, v], .int .i64 x, .int .i64 y] W fun e w' => e = .returned (.bool (cellB wd dp x y)) ∧ Below W.heap.size W w') := ⟨fun W => isCell_any wd dp v x y W⟩
  have HWI : Kp (∀ W u, IS W u [n] → Calls Try.prog 51 #[.int .i64 0, .int .i64 1000, u] W fun e w' => e = .returned (.bool (inB 0 1000 n)) ∧ W = w') := ⟨fun W u hu => allIn_one 0 1000 n ▸ within_any 0 1000 u _ W hu (by simp)⟩
  have HCK : ∀ r : Bool, Kp (∀ W, Below w.heap.size w W → Calls Try.prog 46 #[.bool r, .agg #[.int .i64 wd, .int .i64 dp, v], .slice none 0 0] W fun e w' => e = .returned (.int .i64 (chkE r (gdB wd dp L) true)) ∧ Below W.heap.size W w') := fun r => ⟨fun W hW => checked_any r wd dp v (.slice none 0 0) L [] W (hv.below hW) hl (es_nil W) (by simp)⟩
  have HWE : Kp (wE wd dp L x y n = wiE (chkE (cellB wd dp x y && inB 0 1000 n) (gdB wd dp L) true) (decide (L.getD (cellN wd x y) 0 + n ≤ 1000))) := ⟨rfl⟩
  have HF : Kp (chkE (cellB wd dp x y && inB 0 1000 n) (gdB wd dp L) true = 0 → 0 < (wL wd L x y n).length ∧ (∀ W, Calls Try.prog 48 #[.agg #[.int .i64 wd, .int .i64 dp, v], .int .i64 x, .int .i64 y] W fun e w' => e = .returned (.int .i64 ((cellN wd x y : Nat) : Int)) ∧ Below W.heap.size W w') ∧
      ∀ W b1 b2, Below w.heap.size w W → W.cell? ⟨b1, 0, none⟩ = some (.int .i64 n) → W.cell? ⟨b2, 0, none⟩ = some (.int .i64 ((cellN wd x y : Nat) : Int)) → Calls Try.prog 52 #[.agg #[.int .i64 wd, .int .i64 dp, v], .slice (some ⟨b1, 0, none⟩) 1 1, .slice (some ⟨b2, 0, none⟩) 1 1] W fun e w' => (∃ a b g2 M2 c2 G, e = .returned (.tuple #[.agg #[.int .i64 a, .int .i64 b, .slice g2 M2 c2], .bool (decide (L.getD (cellN wd x y) 0 + n ≤ 1000))]) ∧ (decide (L.getD (cellN wd x y) 0 + n ≤ 1000) = true → a = wd ∧ b = dp ∧ W.heap.size ≤ G ∧ RI w' G (.slice g2 M2 c2) (wL wd L x y n))) ∧ Below W.heap.size W w') := ⟨fun h => by
    obtain ⟨k1, k2, -⟩ := chkE_zero h
    rw [Bool.and_eq_true] at k1
    obtain ⟨⟨c1, c2⟩, ⟨d1, d2⟩, e1, e2⟩ := cell_bd k2 k1.1
    obtain ⟨⟨a1, a2⟩, ⟨b1, b2⟩, -, hal⟩ := gdB_iff k2
    have hgl := gd_len k2
    have hat : L[cellN wd x y]? = some (L.getD (cellN wd x y) 0) := by
      rw [List.getD_eq_getElem?_getD, List.getElem?_eq_getElem e2]
      rfl
    refine ⟨by unfold wL; rw [List.length_set]; omega, fun W => ?_, fun W p1 p2 hW h1 h2 => ?_⟩
    · rw [e1]
      exact cellAt_any wd dp v x y W (by omega) a2 c1 (by omega) d1 (by omega)
    · exact mount_one wd dp n _ (cellN wd x y) p1 p2 v L W (hv.below hW) hat (by omega) (allIn_at hal hat) (inB_iff.1 k1.2) h1 h2⟩
  obtain ⟨g, c, rfl⟩ := hv.shape
  rw [HWE.out]
  cases hc : cellB wd dp x y with
  | true =>
    rw [hc] at HIC HF
    rw [Bool.true_and] at HF ⊢
    by_cases hE : chkE (inB 0 1000 n) (gdB wd dp L) true = 0
    · obtain ⟨f1, f2, f3⟩ := HF.out hE
      refine (With_in wd dp x y n g L.length c (cellN wd x y) _ (inB 0 1000 n) (decide (L.getD (cellN wd x y) 0 + n ≤ 1000)) (wL wd L x y n) w HIC HWI (HCK _) ⟨fun _ => f2⟩ ⟨f1⟩ ⟨fun _ => f3⟩).mono ?_
      rintro e w' ⟨⟨a, b, g2, M2, c2, E, rfl, rfl, h, h'⟩, hb⟩
      exact ⟨⟨a, b, g2, M2, c2, rfl, h, h'⟩, hb⟩
    · refine (With_in wd dp x y n g L.length c 0 _ (inB 0 1000 n) (decide (L.getD (cellN wd x y) 0 + n ≤ 1000)) [0] w HIC HWI (HCK _) ⟨fun k => absurd k hE⟩ ⟨by simp⟩ ⟨fun k => absurd k hE⟩).mono ?_
      rintro e w' ⟨⟨a, b, g2, M2, c2, E, rfl, rfl, h, h'⟩, hb⟩
      exact ⟨⟨a, b, g2, M2, c2, rfl, fun k => by unfold wiE at k; rw [if_neg hE] at k; exact absurd k hE, h'⟩, hb⟩
  | false =>
    rw [hc] at HIC
    rw [Bool.false_and]
    have hE : chkE false (gdB wd dp L) true ≠ 0 := by cases gdB wd dp L <;> simp [chkE]
    refine (With_no wd dp x y n g L.length c 0 _ (inB 0 1000 n) (decide (L.getD (cellN wd x y) 0 + n ≤ 1000)) [0] w HIC HWI (HCK _) ⟨hE⟩ ⟨fun k => absurd k hE⟩ ⟨by simp⟩ ⟨fun k => absurd k hE⟩).mono ?_
    rintro e w' ⟨⟨a, b, g2, M2, c2, E, rfl, rfl, h, h'⟩, hb⟩
    exact ⟨⟨a, b, g2, M2, c2, rfl, fun k => by unfold wiE at k; rw [if_neg hE] at k; exact absurd k hE, h'⟩, hb⟩
theorem With_any (wd dp x y n : Int) (v : Value) (L : List Int) (w : World) (hv : IS w v L) (hl : L.length ≤ 9223372036854775807) :
    Calls Try.prog 14 #[.agg #[.int .i64 wd, .int .i64 dp, v], .int .i64 x, .int .i64 y, .int .i64 n] w fun e w' => (∃ a b g M c, e = .returned (.tuple #[.agg #[.int .i64 a, .int .i64 b, .slice g M c], .int .i64 (wE wd dp L x y n)]) ∧ (wE wd dp L x y n = 0 → a = wd ∧ b = dp ∧ IS w' (.slice g M c) (wL wd L x y n))) ∧ Below w.heap.size w w' :=
  (With_full wd dp x y n v L w hv hl).mono fun e w' ⟨⟨a, b, g, M, c, h1, h2, _⟩, hb⟩ => ⟨⟨a, b, g, M, c, h1, h2⟩, hb⟩
end Go.Proofs.Ytjnggchljilooaa.Sc
