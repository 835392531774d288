/-
  WALKS (layer 8, pest): valid houses.
-/
import Derived.Test.YthkamfjjfkpekaaPeDoor
import Derived.Test.YthkamfjjfkpekaaShelfC
namespace Go.Proofs.Ythkamfjjfkpekaa.Pe
open Go Go.RowKit Go.Proofs

/-- A slice reads as doors. -/
def DS (w : World) (v : Value) (ds : List Dr) : Prop :=
  ∃ g cap, v = .slice g ds.length cap ∧ ∀ i d, ds[i]? = some d → ∃ b o, g = some ⟨b, o, none⟩ ∧ w.cell? ⟨b, o + i * 3, none⟩ = some (.int .i64 d.a) ∧ w.cell? ⟨b, o + i * 3 + 1, none⟩ = some (.int .i64 d.b) ∧ w.cell? ⟨b, o + i * 3 + 2, none⟩ = some (.int .i64 d.c)
theorem DS.below {w w' : World} {v : Value} {ds : List Dr} (h : DS w v ds) (hb : Below w.heap.size w w') : DS w' v ds := by
  obtain ⟨g, cap, hv, hc⟩ := h
  refine ⟨g, cap, hv, fun i d hd => ?_⟩
  obtain ⟨b, o, hg, h1, h2, h3⟩ := hc i d hd
  have hbl : b < w.heap.size := World.block_lt_of_cell? w _ h1
  exact ⟨b, o, hg, (hb.cell (p := ⟨b, o + i * 3, none⟩) hbl).trans h1, (hb.cell (p := ⟨b, o + i * 3 + 1, none⟩) hbl).trans h2, (hb.cell (p := ⟨b, o + i * 3 + 2, none⟩) hbl).trans h3⟩
theorem DS.shape {w : World} {v : Value} {ds : List Dr} (h : DS w v ds) : ∃ g c, v = .slice g ds.length c := by
  obtain ⟨g, c, e, -⟩ := h; exact ⟨g, c, e⟩
def encD (d : Dr) : List Value := [.int .i64 d.a, .int .i64 d.b, .int .i64 d.c]
theorem anyD_nil (g : Option Addr) (c : Nat) (F : Value) (w : World) : Calls Try.prog 63 #[.slice g 0 c, F] w fun e w' => e = .returned (.bool false) ∧ Below w.heap.size w w' := by
  have HI : Kp (∀ W, Calls Try.prog 94 #[.slice g 0 c, F] W fun e w' => e = .returned (.int .i64 (-1)) ∧ Below W.heap.size W w') := ⟨fun W => by
    go_enter Try.func94, Try.ntmps94
    go_wp2
    refine wp_loop_rounds 2 ?_
    rw [rounds_succ]
    go_wp2
    go_ret
    exact ⟨rfl, Below.refl _ _⟩⟩
  go_enter Try.func63, Try.ntmps63
  go_wp2_with fail
  refine (HI.out _).mono ?_
  rintro en w1 ⟨rfl, hb⟩
  go_wp2
  go_ret
  exact ⟨rfl, hb⟩
theorem anyD_any (v : Value) (ds : List Dr) (p : Dr → Bool) (f : FuncId) (lb : Array Value) (w : World) (eg : ∀ args w, (callFunc f args).run Try.prog w = .ok (.enter f args) w) (hv : DS w v ds) (hl : ds.length ≤ 9223372036854775807)
    (hp : ∀ (W : World) (d : Dr), Below w.heap.size w W → Calls Try.prog f (#[.agg #[.int .i64 d.a, .int .i64 d.b, .int .i64 d.c]] ++ lb) W fun e w' => e = .returned (.bool (p d)) ∧ Below w.heap.size w w') :
    Calls Try.prog 63 #[v, .func (.func f) #[] lb] w fun e w' => e = .returned (.bool (ds.any p)) ∧ Below w.heap.size w w' := by
  obtain ⟨g, c, rfl, hc⟩ := hv
  cases ds with
  | nil => exact anyD_nil g c _ w
  | cons d0 ds =>
    obtain ⟨b, o, rfl, h1, -, -⟩ := hc 0 d0 rfl
    have h := AnyQ.slices_ContainsFunc Try.contD 3 Try.isAgg48 Try.sizeOf48 encD (fun _ => rfl) p f lb eg b o (d0 :: ds).length c (d0 :: ds) w (fun W x hW => hp W x hW) (Nat.le_refl _) hl (World.block_lt_of_cell? w _ h1) (fun j hj i u hu => by
      have hx : (d0 :: ds)[j]? = some (d0 :: ds)[j]! := by rw [List.getElem?_eq_getElem hj, List.getElem!_eq_getElem?_getD, List.getElem?_eq_getElem hj]; rfl
      obtain ⟨y, hy⟩ : ∃ y, (d0 :: ds)[j]! = y := ⟨_, rfl⟩
      rw [hy] at hx hu
      obtain ⟨b2, o2, hg, k1, k2, k3⟩ := hc j _ hx
      simp only [Option.some.injEq, Addr.mk.injEq, and_true] at hg
      obtain ⟨rfl, rfl⟩ := hg
      unfold encD at hu
      match i, hu with
      | 0, hu => simp at hu; subst hu; exact k1
      | 1, hu => simp at hu; subst hu; exact k2
      | 2, hu => simp at hu; subst hu; exact k3
      | i + 3, hu => simp at hu)
    rw [List.take_of_length_le (Nat.le_refl _)] at h
    exact h
end Go.Proofs.Ythkamfjjfkpekaa.Pe
