/-
  WALKS (layer 7, scene): Hides and Seen at every input, by the program.
-/
import Derived.Test.YtjnggchljilooaaScHides
namespace Go.Proofs.Ytjnggchljilooaa.Sc
open Go Go.RowKit Go.Sort

/-- The error of a ground, an eye and a point. -/
def askE (wd dp : Int) (L : List Int) (e : Ey) (x y h : Int) : Int := chkE (cellB wd dp x y && inB 0 3000 h) (gdB wd dp L) (eyB wd e)
theorem wrap_less {n : Int} (h1 : 1 ≤ n) (h2 : n ≤ 24) : IntKind.i64.wrap (n - 1) = n - 1 := IntWalk.i64_in _ (by omega)
theorem askE_zero {wd dp : Int} {L : List Int} {e : Ey} {x y h : Int} (k : askE wd dp L e x y h = 0) : gdB wd dp L = true ∧ eyB wd e = true ∧ (0 ≤ x ∧ x ≤ wd - 1) ∧ (0 ≤ y ∧ y ≤ dp - 1) ∧ 0 ≤ h ∧ h ≤ 3000 := by
  unfold askE chkE at k
  cases hg : gdB wd dp L <;> cases he : eyB wd e <;> rw [hg, he] at k <;> simp at k
  obtain ⟨k1, k2⟩ := k
  obtain ⟨⟨a1, a2⟩, ⟨b1, b2⟩, -, -⟩ := gdB_iff hg
  unfold cellB rowB at k1
  rw [Bool.and_eq_true, wrap_less a1 a2, wrap_less b1 b2, inB_iff, inB_iff] at k1
  exact ⟨rfl, rfl, k1.1, k1.2, inB_iff.1 k2⟩
theorem Hides_any (wd dp : Int) (v : Value) (L : List Int) (e : Ey) (x y h : Int) (w : World) (hv : IS w v L) (hl : L.length ≤ 9223372036854775807) :
    Calls Try.prog 31 #[.agg #[.int .i64 wd, .int .i64 dp, v], .agg #[.int .i64 e.x, .int .i64 e.b, .int .i64 e.h], .int .i64 x, .int .i64 y, .int .i64 h] w fun en w' => en = .returned (hidesV (askE wd dp L e x y h) (hid wd L e x y.toNat h)) ∧ Below w.heap.size w w' := by
  have HHD : ∀ E, E = askE wd dp L e x y h → Kp (E = 0 → ∀ W, Below w.heap.size w W → Calls Try.prog 67 #[.agg #[.int .i64 wd, .int .i64 dp, v, .int .i64 e.x, .int .i64 e.b, .int .i64 e.h], .int .i64 x, .int .i64 y, .int .i64 h] W fun en w' => en = .returned (hidV (hid wd L e x y.toNat h)) ∧ Below W.heap.size W w') := fun E hE => ⟨fun h0 W hW => by
    obtain ⟨h1, h2, h3, h4, h5⟩ := askE_zero (hE.symm.trans h0)
    have hy : (y.toNat : Int) = y := Int.toNat_of_nonneg h4.1
    have := hider_any wd dp v L e x y.toNat h W (hv.below hW) h1 h2 h3 (by omega) h5
    rwa [hy] at this⟩
  have HW : Kp (∀ W u, IS W u [h] → Calls Try.prog 51 #[.int .i64 0, .int .i64 3000, u] W fun e w' => e = .returned (.bool (inB 0 3000 h)) ∧ W = w') := ⟨fun W u hu => allIn_one 0 3000 h ▸ within_any 0 3000 u _ W hu (by simp)⟩
  obtain ⟨g, c, rfl⟩ := hv.shape
  obtain ⟨ex, eb, eh⟩ := e
  cases hc : cellB wd dp x y with
  | true =>
    refine Hides_in wd dp ex eb eh x y h g L.length c (askE wd dp L ⟨ex, eb, eh⟩ x y h) (inB 0 3000 h) _ w ⟨fun W => hc ▸ isCell_any wd dp _ x y W⟩ HW ⟨fun W u hW hu => ?_⟩ (HHD _ rfl)
    have := checked_any (inB 0 3000 h) wd dp _ u L [⟨ex, eb, eh⟩] W (hv.below hW) hl hu (by simp)
    unfold askE
    rw [hc]
    simpa using this
  | false =>
    refine Hides_no wd dp ex eb eh x y h g L.length c (askE wd dp L ⟨ex, eb, eh⟩ x y h) (inB 0 3000 h) _ w ⟨fun W => hc ▸ isCell_any wd dp _ x y W⟩ HW ⟨fun W u hW hu => ?_⟩ (HHD _ rfl)
    have := checked_any false wd dp _ u L [⟨ex, eb, eh⟩] W (hv.below hW) hl hu (by simp)
    unfold askE
    rw [hc]
    simpa using this
/-- What Seen answers. -/
def seenV (E : Int) (o : Option (Int × Int)) : Value := if E = 0 then .tuple #[.bool o.isNone, .int .i64 0] else .tuple #[.bool false, .int .i64 E]
theorem chkE_cases (r g e : Bool) : chkE r g e = 0 ∨ chkE r g e = 1 ∨ chkE r g e = 7 := by
  cases r <;> cases g <;> cases e <;> simp [chkE]
theorem Seen_any (wd dp : Int) (v : Value) (L : List Int) (e : Ey) (x y h : Int) (w : World) (hv : IS w v L) (hl : L.length ≤ 9223372036854775807) :
    Calls Try.prog 29 #[.agg #[.int .i64 wd, .int .i64 dp, v], .agg #[.int .i64 e.x, .int .i64 e.b, .int .i64 e.h], .int .i64 x, .int .i64 y, .int .i64 h] w fun en w' => en = .returned (seenV (askE wd dp L e x y h) (hid wd L e x y.toNat h)) ∧ Below w.heap.size w w' := by
  have HH : Kp (∀ W, Below w.heap.size w W → Calls Try.prog 31 #[.agg #[.int .i64 wd, .int .i64 dp, v], .agg #[.int .i64 e.x, .int .i64 e.b, .int .i64 e.h], .int .i64 x, .int .i64 y, .int .i64 h] W fun en w' => en = .returned (hidesV (askE wd dp L e x y h) (hid wd L e x y.toNat h)) ∧ Below W.heap.size W w') := ⟨fun W hW => Hides_any wd dp v L e x y h W (hv.below hW) hl⟩
  obtain ⟨g, c, rfl⟩ := hv.shape
  obtain ⟨M, hM⟩ : ∃ M, L.length = M := ⟨_, rfl⟩
  rw [hM] at HH ⊢
  have hE : askE wd dp L e x y h = 0 ∨ askE wd dp L e x y h = 1 ∨ askE wd dp L e x y h = 7 := chkE_cases _ _ _
  obtain ⟨E, hEE⟩ : ∃ E, askE wd dp L e x y h = E := ⟨_, rfl⟩
  obtain ⟨o, ho⟩ : ∃ o, hid wd L e x y.toNat h = o := ⟨_, rfl⟩
  rw [hEE, ho] at HH
  rw [hEE] at hE
  rw [hEE, ho]
  obtain ⟨ex, eb, eh⟩ := e
  simp only at HH ⊢
  clear hv hl hM hEE ho
  rcases hE with rfl | rfl | rfl
  · cases o with
    | none =>
      have HV : Kp (hidesV 0 none = .tuple #[.int .i64 0, .int .i64 0, .int .i64 8] ∧ seenV 0 none = .tuple #[.bool true, .int .i64 0]) := ⟨rfl, rfl⟩
      rw [HV.out.1] at HH
      rw [HV.out.2]
      go_enter Try.func29, Try.ntmps29
      go_wp2_with fail
      refine (HH.out _ (by repeat (first | exact Below.refl _ _ | refine Below.alloc ?_ (by simp <;> omega) _ | refine bDrewN ?_ _ | refine Below.drew ?_))).mono ?_
      rintro en w1 ⟨rfl, hb1⟩
      have HB1 : Kp (Below w.heap.size w w1) := ⟨Below.trans (by repeat (first | exact Below.refl _ _ | refine Below.alloc ?_ (by simp <;> omega) _ | refine bDrewN ?_ _ | refine Below.drew ?_)) (hb1.mono (by simp <;> omega))⟩
      clear hb1
      go_wp2
      go_ret2
      exact ⟨rfl, HB1.out⟩
    | some p =>
      obtain ⟨pc, pr⟩ := p
      have HV : Kp (hidesV 0 (some (pc, pr)) = .tuple #[.int .i64 pc, .int .i64 pr, .int .i64 0] ∧ seenV 0 (some (pc, pr)) = .tuple #[.bool false, .int .i64 0]) := ⟨rfl, rfl⟩
      rw [HV.out.1] at HH
      rw [HV.out.2]
      go_enter Try.func29, Try.ntmps29
      go_wp2_with fail
      refine (HH.out _ (by repeat (first | exact Below.refl _ _ | refine Below.alloc ?_ (by simp <;> omega) _ | refine bDrewN ?_ _ | refine Below.drew ?_))).mono ?_
      rintro en w1 ⟨rfl, hb1⟩
      have HB1 : Kp (Below w.heap.size w w1) := ⟨Below.trans (by repeat (first | exact Below.refl _ _ | refine Below.alloc ?_ (by simp <;> omega) _ | refine bDrewN ?_ _ | refine Below.drew ?_)) (hb1.mono (by simp <;> omega))⟩
      clear hb1
      go_wp2
      go_ret2
      exact ⟨rfl, HB1.out⟩
  · have HV : Kp (hidesV 1 o = .tuple #[.int .i64 0, .int .i64 0, .int .i64 1] ∧ seenV 1 o = .tuple #[.bool false, .int .i64 1]) := ⟨rfl, rfl⟩
    rw [HV.out.1] at HH
    rw [HV.out.2]
    go_enter Try.func29, Try.ntmps29
    go_wp2_with fail
    refine (HH.out _ (by repeat (first | exact Below.refl _ _ | refine Below.alloc ?_ (by simp <;> omega) _ | refine bDrewN ?_ _ | refine Below.drew ?_))).mono ?_
    rintro en w1 ⟨rfl, hb1⟩
    have HB1 : Kp (Below w.heap.size w w1) := ⟨Below.trans (by repeat (first | exact Below.refl _ _ | refine Below.alloc ?_ (by simp <;> omega) _ | refine bDrewN ?_ _ | refine Below.drew ?_)) (hb1.mono (by simp <;> omega))⟩
    clear hb1
    go_wp2
    go_ret2
    exact ⟨rfl, HB1.out⟩
  · have HV : Kp (hidesV 7 o = .tuple #[.int .i64 0, .int .i64 0, .int .i64 7] ∧ seenV 7 o = .tuple #[.bool false, .int .i64 7]) := ⟨rfl, rfl⟩
    rw [HV.out.1] at HH
    rw [HV.out.2]
    go_enter Try.func29, Try.ntmps29
    go_wp2_with fail
    refine (HH.out _ (by repeat (first | exact Below.refl _ _ | refine Below.alloc ?_ (by simp <;> omega) _ | refine bDrewN ?_ _ | refine Below.drew ?_))).mono ?_
    rintro en w1 ⟨rfl, hb1⟩
    have HB1 : Kp (Below w.heap.size w w1) := ⟨Below.trans (by repeat (first | exact Below.refl _ _ | refine Below.alloc ?_ (by simp <;> omega) _ | refine bDrewN ?_ _ | refine Below.drew ?_)) (hb1.mono (by simp <;> omega))⟩
    clear hb1
    go_wp2
    go_ret2
    exact ⟨rfl, HB1.out⟩
end Go.Proofs.Ytjnggchljilooaa.Sc
