/-
  WALKS (layer 4, cold): Over and Fit, by the program, at every input.
-/
import Derived.Test.YtbbbnfodjkpiaaaCdOver
namespace Go.Proofs.Ytbbbnfodjkpiaaa.Cd
open Go Go.RowKit Go.Sort

theorem over_any (v : Value) (l : List Bx) (p : Int) (w : World) (hs : BS w v l) (hv : boxesB l = true) :
    Calls Try.prog 72 #[v, .int .i64 p] w fun en w' => en = .returned (.tuple #[.int .i64 (oV (goO (sumQ szQ l) p (comes l))), .int .i64 (oE (goO (sumQ szQ l) p (comes l)))]) ∧ Below w.heap.size w w' := by
  rw [← oA_arrs]
  have hs' := hs
  obtain ⟨g, c, rfl, hc, hi⟩ := hs
  refine over_core g c l p w ?_
  intro W0 Y hY hb hz hA hM
  by_cases hl : l.length = 0
  · have hq : l = [] := List.eq_nil_of_length_eq_zero hl
    subst hq
    refine ⟨Y, .inr rfl, ?_⟩
    have : arrs szQ [] = [] := by simp [arrs, comes]
    rw [this]
    exact arrivals_yields0 5 (by omega) Y (Y + 1) c g W0 hA hM
  · obtain ⟨x0, hx0⟩ : ∃ x, l[0]? = some x := ⟨l[0], List.getElem?_eq_getElem (by omega)⟩
    obtain ⟨b, o, rfl, hb', -⟩ := hi 0 x0 hx0
    exact ⟨b, .inl hb', arrivals_yields 5 (by omega) Y (Y + 1) b o c l W0 hv (hs'.below hb) (Nat.lt_of_lt_of_le hb' hb.size) hA hM⟩
theorem over_ref {l : List Bx} {p : Int} (hv : boxesB l = true) (hin : inB 0 10000 p = true) :
    oE (goO (sumQ szQ l) p (comes l)) = ovE l p ∧ oV (goO (sumQ szQ l) p (comes l)) = ovV l p := by
  have h1 := over_same (p := p) hv
  have h2 : oR l p l.length = refO (sumQ szQ l) p (l.map (·.f)) := by unfold oR; rw [List.take_length]
  have hE : ovE l p = if oR l p l.length < 0 then 8 else 0 := by unfold ovE; rw [if_pos hv, if_pos hin]
  unfold ovV
  rw [hE, h2, ← h1]
  cases c : goO (sumQ szQ l) p (comes l) with
  | none => exact ⟨rfl, rfl⟩
  | some a =>
    have h3 := (over_pos hv c).1
    have h4 : ¬ optI (some a) < 0 := by show ¬ a < 0; omega
    rw [if_neg h4]
    exact ⟨rfl, rfl⟩
theorem Over_any (v : Value) (l : List Bx) (p : Int) (w : World) (hs : BS w v l) :
    Calls Try.prog 44 #[v, .int .i64 p] w fun e w' => e = .returned (.tuple #[.int .i64 (ovV l p), .int .i64 (ovE l p)]) ∧ Below w.heap.size w w' := by
  have HQ : Kp (∀ W, Below w.heap.size w W → Calls Try.prog 36 #[v] W fun en w' => en = .returned (.bool (boxesB l)) ∧ Below W.heap.size W w') := ⟨fun W hW => ValidBoxes_any v l W (hs.below hW)⟩
  have HL : Kp (boxesB l = true → inB 0 10000 p = true → ∀ W, Below w.heap.size w W → Calls Try.prog 72 #[v, .int .i64 p] W fun en w' => en = .returned (.tuple #[.int .i64 (ovV l p), .int .i64 (ovE l p)]) ∧ Below W.heap.size W w') := ⟨fun hv hin W hW => by
    have h := over_any v l p W (hs.below hW) hv
    rw [(over_ref hv hin).1, (over_ref hv hin).2] at h
    exact h⟩
  have HE : Kp (ovE l p = if boxesB l = true then (if inB 0 10000 p = true then (if oR l p l.length < 0 then 8 else 0) else 7) else 1) := ⟨rfl⟩
  have HV : Kp (ovV l p = if ovE l p = 0 then oR l p l.length else 0) := ⟨rfl⟩
  obtain ⟨E, hE⟩ : ∃ E, ovE l p = E := ⟨_, rfl⟩
  obtain ⟨V, hV⟩ : ∃ V, ovV l p = V := ⟨_, rfl⟩
  obtain ⟨S, hS⟩ : ∃ S, oR l p l.length = S := ⟨_, rfl⟩
  obtain ⟨B, hB⟩ : ∃ B, boxesB l = B := ⟨_, rfl⟩
  rw [hE] at HE HV HL ⊢
  rw [hV] at HV HL ⊢
  rw [hS] at HV HE
  rw [hB] at HE HQ HL
  obtain ⟨g, c, rfl⟩ := hs.shape
  clear hs hE hV hS hB
  go_enter Try.func44, Try.ntmps44
  go_wp2_with fail
  refine (HQ.out _ (by repeat (first | exact Below.refl _ _ | refine Below.alloc ?_ (by simp <;> omega) _ | refine bDrewN ?_ _ | refine Below.drew ?_))).mono ?_
  rintro en w1 ⟨rfl, hb1⟩
  have HB1 : Kp (Below w.heap.size w w1) := ⟨Below.trans (by repeat (first | exact Below.refl _ _ | refine Below.alloc ?_ (by simp <;> omega) _ | refine bDrewN ?_ _ | refine Below.drew ?_)) (hb1.mono (by simp <;> omega))⟩
  clear hb1
  cases B with
  | false =>
    obtain rfl : E = 1 := HE.out
    obtain rfl : V = 0 := HV.out
    go_wp2
    go_ret2
    exact ⟨rfl, HB1.out⟩
  | true =>
    have HW : Kp (∀ W tv, NS W tv [p] → Calls Try.prog 53 #[.int .i64 0, .int .i64 10000, tv] W fun e w' => e = .returned (.bool (allB 0 10000 [p])) ∧ W = w') := ⟨fun W tv ht => within_any 0 10000 tv [p] W ht (by simp)⟩
    rw [allB1] at HW
    go_wp2_with fail
    refine (HW.out _ _ (NS.one (by go_simp))).mono ?_
    rintro en w2 ⟨rfl, rfl⟩
    cases hin : inB 0 10000 p with
    | false =>
      rw [hin] at HE
      obtain rfl : E = 7 := HE.out
      obtain rfl : V = 0 := HV.out
      go_wp2
      go_ret2
      exact ⟨rfl, HB1.out.alloc HB1.out.size _⟩
    | true =>
      clear HE HV
      go_wp2_with fail
      refine (HL.out trivial hin _ (HB1.out.alloc HB1.out.size _)).mono ?_
      rintro en w3 ⟨rfl, hb3⟩
      have HB3 := Kp.mk ((HB1.out.alloc HB1.out.size _).trans (hb3.mono (HB1.out.alloc HB1.out.size _).size))
      clear hb3
      go_wp2
      go_ret2
      exact ⟨rfl, HB3.out⟩
theorem fit_ovE (l : List Bx) (p : Int) : fitB l p = decide (ovE l p = 8) := by
  unfold fitB
  cases hv : boxesB l with
  | false => unfold ovE; rw [hv]; rfl
  | true =>
    cases hin : inB 0 10000 p with
    | false => unfold ovE; rw [hv, hin]; rfl
    | true =>
      have h1 := (over_ref hv hin).1
      have h2 := fit_same (p := p) hv (in_iff.1 hin).1
      rw [← h1, gR_all, Bool.true_and, Bool.true_and]
      cases c : goO (sumQ szQ l) p (comes l) with
      | none => rw [decide_eq_true (h2.2 c)]; rfl
      | some a => rw [decide_eq_false (fun h => by rw [h2.1 h] at c; cases c)]; rfl
theorem Fit_any (v : Value) (l : List Bx) (p : Int) (w : World) (hs : BS w v l) :
    Calls Try.prog 38 #[v, .int .i64 p] w fun e w' => e = .returned (.bool (fitB l p)) ∧ Below w.heap.size w w' := by
  have HQ : Kp (∀ W, Below w.heap.size w W → Calls Try.prog 44 #[v, .int .i64 p] W fun en w' => en = .returned (.tuple #[.int .i64 (ovV l p), .int .i64 (ovE l p)]) ∧ Below W.heap.size W w') := ⟨fun W hW => Over_any v l p W (hs.below hW)⟩
  have HF : Kp (fitB l p = decide (ovE l p = 8)) := ⟨fit_ovE l p⟩
  obtain ⟨E, hE⟩ : ∃ E, ovE l p = E := ⟨_, rfl⟩
  obtain ⟨V, hV⟩ : ∃ V, ovV l p = V := ⟨_, rfl⟩
  obtain ⟨F, hF⟩ : ∃ F, fitB l p = F := ⟨_, rfl⟩
  rw [hE] at HQ HF
  rw [hV] at HQ
  rw [hF] at HF ⊢
  obtain ⟨g, c, rfl⟩ := hs.shape
  clear hs hE hV hF
  go_enter Try.func38, Try.ntmps38
  go_wp2_with fail
  refine (HQ.out _ (by repeat (first | exact Below.refl _ _ | refine Below.alloc ?_ (by simp <;> omega) _ | refine bDrewN ?_ _ | refine Below.drew ?_))).mono ?_
  rintro en w1 ⟨rfl, hb1⟩
  have HB1 : Kp (Below w.heap.size w w1) := ⟨Below.trans (by repeat (first | exact Below.refl _ _ | refine Below.alloc ?_ (by simp <;> omega) _ | refine bDrewN ?_ _ | refine Below.drew ?_)) (hb1.mono (by simp <;> omega))⟩
  clear hb1
  go_wp2
  go_ret
  exact ⟨by rw [HF.out]; rfl, HB1.out⟩
end Go.Proofs.Ytbbbnfodjkpiaaa.Cd
