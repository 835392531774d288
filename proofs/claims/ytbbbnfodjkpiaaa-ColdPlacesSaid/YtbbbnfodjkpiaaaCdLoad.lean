/-
  WALKS (layer 4, cold): Load, by the program and by the reference.
-/
import Derived.Test.YtbbbnfodjkpiaaaCdRBox
namespace Go.Proofs.Ytbbbnfodjkpiaaa.Cd
open Go Go.RowKit Go.Sort

def ldE (l : List Bx) (h : Int) : Int := if boxesB l = true then (if inB 0 1000000 h = true then 0 else 7) else 1
def ldV (l : List Bx) (h : Int) : Int := if ldE l h = 0 then sumQ szQ l h else 0
theorem Load_any (v : Value) (l : List Bx) (h : Int) (w : World) (hs : BS w v l) :
    Calls Try.prog 34 #[v, .int .i64 h] w fun en w' => en = .returned (.tuple #[.int .i64 (ldV l h), .int .i64 (ldE l h)]) ∧ Below w.heap.size w w' := by
  have HQ : Kp (∀ W, Below w.heap.size w W → Calls Try.prog 36 #[v] W fun en w' => en = .returned (.bool (boxesB l)) ∧ Below W.heap.size W w') := ⟨fun W hW => ValidBoxes_any v l W (hs.below hW)⟩
  have HL : Kp (boxesB l = true → ∀ W, Below w.heap.size w W → Calls Try.prog 65 #[v, .int .i64 h, .func (.func 66) #[] #[]] W fun en w' => en = .returned (.int .i64 (sumQ szQ l h)) ∧ Below W.heap.size W w') := ⟨fun hv W hW => sum_room v l h W (hs.below hW) hv⟩
  have HE : Kp (ldE l h = if boxesB l = true then (if inB 0 1000000 h = true then 0 else 7) else 1) := ⟨rfl⟩
  have HV : Kp (ldV l h = if ldE l h = 0 then sumQ szQ l h else 0) := ⟨rfl⟩
  obtain ⟨E, hE⟩ : ∃ E, ldE l h = E := ⟨_, rfl⟩
  obtain ⟨V, hV⟩ : ∃ V, ldV l h = V := ⟨_, rfl⟩
  obtain ⟨S, hS⟩ : ∃ S, sumQ szQ l h = S := ⟨_, rfl⟩
  obtain ⟨B, hB⟩ : ∃ B, boxesB l = B := ⟨_, rfl⟩
  rw [hE] at HE HV ⊢
  rw [hV] at HV ⊢
  rw [hS] at HV HL
  rw [hB] at HE HQ HL
  obtain ⟨g, c, rfl⟩ := hs.shape
  clear hs hE hV hS hB
  go_enter Try.func34, Try.ntmps34
  go_wp2_with fail
  refine (HQ.out _ (by repeat (first | exact Below.refl _ _ | refine Below.alloc ?_ (by simp <;> omega) _ | refine bDrewN ?_ _ | refine Below.drew ?_))).mono ?_
  rintro en w1 ⟨rfl, hb1⟩
  have HB1 : Kp (Below w.heap.size w w1) := ⟨Below.trans (by repeat (first | exact Below.refl _ _ | refine Below.alloc ?_ (by simp <;> omega) _ | refine bDrewN ?_ _ | refine Below.drew ?_)) (hb1.mono (by simp <;> omega))⟩
  clear hb1
  cases B with
  | false =>
    obtain rfl : E = 1 := HE.out
    obtain rfl : V = 0 := HV.out
    go_wp2
    go_ret2
    exact ⟨rfl, HB1.out⟩
  | true =>
    have HW : Kp (∀ W tv, NS W tv [h] → Calls Try.prog 53 #[.int .i64 0, .int .i64 1000000, tv] W fun e w' => e = .returned (.bool (allB 0 1000000 [h])) ∧ W = w') := ⟨fun W tv ht => within_any 0 1000000 tv [h] W ht (by simp)⟩
    rw [allB1] at HW
    go_wp2_with fail
    refine (HW.out _ _ (NS.one (by go_simp))).mono ?_
    rintro en w2 ⟨rfl, rfl⟩
    cases hin : inB 0 1000000 h with
    | false =>
      rw [hin] at HE
      obtain rfl : E = 7 := HE.out
      obtain rfl : V = 0 := HV.out
      go_wp2
      go_ret2
      exact ⟨rfl, HB1.out.alloc HB1.out.size _⟩
    | true =>
      rw [hin] at HE
      obtain rfl : E = 0 := HE.out
      obtain rfl : V = S := HV.out
      go_wp2_with fail
      refine (HL.out trivial _ (HB1.out.alloc HB1.out.size _)).mono ?_
      rintro en w3 ⟨rfl, hb3⟩
      have HB3 := Kp.mk ((HB1.out.alloc HB1.out.size _).trans (hb3.mono (HB1.out.alloc HB1.out.size _).size))
      clear hb3
      go_wp2
      go_ret2
      exact ⟨rfl, HB3.out⟩
theorem rLoad_any (v : Value) (l : List Bx) (h : Int) (w : World) (hs : BS w v l) (hm : l.length ≤ 100000) :
    Calls Try.prog 35 #[v, .int .i64 h] w fun en w' => en = .returned (.tuple #[.int .i64 (ldV l h), .int .i64 (ldE l h)]) ∧ Below w.heap.size w w' := by
  have HQ : Kp (∀ W, Below w.heap.size w W → Calls Try.prog 37 #[v] W fun en w' => en = .returned (.bool (boxesB l)) ∧ Below W.heap.size W w') := ⟨fun W hW => rValidBoxes_any v l W (hs.below hW) hm⟩
  have HL : Kp (boxesB l = true → ∀ W, Below w.heap.size w W → Calls Try.prog 67 #[v, .int .i64 h] W fun en w' => en = .returned (.tuple #[.int .i64 (sumQ szQ l h), .int .i64 (sumQ oneQ l h)]) ∧ Below W.heap.size W w') := ⟨fun hv W hW => load_any v l h W (hs.below hW) hv⟩
  have HE : Kp (ldE l h = if boxesB l = true then (if inB 0 1000000 h = true then 0 else 7) else 1) := ⟨rfl⟩
  have HV : Kp (ldV l h = if ldE l h = 0 then sumQ szQ l h else 0) := ⟨rfl⟩
  obtain ⟨E, hE⟩ : ∃ E, ldE l h = E := ⟨_, rfl⟩
  obtain ⟨V, hV⟩ : ∃ V, ldV l h = V := ⟨_, rfl⟩
  obtain ⟨S, hS⟩ : ∃ S, sumQ szQ l h = S := ⟨_, rfl⟩
  obtain ⟨B, hB⟩ : ∃ B, boxesB l = B := ⟨_, rfl⟩
  rw [hE] at HE HV ⊢
  rw [hV] at HV ⊢
  rw [hS] at HV HL
  rw [hB] at HE HQ HL
  obtain ⟨g, c, rfl⟩ := hs.shape
  clear hs hE hV hS hB
  go_enter Try.func35, Try.ntmps35
  go_wp2_with fail
  refine (HQ.out _ (by repeat (first | exact Below.refl _ _ | refine Below.alloc ?_ (by simp <;> omega) _ | refine bDrewN ?_ _ | refine Below.drew ?_))).mono ?_
  rintro en w1 ⟨rfl, hb1⟩
  have HB1 : Kp (Below w.heap.size w w1) := ⟨Below.trans (by repeat (first | exact Below.refl _ _ | refine Below.alloc ?_ (by simp <;> omega) _ | refine bDrewN ?_ _ | refine Below.drew ?_)) (hb1.mono (by simp <;> omega))⟩
  clear hb1
  cases B with
  | false =>
    obtain rfl : E = 1 := HE.out
    obtain rfl : V = 0 := HV.out
    go_wp2
    go_ret2
    exact ⟨rfl, HB1.out⟩
  | true =>
    cases hin : inB 0 1000000 h with
    | false =>
      rw [hin] at HE
      obtain rfl : E = 7 := HE.out
      obtain rfl : V = 0 := HV.out
      go_wp2_with fail
      refine (rwithin_at hin _).mono ?_
      rintro en w2 ⟨rfl, rfl⟩
      go_wp2
      go_ret2
      exact ⟨rfl, HB1.out⟩
    | true =>
      rw [hin] at HE
      obtain rfl : E = 0 := HE.out
      obtain rfl : V = S := HV.out
      go_wp2_with fail
      refine (rwithin_at hin _).mono ?_
      rintro en w2 ⟨rfl, rfl⟩
      go_wp2_with fail
      refine (HL.out trivial _ HB1.out).mono ?_
      rintro en w3 ⟨rfl, hb3⟩
      have HB3 := Kp.mk (HB1.out.trans (hb3.mono HB1.out.size))
      clear hb3
      go_wp2
      go_ret2
      exact ⟨rfl, HB3.out⟩
end Go.Proofs.Ytbbbnfodjkpiaaa.Cd
