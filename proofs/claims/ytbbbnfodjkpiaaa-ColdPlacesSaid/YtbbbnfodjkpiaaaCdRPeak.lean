/-
  WALKS (layer 4, cold): Peak, Most and Fit, by the reference.
-/
import Derived.Test.YtbbbnfodjkpiaaaCdRGreat
namespace Go.Proofs.Ytbbbnfodjkpiaaa.Cd
open Go Go.RowKit Go.Sort

def pkV (q : Bx → Int) (l : List Bx) : Int × Int := if boxesB l = true then (if l.length = 0 then (0, 0) else gR q l l.length) else (0, 0)
def pkE (l : List Bx) : Int := if boxesB l = true then (if l.length = 0 then 8 else 0) else 1
theorem rPeak_any (v : Value) (l : List Bx) (w : World) (hs : BS w v l) (hm : l.length ≤ 100000) :
    Calls Try.prog 41 #[v] w fun e w' => e = .returned (.tuple #[.int .i64 (pkV szQ l).1, .int .i64 (pkV szQ l).2, .int .i64 (pkE l)]) ∧ Below w.heap.size w w' := by
  have HQ : Kp (∀ W, Below w.heap.size w W → Calls Try.prog 37 #[v] W fun en w' => en = .returned (.bool (boxesB l)) ∧ Below W.heap.size W w') := ⟨fun W hW => rValidBoxes_any v l W (hs.below hW) hm⟩
  have HG : Kp (boxesB l = true → ∀ W, Below w.heap.size w W → Calls Try.prog 70 #[v] W fun e w' => e = .returned (.tuple #[.int .i64 (gR szQ l l.length).1, .int .i64 (gR szQ l l.length).2, .int .i64 (gR oneQ l l.length).1, .int .i64 (gR oneQ l l.length).2]) ∧ Below W.heap.size W w') := ⟨fun hv W hW => rgreatest_any v l W (hs.below hW) hv⟩
  have HV : Kp (pkV szQ l = if boxesB l = true then (if l.length = 0 then (0, 0) else gR szQ l l.length) else (0, 0)) := ⟨rfl⟩
  have HE : Kp (pkE l = if boxesB l = true then (if l.length = 0 then 8 else 0) else 1) := ⟨rfl⟩
  obtain ⟨E, hE⟩ : ∃ E, pkE l = E := ⟨_, rfl⟩
  obtain ⟨V, hV⟩ : ∃ V, pkV szQ l = V := ⟨_, rfl⟩
  obtain ⟨R1, hR1⟩ : ∃ R, gR szQ l l.length = R := ⟨_, rfl⟩
  obtain ⟨R2, hR2⟩ : ∃ R, gR oneQ l l.length = R := ⟨_, rfl⟩
  obtain ⟨B, hB⟩ : ∃ B, boxesB l = B := ⟨_, rfl⟩
  rw [hE] at HE ⊢
  rw [hV] at HV ⊢
  rw [hB] at HE HV HQ HG
  rw [hR1, hR2] at HG
  rw [hR1] at HV
  obtain ⟨g, c, rfl⟩ := hs.shape
  clear hs hE hV hR1 hR2 hB
  go_enter Try.func41, Try.ntmps41
  go_wp2_with fail
  refine (HQ.out _ (by repeat (first | exact Below.refl _ _ | refine Below.alloc ?_ (by simp <;> omega) _ | refine bDrewN ?_ _ | refine Below.drew ?_))).mono ?_
  rintro en w1 ⟨rfl, hb1⟩
  have HB1 : Kp (Below w.heap.size w w1) := ⟨Below.trans (by repeat (first | exact Below.refl _ _ | refine Below.alloc ?_ (by simp <;> omega) _ | refine bDrewN ?_ _ | refine Below.drew ?_)) (hb1.mono (by simp <;> omega))⟩
  clear hb1
  cases B with
  | false =>
    obtain rfl : E = 1 := HE.out
    obtain rfl : V = (0, 0) := HV.out
    go_wp2
    refine bodyPost_ret (v := .tuple #[.int .i64 0, .int .i64 0, .int .i64 1]) (by simp [results, Try.results41, go_sem]) rfl ⟨rfl, HB1.out⟩
  | true =>
    by_cases hl : l.length = 0
    · rw [hl] at HE HV
      obtain rfl : E = 8 := HE.out
      obtain rfl : V = (0, 0) := HV.out
      have hl2 : ((l.length : Int) == 0) = true := by rw [hl]; rfl
      clear hl
      go_wp2
      refine bodyPost_ret (v := .tuple #[.int .i64 0, .int .i64 0, .int .i64 8]) (by simp [results, Try.results41, go_sem]) rfl ⟨rfl, HB1.out⟩
    · have h1 := HE.out
      rw [if_pos rfl, if_neg hl] at h1
      have h2 := HV.out
      rw [if_pos rfl, if_neg hl] at h2
      subst h1 h2
      have hl2 : ((l.length : Int) == 0) = false := by rw [beq_eq_false_iff_ne]; omega
      clear hl HE HV
      go_wp2_with fail
      refine (HG.out trivial _ HB1.out).mono ?_
      rintro en w3 ⟨rfl, hb3⟩
      have HB3 := Kp.mk (HB1.out.trans (hb3.mono HB1.out.size))
      clear hb3
      go_wp2
      refine bodyPost_ret (v := .tuple #[.int .i64 V.1, .int .i64 V.2, .int .i64 0]) (by simp [results, Try.results41, go_sem]) rfl ⟨rfl, HB3.out⟩
theorem rMost_any (v : Value) (l : List Bx) (w : World) (hs : BS w v l) (hm : l.length ≤ 100000) :
    Calls Try.prog 43 #[v] w fun e w' => e = .returned (.tuple #[.int .i64 (pkV oneQ l).1, .int .i64 (pkV oneQ l).2, .int .i64 (pkE l)]) ∧ Below w.heap.size w w' := by
  have HQ : Kp (∀ W, Below w.heap.size w W → Calls Try.prog 37 #[v] W fun en w' => en = .returned (.bool (boxesB l)) ∧ Below W.heap.size W w') := ⟨fun W hW => rValidBoxes_any v l W (hs.below hW) hm⟩
  have HG : Kp (boxesB l = true → ∀ W, Below w.heap.size w W → Calls Try.prog 70 #[v] W fun e w' => e = .returned (.tuple #[.int .i64 (gR szQ l l.length).1, .int .i64 (gR szQ l l.length).2, .int .i64 (gR oneQ l l.length).1, .int .i64 (gR oneQ l l.length).2]) ∧ Below W.heap.size W w') := ⟨fun hv W hW => rgreatest_any v l W (hs.below hW) hv⟩
  have HV : Kp (pkV oneQ l = if boxesB l = true then (if l.length = 0 then (0, 0) else gR oneQ l l.length) else (0, 0)) := ⟨rfl⟩
  have HE : Kp (pkE l = if boxesB l = true then (if l.length = 0 then 8 else 0) else 1) := ⟨rfl⟩
  obtain ⟨E, hE⟩ : ∃ E, pkE l = E := ⟨_, rfl⟩
  obtain ⟨V, hV⟩ : ∃ V, pkV oneQ l = V := ⟨_, rfl⟩
  obtain ⟨R1, hR1⟩ : ∃ R, gR szQ l l.length = R := ⟨_, rfl⟩
  obtain ⟨R2, hR2⟩ : ∃ R, gR oneQ l l.length = R := ⟨_, rfl⟩
  obtain ⟨B, hB⟩ : ∃ B, boxesB l = B := ⟨_, rfl⟩
  rw [hE] at HE ⊢
  rw [hV] at HV ⊢
  rw [hB] at HE HV HQ HG
  rw [hR1, hR2] at HG
  rw [hR2] at HV
  obtain ⟨g, c, rfl⟩ := hs.shape
  clear hs hE hV hR1 hR2 hB
  go_enter Try.func43, Try.ntmps43
  go_wp2_with fail
  refine (HQ.out _ (by repeat (first | exact Below.refl _ _ | refine Below.alloc ?_ (by simp <;> omega) _ | refine bDrewN ?_ _ | refine Below.drew ?_))).mono ?_
  rintro en w1 ⟨rfl, hb1⟩
  have HB1 : Kp (Below w.heap.size w w1) := ⟨Below.trans (by repeat (first | exact Below.refl _ _ | refine Below.alloc ?_ (by simp <;> omega) _ | refine bDrewN ?_ _ | refine Below.drew ?_)) (hb1.mono (by simp <;> omega))⟩
  clear hb1
  cases B with
  | false =>
    obtain rfl : E = 1 := HE.out
    obtain rfl : V = (0, 0) := HV.out
    go_wp2
    refine bodyPost_ret (v := .tuple #[.int .i64 0, .int .i64 0, .int .i64 1]) (by simp [results, Try.results43, go_sem]) rfl ⟨rfl, HB1.out⟩
  | true =>
    by_cases hl : l.length = 0
    · rw [hl] at HE HV
      obtain rfl : E = 8 := HE.out
      obtain rfl : V = (0, 0) := HV.out
      have hl2 : ((l.length : Int) == 0) = true := by rw [hl]; rfl
      clear hl
      go_wp2
      refine bodyPost_ret (v := .tuple #[.int .i64 0, .int .i64 0, .int .i64 8]) (by simp [results, Try.results43, go_sem]) rfl ⟨rfl, HB1.out⟩
    · have h1 := HE.out
      rw [if_pos rfl, if_neg hl] at h1
      have h2 := HV.out
      rw [if_pos rfl, if_neg hl] at h2
      subst h1 h2
      have hl2 : ((l.length : Int) == 0) = false := by rw [beq_eq_false_iff_ne]; omega
      clear hl HE HV
      go_wp2_with fail
      refine (HG.out trivial _ HB1.out).mono ?_
      rintro en w3 ⟨rfl, hb3⟩
      have HB3 := Kp.mk (HB1.out.trans (hb3.mono HB1.out.size))
      clear hb3
      go_wp2
      refine bodyPost_ret (v := .tuple #[.int .i64 V.1, .int .i64 V.2, .int .i64 0]) (by simp [results, Try.results43, go_sem]) rfl ⟨rfl, HB3.out⟩
def fitB (l : List Bx) (p : Int) : Bool := boxesB l && (inB 0 10000 p && decide ((gR szQ l l.length).2 ≤ p))
theorem rfit_any (v : Value) (l : List Bx) (p : Int) (w : World) (hs : BS w v l) (hv : boxesB l = true) :
    Calls Try.prog 68 #[v, .int .i64 p] w fun e w' => e = .returned (.bool (decide ((gR szQ l l.length).2 ≤ p))) ∧ Below w.heap.size w w' := by
  have HG : Kp (∀ W, Below w.heap.size w W → Calls Try.prog 70 #[v] W fun e w' => e = .returned (.tuple #[.int .i64 (gR szQ l l.length).1, .int .i64 (gR szQ l l.length).2, .int .i64 (gR oneQ l l.length).1, .int .i64 (gR oneQ l l.length).2]) ∧ Below W.heap.size W w') := ⟨fun W hW => rgreatest_any v l W (hs.below hW) hv⟩
  obtain ⟨⟨a1, a2⟩, hR1⟩ : ∃ R, gR szQ l l.length = R := ⟨_, rfl⟩
  obtain ⟨⟨a3, a4⟩, hR2⟩ : ∃ R, gR oneQ l l.length = R := ⟨_, rfl⟩
  rw [hR1, hR2] at HG
  rw [hR1]
  simp only at HG ⊢
  obtain ⟨g, c, rfl⟩ := hs.shape
  clear hs hv hR1 hR2
  go_enter Try.func68, Try.ntmps68
  go_wp2_with fail
  refine (HG.out _ (by repeat (first | exact Below.refl _ _ | refine Below.alloc ?_ (by simp <;> omega) _ | refine bDrewN ?_ _ | refine Below.drew ?_))).mono ?_
  rintro en w1 ⟨rfl, hb1⟩
  have HB1 : Kp (Below w.heap.size w w1) := ⟨Below.trans (by repeat (first | exact Below.refl _ _ | refine Below.alloc ?_ (by simp <;> omega) _ | refine bDrewN ?_ _ | refine Below.drew ?_)) (hb1.mono (by simp <;> omega))⟩
  clear hb1
  go_wp2
  go_ret
  exact ⟨rfl, HB1.out⟩
end Go.Proofs.Ytbbbnfodjkpiaaa.Cd
