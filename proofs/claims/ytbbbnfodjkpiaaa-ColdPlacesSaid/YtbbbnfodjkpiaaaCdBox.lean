/-
  WALKS (layer 4, cold): boxes that are laid in memory, and that they are valid, by the program and by the reference.
-/
import Derived.Test.YtbbbnfodjkpiaaaCdWalkA
import Derived.Test.YtbbbnfodjkpiaaaCdBoxP
namespace Go.Proofs.Ytbbbnfodjkpiaaa.Cd
open Go Go.RowKit

/-- Boxes laid in a slice. -/
def BS (w : World) (v : Value) (l : List Bx) : Prop :=
  ∃ g c, v = .slice g l.length c ∧ l.length ≤ c ∧ ∀ i s, l[i]? = some s → ∃ b o, g = some ⟨b, o, none⟩ ∧ b < w.heap.size ∧ w.cell? ⟨b, o + i * 3, none⟩ = some (.int .i64 s.f) ∧ w.cell? ⟨b, o + i * 3 + 1, none⟩ = some (.int .i64 s.t) ∧ w.cell? ⟨b, o + i * 3 + 2, none⟩ = some (.int .i64 s.s)
theorem BS.shape {w : World} {v : Value} {l : List Bx} (h : BS w v l) : ∃ g c, v = .slice g l.length c := by
  obtain ⟨g, c, e, -⟩ := h; exact ⟨g, c, e⟩
theorem BS.below {w w' : World} {v : Value} {l : List Bx} (h : BS w v l) (hb : Below w.heap.size w w') : BS w' v l := by
  obtain ⟨g, c, e, hc, hi⟩ := h
  refine ⟨g, c, e, hc, fun i s hs => ?_⟩
  obtain ⟨b, o, hg, hlt, h1, h2, h3⟩ := hi i s hs
  exact ⟨b, o, hg, Nat.lt_of_lt_of_le hlt hb.size, (hb.cell (p := ⟨b, _, none⟩) hlt).trans h1, (hb.cell (p := ⟨b, _, none⟩) hlt).trans h2, (hb.cell (p := ⟨b, _, none⟩) hlt).trans h3⟩
theorem boxes_long {l : List Bx} (h : 60 < l.length) : boxesB l = false := by
  rw [← Bool.not_eq_true, boxes_iff]; omega
theorem boxes_not {l : List Bx} {k : Nat} {x : Bx} (hx : l[k]? = some x) (h : bxB x = false) : boxesB l = false := by
  rw [← Bool.not_eq_true, boxes_iff]
  intro hh
  rw [hh.2 x (List.mem_of_getElem? hx)] at h
  cases h
theorem all_take {l : List Bx} {k : Nat} {x : Bx} (hx : l[k]? = some x) (h : ∀ y ∈ l.take k, bxB y = true) (g : bxB x = true) : ∀ y ∈ l.take (k + 1), bxB y = true := by
  have hk := (List.getElem?_eq_some_iff.1 hx).1
  have e : l[k] = x := (List.getElem?_eq_some_iff.1 hx).2
  intro y hy
  rw [List.take_succ_eq_append_getElem hk, e, List.mem_append, List.mem_singleton] at hy
  rcases hy with hy | rfl
  · exact h y hy
  · exact g
set_option maxHeartbeats 1000000 in
theorem ValidBoxes_any (v : Value) (l : List Bx) (w : World) (hs : BS w v l) :
    Calls Try.prog 36 #[v] w fun e w' => e = .returned (.bool (boxesB l)) ∧ Below w.heap.size w w' := by
  obtain ⟨g, c, rfl, -, hi⟩ := hs
  by_cases hlong : 60 < l.length
  · have HE : Kp (boxesB l = false) := ⟨boxes_long hlong⟩
    have h1 : (60 : Int) < (l.length : Int) := by omega
    clear hi
    go_enter Try.func36, Try.ntmps36
    go_wp2
    go_ret
    exact ⟨ret_bool HE.out.symm, Below.refl _ _⟩
  · have HL : Kp (l.length ≤ 60) := ⟨by omega⟩
    have h1 : ¬ (60 : Int) < (l.length : Int) := by omega
    have HS := Lib.hid hi
    clear hi hlong
    go_enter Try.func36, Try.ntmps36
    go_wp2
    clear h1
    go_loopw [10] (fun i wr => ∃ k : Nat, k ≤ l.length ∧ i = .int .i64 k ∧ Kp (∀ y ∈ l.take k, bxB y = true) ∧ Kp (Below w.heap.size w wr)) (fun i _ => l.length - (intOf i).toNat)
    case atStart => exact ⟨0, Nat.zero_le _, rfl, ⟨fun y hy => by simp at hy⟩, ⟨Below.refl _ _⟩⟩
    case round =>
      obtain ⟨k, hk, rfl, HA, HB⟩ := hrel
      by_cases hlt : k < l.length
      · obtain ⟨x, hx⟩ : ∃ x, l[k]? = some x := ⟨l[k], List.getElem?_eq_getElem hlt⟩
        obtain ⟨b, o, hg, hbl, hc1, hc2, hc3⟩ := HS.out k x hx
        subst hg
        have hbr : b < wr.heap.size := Nat.lt_of_lt_of_le hbl HB.out.size
        have c1 : wr.cell? ⟨b, o + k * 3, none⟩ = some (.int .i64 x.f) := (HB.out.cell (p := ⟨b, _, none⟩) hbl).trans hc1
        have c2 : wr.cell? ⟨b, o + k * 3 + 1, none⟩ = some (.int .i64 x.t) := (HB.out.cell (p := ⟨b, _, none⟩) hbl).trans hc2
        have c3 : wr.cell? ⟨b, o + k * 3 + 2, none⟩ = some (.int .i64 x.s) := (HB.out.cell (p := ⟨b, _, none⟩) hbl).trans hc3
        have o1 : (k : Int) < (l.length : Int) := by omega
        have o4 : k ≤ 60 := by have := HL.out; omega
        have HX := Kp.mk hx
        clear hx hc1 hc2 hc3 hbl
        cases h1 : inB 0 1000000 x.f && inB 0 1000000 x.t with
        | false =>
          have HE : Kp (boxesB l = false) := ⟨boxes_not HX.out (by unfold bxB; rw [← Bool.and_assoc, h1]; rfl)⟩
          have H1 := Kp.mk h1
          clear h1
          go_wp2_with fail
          refine (within_any 0 1000000 _ [x.f, x.t] _ (NS.two (by go_simp) (by go_simp)) (by simp)).mono ?_
          rw [allB2, H1.out]
          rintro en w2 ⟨rfl, rfl⟩
          go_wp2
          go_ret
          exact ⟨ret_bool HE.out.symm, (HB.out.alloc HB.out.size _).alloc (by have := HB.out.size; simp; omega) _⟩
        | true =>
          have H1 := Kp.mk h1
          clear h1
          by_cases h2 : x.f < x.t
          · have h2' : ¬ x.t ≤ x.f := by omega
            cases h3 : inB 1 100 x.s with
            | false =>
              have HE : Kp (boxesB l = false) := ⟨boxes_not HX.out (by unfold bxB; rw [h3, Bool.and_false, Bool.and_false, Bool.and_false])⟩
              have H3 := Kp.mk h3
              clear h3
              go_wp2_with fail
              refine (within_any 0 1000000 _ [x.f, x.t] _ (NS.two (by go_simp) (by go_simp)) (by simp)).mono ?_
              rw [allB2, H1.out]
              rintro en w2 ⟨rfl, rfl⟩
              go_wp2_with fail
              refine (within_any 1 100 _ [x.s] _ (NS.one (by go_simp)) (by simp)).mono ?_
              rw [allB1, H3.out]
              rintro en w2 ⟨rfl, rfl⟩
              go_wp2
              go_ret
              exact ⟨ret_bool HE.out.symm, ((HB.out.alloc HB.out.size _).alloc (by have := HB.out.size; simp; omega) _).alloc (by have := HB.out.size; simp; omega) _⟩
            | true =>
              have HA2 : Kp (∀ y ∈ l.take (k + 1), bxB y = true) := ⟨all_take HX.out HA.out (by have := H1.out; unfold bxB; rw [← Bool.and_assoc, this, h3, decide_eq_true h2]; rfl)⟩
              have H3 := Kp.mk h3
              clear h3
              go_wp2_with fail
              refine (within_any 0 1000000 _ [x.f, x.t] _ (NS.two (by go_simp) (by go_simp)) (by simp)).mono ?_
              rw [allB2, H1.out]
              rintro en w2 ⟨rfl, rfl⟩
              go_wp2_with fail
              refine (within_any 1 100 _ [x.s] _ (NS.one (by go_simp)) (by simp)).mono ?_
              rw [allB1, H3.out]
              rintro en w2 ⟨rfl, rfl⟩
              go_wp2
              go_roundw
              case rel => exact ⟨k + 1, by omega, by go_num, HA2, ⟨((HB.out.alloc HB.out.size _).alloc (by have := HB.out.size; simp; omega) _).alloc (by have := HB.out.size; simp; omega) _⟩⟩
              case measure => simp [intOf]; omega
          · have HE : Kp (boxesB l = false) := ⟨boxes_not HX.out (by unfold bxB; rw [decide_eq_false h2]; simp)⟩
            have h2' : x.t ≤ x.f := by omega
            go_wp2_with fail
            refine (within_any 0 1000000 _ [x.f, x.t] _ (NS.two (by go_simp) (by go_simp)) (by simp)).mono ?_
            rw [allB2, H1.out]
            rintro en w2 ⟨rfl, rfl⟩
            go_wp2
            go_ret
            exact ⟨ret_bool HE.out.symm, (HB.out.alloc HB.out.size _).alloc (by have := HB.out.size; simp; omega) _⟩
      · have HE : Kp (boxesB l = true) := ⟨boxes_iff.2 ⟨HL.out, fun y hy => HA.out y (by rw [List.take_of_length_le (by omega)]; exact hy)⟩⟩
        go_wp2
        go_ret
        exact ⟨ret_bool HE.out.symm, HB.out⟩
theorem ValidBoxes_yes (v : Value) (l : List Bx) (w : World) (hs : BS w v l) (h : boxesB l = true) : Calls Try.prog 36 #[v] w fun e w' => e = .returned (.bool true) ∧ Below w.heap.size w w' := h ▸ ValidBoxes_any v l w hs
theorem ValidBoxes_no (v : Value) (l : List Bx) (w : World) (hs : BS w v l) (h : boxesB l = false) : Calls Try.prog 36 #[v] w fun e w' => e = .returned (.bool false) ∧ Below w.heap.size w w' := h ▸ ValidBoxes_any v l w hs
end Go.Proofs.Ytbbbnfodjkpiaaa.Cd
