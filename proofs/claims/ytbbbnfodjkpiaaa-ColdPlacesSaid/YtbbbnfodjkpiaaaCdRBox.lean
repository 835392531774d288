/-
  WALKS (layer 4, cold): boxes that are valid, by the reference.
-/
import Derived.Test.YtbbbnfodjkpiaaaCdRLoad
namespace Go.Proofs.Ytbbbnfodjkpiaaa.Cd
open Go Go.RowKit Go.Sort

set_option maxHeartbeats 1000000 in
theorem rValidBoxes_any (v : Value) (l : List Bx) (w : World) (hs : BS w v l) (hm : l.length ≤ 100000) :
    Calls Try.prog 37 #[v] w fun e w' => e = .returned (.bool (boxesB l)) ∧ Below w.heap.size w w' := by
  obtain ⟨g, c, rfl, -, hi⟩ := hs
  have HS := Lib.hid hi
  clear hi
  go_enter Try.func37, Try.ntmps37
  go_wp2
  go_loopw [7] (fun i wr => ∃ k : Nat, k ≤ l.length ∧ i = .int .i64 k ∧ Kp (∀ y ∈ l.take k, bxB y = true) ∧ Kp (Below w.heap.size w wr)) (fun i _ => l.length - (intOf i).toNat)
  case atStart => exact ⟨0, Nat.zero_le _, rfl, ⟨fun y hy => by simp at hy⟩, ⟨Below.refl _ _⟩⟩
  case round =>
    obtain ⟨k, hk, rfl, HA, HB⟩ := hrel
    by_cases hlt : k < l.length
    · obtain ⟨x, hx⟩ : ∃ x, l[k]? = some x := ⟨l[k], List.getElem?_eq_getElem hlt⟩
      obtain ⟨b, o, hg, hbl, hc1, hc2, hc3⟩ := HS.out k x hx
      subst hg
      have hbr : b < wr.heap.size := Nat.lt_of_lt_of_le hbl HB.out.size
      have c1 : wr.cell? ⟨b, o + k * 3, none⟩ = some (.int .i64 x.f) := (HB.out.cell (p := ⟨b, _, none⟩) hbl).trans hc1
      have c2 : wr.cell? ⟨b, o + k * 3 + 1, none⟩ = some (.int .i64 x.t) := (HB.out.cell (p := ⟨b, _, none⟩) hbl).trans hc2
      have c3 : wr.cell? ⟨b, o + k * 3 + 2, none⟩ = some (.int .i64 x.s) := (HB.out.cell (p := ⟨b, _, none⟩) hbl).trans hc3
      have HB2 : Kp (Below w.heap.size w (wr.alloc (.cells #[.int .i64 x.f, .int .i64 x.t, .int .i64 x.s] 64))) := ⟨HB.out.alloc HB.out.size _⟩
      have o1 : (k : Int) < (l.length : Int) := by omega
      have HX := Kp.mk hx
      clear hx hc1 hc2 hc3 hbl
      by_cases h1 : x.f < 0
      · have HE : Kp (boxesB l = false) := ⟨boxes_not HX.out (by rw [← Bool.not_eq_true, bx_iff]; omega)⟩
        go_wp2
        go_ret
        exact ⟨ret_bool HE.out.symm, HB2.out⟩
      · by_cases h2 : x.t ≤ x.f
        · have HE : Kp (boxesB l = false) := ⟨boxes_not HX.out (by rw [← Bool.not_eq_true, bx_iff]; omega)⟩
          go_wp2
          go_ret
          exact ⟨ret_bool HE.out.symm, HB2.out⟩
        · by_cases h3 : 1000000 < x.t
          · have HE : Kp (boxesB l = false) := ⟨boxes_not HX.out (by rw [← Bool.not_eq_true, bx_iff]; omega)⟩
            go_wp2
            go_ret
            exact ⟨ret_bool HE.out.symm, HB2.out⟩
          · cases h4 : inB 1 100 x.s with
            | false =>
              have HE : Kp (boxesB l = false) := ⟨boxes_not HX.out (by rw [← Bool.not_eq_true, bx_iff]; have := in_not h4; omega)⟩
              go_wp2_with fail
              refine (rwithin_at h4 _).mono ?_
              rintro en w2 ⟨rfl, rfl⟩
              go_wp2
              go_ret
              exact ⟨ret_bool HE.out.symm, HB2.out⟩
            | true =>
              have HA2 : Kp (∀ y ∈ l.take (k + 1), bxB y = true) := ⟨all_take HX.out HA.out (by rw [bx_iff]; have := in_iff.1 h4; omega)⟩
              go_wp2_with fail
              refine (rwithin_at h4 _).mono ?_
              rintro en w2 ⟨rfl, rfl⟩
              go_wp2
              go_roundw
              case rel => exact ⟨k + 1, by omega, by go_num, HA2, HB2⟩
              case measure => simp [intOf]; omega
    · have hkl : k = l.length := by omega
      have hA := HA.out
      rw [hkl, List.take_length] at hA
      have HE : Kp (boxesB l = decide ((l.length : Int) ≤ 60)) := ⟨by
        rw [Bool.eq_iff_iff, boxes_iff, decide_eq_true_eq]
        exact ⟨fun h => by omega, fun h => ⟨by omega, hA⟩⟩⟩
      clear hkl hA
      go_wp2
      go_ret
      exact ⟨ret_bool HE.out.symm, HB.out⟩
end Go.Proofs.Ytbbbnfodjkpiaaa.Cd
