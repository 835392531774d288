/-
  THE WALK of the law's Few at any parts: it answers a bool (of sums that pass an int nothing is said).
-/
import Derived.Test.YtjdcdakedoljbaaDoorMkPtA
import Derived.Test.YtjdcdakedoljbaaDoorMkSmall
namespace Go.Proofs.YtjdcdakedoljbaaDoor.Mk
open Go Go.RowKit Go.Maps Go.Sort

theorem small_one (va : Value) (A : List FB) (w : World) (ha : RL w va A) (nA : A.length ≤ maxLen) :
    Calls Tryd.prog 20 #[.slice (some ⟨w.heap.size, 0, none⟩) 1 1] (w.alloc (.cells #[va] 35)) fun e w' => (∃ b, e = .returned (.bool b)) ∧ Below w.heap.size w w' := by
  have hb : Below w.heap.size w (w.alloc (.cells #[va] 35)) := (Below.refl _ w).alloc (Nat.le_refl _) _
  refine (small_any (some ⟨w.heap.size, 0, none⟩) 1 [A] _ ⟨fun i M hM => ?_⟩ (by simp) ?_).mono ?_
  · match i, hM with
    | 0, hM =>
      simp only [List.getElem?_cons_zero, Option.some.injEq] at hM
      subst hM
      exact ⟨w.heap.size, 0, va, rfl, by simp, by simp, ha.below hb⟩
    | i + 1, hM => simp at hM
  · intro M hM
    simp only [List.mem_cons, List.not_mem_nil, or_false] at hM
    rw [hM]
    exact nA
  · rintro e w1 ⟨h1, hb1⟩
    exact ⟨h1, hb.trans (hb1.mono (by simp))⟩
set_option maxHeartbeats 1000000 in
theorem few_any (v : Value) (p : List PB) (w : World) (h : RP w v p) (hs : FitsP p) (hn : p.length ≤ maxLen) :
    Calls Tryd.prog 34 #[v] w fun e w' => (∃ b, e = .returned (.bool b)) ∧ Below w.heap.size w w' := by
  unfold maxLen at hn
  obtain ⟨g, cap, rfl, _, hc⟩ := h
  have HC := Lib.hid hc
  clear hc
  go_enter Tryd.func34, Tryd.ntmps34
  go_wp2
  go_loopw [8, 3] (fun i n wr => ∃ (k : Nat) (m : Int), k ≤ p.length ∧ i = .int .i64 (k : Int) ∧ n = .int .i64 m ∧ Below w.heap.size w wr) (fun i _ _ => p.length - (intOf i).toNat)
  case atStart => exact ⟨0, 0, Nat.zero_le _, rfl, rfl, Below.refl _ _⟩
  case round =>
    obtain ⟨k, m, hk, rfl, rfl, hb⟩ := hrel
    have HB := Lib.hid hb
    have hz := hb.size
    clear hb
    by_cases hlt : k < p.length
    · obtain ⟨x, hx⟩ : ∃ x, p[k]? = some x := ⟨p[k], List.getElem?_eq_getElem hlt⟩
      obtain ⟨b, o, lv, hg, hbl, hb1, hb2, hb3, hlab⟩ := HC.out k x hx
      subst hg
      have hfit := hs.out x (List.mem_of_getElem? hx)
      have c1 : wr.cell? ⟨b, o + k * 3, none⟩ = some (.string x.sign) := (HB.out.cell (p := ⟨b, _, none⟩) hbl).trans hb1
      have c2 : wr.cell? ⟨b, o + k * 3 + 1, none⟩ = some (.int .i64 x.from_) := (HB.out.cell (p := ⟨b, _, none⟩) hbl).trans hb2
      have c3 : wr.cell? ⟨b, o + k * 3 + 2, none⟩ = some lv := (HB.out.cell (p := ⟨b, _, none⟩) hbl).trans hb3
      obtain ⟨W, hW⟩ : ∃ W, wr.alloc (Obj.cells #[Value.string x.sign, .int .i64 x.from_, lv] 52) = W := ⟨_, rfl⟩
      have b1 : W.cell? ⟨wr.heap.size, 0, none⟩ = some (.string x.sign) := by rw [← hW]; simp [go_sem]
      have b3 : W.cell? ⟨wr.heap.size, 2, none⟩ = some lv := by rw [← hW]; simp [go_sem]
      have HBW : Kq (Below w.heap.size w W) := ⟨by rw [← hW]; exact HB.out.alloc hz _⟩
      have HS : Kq _ := ⟨small_one lv x.label W (hlab.below HBW.out) hfit.len⟩
      obtain ⟨g2, cl2, rfl⟩ := hlab.shape
      clear hb1 hb2 hb3 hx hfit hlab
      go_wp2_with fail
      refine HS.out.mono ?_
      rintro e w1 ⟨⟨sb, rfl⟩, hb1⟩
      have HB1 : Kq (Below w.heap.size w w1) := ⟨HBW.out.trans (hb1.mono HBW.out.size)⟩
      clear hb1 HS b1 b3
      cases sb with
      | false =>
        go_wp2
        go_ret
        exact ⟨⟨_, rfl⟩, HB1.out⟩
      | true =>
        go_wp2
        go_roundw
        case rel => exact ⟨k + 1, _, by omega, by go_num, rfl, HB1.out⟩
        case measure => simp [intOf]; omega
    · go_wp2
      go_ret
      exact ⟨⟨_, rfl⟩, HB.out⟩
end Go.Proofs.YtjdcdakedoljbaaDoor.Mk
