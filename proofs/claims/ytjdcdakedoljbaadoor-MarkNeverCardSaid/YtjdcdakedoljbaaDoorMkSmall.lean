/-
  THE WALK of the law's Small at any labels: it answers a bool (of sums that pass an int nothing is said).
-/
import Derived.Test.YtjdcdakedoljbaaDoorMkSameL
namespace Go.Proofs.YtjdcdakedoljbaaDoor.Mk
open Go Go.RowKit Go.Maps

set_option maxHeartbeats 1000000 in
theorem small_any (ga : Option Addr) (cap : Nat) (Ls : List (List FB)) (w : World) (h : Labels w ga Ls) (hk9 : Ls.length ≤ 1000000) (hn : ∀ L ∈ Ls, L.length ≤ maxLen) :
    Calls Tryd.prog 20 #[.slice ga Ls.length cap] w fun e w' => (∃ b, e = .returned (.bool b)) ∧ Below w.heap.size w w' := by
  have H := Lib.hid h
  have HN := Lib.hid hn
  clear h hn
  go_enter Tryd.func20, Tryd.ntmps20
  go_wp2
  go_loopw [10] (fun i wr => ∃ k : Nat, k ≤ Ls.length ∧ i = .int .i64 (k : Int) ∧ Below w.heap.size w wr) (fun i _ => Ls.length - (intOf i).toNat)
  case atStart => exact ⟨0, Nat.zero_le _, rfl, Below.refl _ _⟩
  case round =>
    obtain ⟨k, hk, rfl, hb⟩ := hrel
    have HB := Lib.hid hb
    have hz := hb.size
    clear hb
    by_cases hlt : k < Ls.length
    · obtain ⟨L, hL⟩ : ∃ L, Ls[k]? = some L := ⟨Ls[k], List.getElem?_eq_getElem hlt⟩
      obtain ⟨b, o, v, hg, hbl, hc, hv⟩ := H.out.at_ k L hL
      have hLn := HN.out L (List.mem_of_getElem? hL)
      unfold maxLen at hLn
      subst hg
      have c1 : wr.cell? ⟨b, o + k, none⟩ = some v := (HB.out.cell (p := ⟨b, _, none⟩) hbl).trans hc
      obtain ⟨g2, cap2, rfl, hc2⟩ := hv
      have HC := Lib.hid hc2
      obtain ⟨W0, rfl⟩ : ∃ W0, W0 = wr := ⟨_, rfl⟩
      clear hc hL hc2
      go_wp2
      go_loopw [16, 5] (fun i n wr => ∃ (j : Nat) (m : Int), j ≤ L.length ∧ i = .int .i64 (j : Int) ∧ n = .int .i64 m ∧ Below w.heap.size w wr) (fun i _ _ => L.length - (intOf i).toNat)
      case atStart => exact ⟨0, 0, Nat.zero_le _, rfl, rfl, HB.out⟩
      case round =>
        obtain ⟨j, m, hj, rfl, rfl, hb⟩ := hrel
        have HB2 := Lib.hid hb
        have hz2 := hb.size
        clear hb
        by_cases hlt2 : j < L.length
        · obtain ⟨f, hf⟩ : ∃ f, L[j]? = some f := ⟨L[j], List.getElem?_eq_getElem hlt2⟩
          obtain ⟨b', o', hg, hbl', hb1, hb2⟩ := HC.out j f hf
          subst hg
          have d1 : wr.cell? ⟨b', o' + j * 2, none⟩ = some (.string f.1) := (HB2.out.cell (p := ⟨b', _, none⟩) hbl').trans hb1
          have d2 : wr.cell? ⟨b', o' + j * 2 + 1, none⟩ = some (.string f.2) := (HB2.out.cell (p := ⟨b', _, none⟩) hbl').trans hb2
          have HBA : Kq (Below w.heap.size w (wr.alloc (Obj.cells #[Value.string f.1, Value.string f.2] 70))) := ⟨HB2.out.alloc hz2 _⟩
          clear hb1 hb2 hf
          go_wp2
          go_roundw
          case rel => exact ⟨j + 1, _, by omega, by go_num, rfl, HBA.out⟩
          case measure => simp [intOf]; omega
        · have hjl : j = L.length := by omega
          clear hjl
          by_cases hm : (2000 : Int) < m
          · go_wp2
            go_ret
            exact ⟨⟨_, rfl⟩, HB2.out⟩
          · go_wp2
            go_roundw
            case rel => exact ⟨k + 1, by omega, by go_num, HB2.out⟩
            case measure => simp [intOf]; omega
    · go_wp2
      go_ret
      exact ⟨⟨_, rfl⟩, HB.out⟩
theorem small_three (va vb vc : Value) (A L C : List FB) (w : World) (ha : RL w va A) (h : RL w vb L) (hc : RL w vc C) (nA : A.length ≤ maxLen) (nL : L.length ≤ maxLen) (nC : C.length ≤ maxLen) :
    Calls Tryd.prog 20 #[.slice (some ⟨w.heap.size, 0, none⟩) 3 3] (w.alloc (.cells #[va, vb, vc] 35)) fun e w' => (∃ b, e = .returned (.bool b)) ∧ Below w.heap.size w w' := by
  have hb : Below w.heap.size w (w.alloc (.cells #[va, vb, vc] 35)) := (Below.refl _ w).alloc (Nat.le_refl _) _
  refine (small_any (some ⟨w.heap.size, 0, none⟩) 3 [A, L, C] _ ⟨fun i M hM => ?_⟩ (by simp) ?_).mono ?_
  · match i, hM with
    | 0, hM =>
      simp only [List.getElem?_cons_zero, Option.some.injEq] at hM
      subst hM
      exact ⟨w.heap.size, 0, va, rfl, by simp, by simp, ha.below hb⟩
    | 1, hM =>
      simp only [List.getElem?_cons_succ, List.getElem?_cons_zero, Option.some.injEq] at hM
      subst hM
      exact ⟨w.heap.size, 0, vb, rfl, by simp, by simp, h.below hb⟩
    | 2, hM =>
      simp only [List.getElem?_cons_succ, List.getElem?_cons_zero, Option.some.injEq] at hM
      subst hM
      exact ⟨w.heap.size, 0, vc, rfl, by simp, by simp, hc.below hb⟩
    | i + 3, hM => simp at hM
  · intro M hM
    simp only [List.mem_cons, List.not_mem_nil, or_false] at hM
    rcases hM with rfl | rfl | rfl
    · exact nA
    · exact nL
    · exact nC
  · rintro e w1 ⟨h1, hb1⟩
    exact ⟨h1, hb.trans (hb1.mono (by simp))⟩
theorem small_two (va vb : Value) (A L : List FB) (w : World) (ha : RL w va A) (h : RL w vb L) (nA : A.length ≤ maxLen) (nL : L.length ≤ maxLen) :
    Calls Tryd.prog 20 #[.slice (some ⟨w.heap.size, 0, none⟩) 2 2] (w.alloc (.cells #[va, vb] 35)) fun e w' => (∃ b, e = .returned (.bool b)) ∧ Below w.heap.size w w' := by
  have hb : Below w.heap.size w (w.alloc (.cells #[va, vb] 35)) := (Below.refl _ w).alloc (Nat.le_refl _) _
  refine (small_any (some ⟨w.heap.size, 0, none⟩) 2 [A, L] _ ⟨fun i M hM => ?_⟩ (by simp) ?_).mono ?_
  · match i, hM with
    | 0, hM =>
      simp only [List.getElem?_cons_zero, Option.some.injEq] at hM
      subst hM
      exact ⟨w.heap.size, 0, va, rfl, by simp, by simp, ha.below hb⟩
    | 1, hM =>
      simp only [List.getElem?_cons_succ, List.getElem?_cons_zero, Option.some.injEq] at hM
      subst hM
      exact ⟨w.heap.size, 0, vb, rfl, by simp, by simp, h.below hb⟩
    | i + 2, hM => simp at hM
  · intro M hM
    simp only [List.mem_cons, List.not_mem_nil, or_false] at hM
    rcases hM with rfl | rfl
    · exact nA
    · exact nL
  · rintro e w1 ⟨h1, hb1⟩
    exact ⟨h1, hb.trans (hb1.mono (by simp))⟩
end Go.Proofs.YtjdcdakedoljbaaDoor.Mk
