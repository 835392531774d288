/-
  THE WALK of the law TopNear.
-/
import Derived.Test.YtdghgilnhganmabDoorTpAwake
import Derived.Test.YtdghgilnhganmabDoorMkNearB
import Derived.Test.YtdghgilnhganmabDoorTpNearP
import Derived.Deep.QuietTactic
import Derived.BigQuiet
namespace Go.Proofs.YtdghgilnhganmabDoor.Tp
open Go Go.RowKit Go.Proofs.YtdghgilnhganmabDoor.Cv

def EndsN (w : World) (e : Ending) (w' : World) : Prop := e = .returned (.bool true) ∧ Below w.heap.size w w'
/-- One of the two numbers has no mark. -/
theorem near_away (n k f1 f2 f3 : Int) (A B : ByteArray) (w : World) (ht : Mk.Tab w) (h : (f1 != 0) = true ∨ ((f1 != 0) = false ∧ (f2 != 0) = true))
    (HM1 : Kp (∀ W, Mk.Tab W → Calls Tryd.prog 21 #[.int .i64 n] W fun e w' => e = .returned (.tuple #[.string A, .int .i64 f1]) ∧ Below W.heap.size W w'))
    (HM2 : Kp (∀ W, Mk.Tab W → Calls Tryd.prog 21 #[.int .i64 k] W fun e w' => e = .returned (.tuple #[.string B, .int .i64 f2]) ∧ Below W.heap.size W w'))
    (HN : Kp (∀ W, Mk.Tab W → Calls Tryd.prog 22 #[.string A] W fun e w' => (∃ v, e = .returned (.tuple #[v, .int .i64 f3])) ∧ Below W.heap.size W w')) :
    Calls Tryd.prog 6 #[.int .i64 n, .int .i64 k] w (EndsN w) := by
  have HT := Kp.mk ht
  clear ht
  go_enter Tryd.func6, Tryd.ntmps6
  go_wp2_with fail
  refine (HM1.out _ HT.out).mono ?_
  rintro en w1 ⟨rfl, hb1⟩
  have HB1 := Kp.mk hb1
  clear hb1
  go_wp2_with fail
  refine (HM2.out _ (HT.out.below HB1.out)).mono ?_
  rintro en w2 ⟨rfl, hb2⟩
  have HB2 := Kp.mk (HB1.out.trans (hb2.mono HB1.out.size))
  clear hb2
  go_wp2_with fail
  refine (HN.out _ (HT.out.below HB2.out)).mono ?_
  rintro en w3 ⟨⟨v, rfl⟩, hb3⟩
  have HB3 := Kp.mk (HB2.out.trans (hb3.mono HB2.out.size))
  clear hb3
  rcases h with h | ⟨h, h2⟩
  all_goals
    go_wp2_with fail
    refine (awake5_any _ (HT.out.below HB3.out)).mono ?_
    rintro en w4 ⟨rfl, hb4⟩
    have HB4 := Kp.mk (HB3.out.trans (hb4.mono HB3.out.size))
    clear hb4
    go_wp2
    go_ret
    exact ⟨rfl, HB4.out⟩
theorem mark_bytes (n : Nat) {A : ByteArray} (h : (⟨(Mk.markL n).toArray⟩ : ByteArray) = A) : A.size = 8 ∧ ∀ j (hj : j < A.size), A[j] = (Mk.markL n).getD j 0 := by
  subst h
  exact ⟨rfl, fun j hj => (Mk.getD_of _ j hj).symm⟩
set_option maxHeartbeats 1000000 in
theorem near_core (n k : Nat) (hn : n ≤ 999999) (hk : k ≤ 999999) (w : World) (ht : Mk.Tab w) : Calls Tryd.prog 6 #[.int .i64 (n : Int), .int .i64 (k : Int)] w (EndsN w) := by
  obtain ⟨A, hA⟩ : ∃ A : ByteArray, (⟨(Mk.markL n).toArray⟩ : ByteArray) = A := ⟨_, rfl⟩
  obtain ⟨B, hB⟩ : ∃ B : ByteArray, (⟨(Mk.markL k).toArray⟩ : ByteArray) = B := ⟨_, rfl⟩
  obtain ⟨a8, ha⟩ := mark_bytes n hA
  obtain ⟨b8, hb⟩ := mark_bytes k hB
  have HM1 : Kp (∀ W, Mk.Tab W → Calls Tryd.prog 21 #[.int .i64 n] W fun e w' => e = .returned (.tuple #[.string A, .int .i64 0]) ∧ Below W.heap.size W w') := ⟨fun W hW => hA ▸ Mk.Mark_yes n W hn hW⟩
  have HM2 : Kp (∀ W, Mk.Tab W → Calls Tryd.prog 21 #[.int .i64 k] W fun e w' => e = .returned (.tuple #[.string B, .int .i64 0]) ∧ Below W.heap.size W w') := ⟨fun W hW => hB ▸ Mk.Mark_yes k W hk hW⟩
  have hd : A.data.toList = Mk.markL n := by rw [← hA]
  have HN : Kp (∀ W, Mk.Tab W → Calls Tryd.prog 22 #[.string A] W fun e w' => (∃ v, e = .returned (.tuple #[v, .int .i64 0]) ∧ Mk.RI w' v (Mk.nearL n)) ∧ Below W.heap.size W w') := ⟨fun W hW => by
    have h := Mk.near_main A W (by rw [a8]; decide) hW (by rw [hd]; exact Mk.form_mark n)
    rw [hd, (Mk.mark_nums n hn).1, (Mk.mark_nums n hn).2] at h
    exact h⟩
  have HLT : Kp (∀ (i : Nat) (x y : Int), (Mk.nearL n)[i]? = some x → (Mk.nearL n)[i + 1]? = some y → x < y) := ⟨fun i x y h1 h2 => Mk.near_lt hn h1 h2⟩
  have HEND : Kp ((Mk.nearL n).any (· == (k : Int)) = decide (Mk.dif n k 8 ≤ 1)) := ⟨by rw [Mk.any_mem]; exact decide_eq_decide.2 (Mk.near_has n k hn hk)⟩
  have HLEN : Kp ((Mk.nearL n).length ≤ 61) := ⟨Mk.near_size n⟩
  obtain ⟨L, hL⟩ : ∃ L, Mk.nearL n = L := ⟨_, rfl⟩
  rw [hL] at HN HLT HEND HLEN
  have HA := Kp.mk ha
  have HBB := Kp.mk hb
  have HT := Kp.mk ht
  have HDL : Kp (∀ j, Mk.dif n k j ≤ j) := ⟨Mk.dif_le n k⟩
  have HDS : Kp (∀ j, Mk.dif n k (j + 1) = Mk.dif n k j + if (Mk.markL n).getD j 0 = (Mk.markL k).getD j 0 then 0 else 1) := ⟨fun j => rfl⟩
  have HD0 : Kp (Mk.dif n k 0 = 0) := ⟨rfl⟩
  obtain ⟨D, hD⟩ : ∃ D, Mk.dif n k = D := ⟨_, rfl⟩
  rw [hD] at HEND HDL HDS HD0
  have h8 : ((A.size : Int) != 8) = false := by rw [a8]; rfl
  have h9 : ((B.size : Int) != 8) = false := by rw [b8]; rfl
  have H8 := Kp.mk (And.intro a8 b8)
  clear ha hb hA hB hd hL ht hD a8 b8 hn hk
  go_enter Tryd.func6, Tryd.ntmps6
  go_wp2_with fail
  refine (HM1.out _ HT.out).mono ?_
  rintro en w1 ⟨rfl, hb1⟩
  have HB1 := Kp.mk hb1
  clear hb1
  go_wp2_with fail
  refine (HM2.out _ (HT.out.below HB1.out)).mono ?_
  rintro en w2 ⟨rfl, hb2⟩
  have HB2 := Kp.mk (HB1.out.trans (hb2.mono HB1.out.size))
  clear hb2
  go_wp2_with fail
  refine (HN.out _ (HT.out.below HB2.out)).mono ?_
  rintro en w3 ⟨⟨v, rfl, hv⟩, hb3⟩
  have HB3 := Kp.mk (HB2.out.trans (hb3.mono HB2.out.size))
  clear hb3
  obtain ⟨g, cap, rfl, hc⟩ := hv
  have HC := Kp.mk hc
  obtain ⟨M, hM⟩ : ∃ M, L.length = M := ⟨_, rfl⟩
  have HM := Kp.mk hM
  rw [hM] at HLEN
  clear hc
  rw [hM]
  clear hM
  go_wp2_with fail
  go_loopw [11, 13] (fun d i wr => ∃ j : Nat, j ≤ 8 ∧ i = .int .i64 j ∧ d = .int .i64 (D j : Nat) ∧ Kp (Below w3.heap.size w3 wr)) (fun _ i _ => 8 - (intOf i).toNat)
  case atStart => exact ⟨0, Nat.zero_le _, rfl, by rw [HD0.out]; rfl, ⟨Below.refl _ _⟩⟩
  case round =>
    obtain ⟨j, hj, rfl, rfl, HB⟩ := hrel
    by_cases hlt : j < 8
    · have jA : j < A.size := by rw [H8.out.1]; exact hlt
      have jB : j < B.size := by rw [H8.out.2]; exact hlt
      have hs := HDS.out j
      have hl := HDL.out j
      obtain ⟨d, hd⟩ : ∃ d, D j = d := ⟨_, rfl⟩
      rw [hd] at hs hl ⊢
      rw [← HA.out j jA, ← HBB.out j jB] at hs
      have HDJ := Kp.mk hd
      clear hd
      by_cases he : A[j]'jA = B[j]'jB
      · rw [if_pos he] at hs
        have t1 : (((A[j]'jA).toNat : Int) != ((B[j]'jB).toNat : Int)) = false := by rw [he]; simp
        have HS := Kp.mk hs
        clear hs he
        go_wp2_with fail
        go_quiet (fail)
        go_wp2
        go_roundw
        case rel => exact ⟨j + 1, by omega, by go_num, by rw [HS.out]; rfl, ⟨by repeat (first | exact HB.out | refine bDrewN ?_ _ | refine Below.drew ?_)⟩⟩
        case measure => simp [intOf]; omega
      · rw [if_neg he] at hs
        have t1 : (((A[j]'jA).toNat : Int) != ((B[j]'jB).toNat : Int)) = true := by
          rw [bne_iff_ne]
          intro h
          exact he (UInt8.toNat_inj.1 (by omega))
        have HS := Kp.mk hs
        clear hs he
        go_wp2_with fail
        go_quiet (fail)
        go_wp2
        go_roundw
        case rel => exact ⟨j + 1, by omega, by go_num, by rw [HS.out]; go_num, ⟨by repeat (first | exact HB.out | refine bDrewN ?_ _ | refine Below.drew ?_)⟩⟩
        case measure => simp [intOf]; omega
    · obtain rfl : j = 8 := by omega
      obtain ⟨W0, rfl⟩ : ∃ W0, W0 = wr := ⟨_, rfl⟩
      have hd8 := HDL.out 8
      obtain ⟨d, hd⟩ : ∃ d, D 8 = d := ⟨_, rfl⟩
      rw [hd] at HEND hd8 ⊢
      clear hd
      go_wp2_with fail
      go_loopw [12, 65] (fun a i wr => ∃ j : Nat, j ≤ M ∧ i = .int .i64 j ∧ a = .bool ((L.take j).any (· == (k : Int))) ∧ Kp (Below w3.heap.size w3 wr)) (fun _ i _ => M - (intOf i).toNat)
      case atStart => exact ⟨0, Nat.zero_le _, rfl, rfl, HB⟩
      case round =>
        clear HB
        obtain ⟨j, hj, rfl, rfl, HB⟩ := hrel
        by_cases hlt : j < M
        · obtain ⟨x, hx⟩ : ∃ x, L[j]? = some x := ⟨_, List.getElem?_eq_getElem (by rw [HM.out]; exact hlt)⟩
          obtain ⟨b, hg, hcx⟩ := HC.out j x hx
          subst hg
          have c1 : wr.cell? ⟨b, j, none⟩ = some (.int .i64 x) := (HB.out.cell (p := ⟨b, j, none⟩) (World.block_lt_of_cell? _ _ hcx)).trans hcx
          have HA2 := Kp.mk (Mk.any_next (k : Int) hx)
          obtain ⟨P, hP⟩ : ∃ P, (L.take j).any (· == (k : Int)) = P := ⟨_, rfl⟩
          rw [hP] at HA2 ⊢
          obtain ⟨E, hE⟩ : ∃ E, (x == (k : Int)) = E := ⟨_, rfl⟩
          rw [hE] at HA2
          have o1 : (j : Int) < (M : Int) := by omega
          have hM := HLEN.out
          have HRES : Kp ((L.take (j + 1)).any (· == (k : Int)) = (P || E)) := HA2
          clear hcx hP HA2
          rcases Nat.eq_zero_or_pos j with h0 | hpos
          · have t5 : ¬ (0 : Int) < (j : Int) := by omega
            clear hx h0 hM
            cases P <;> cases E
            all_goals
              go_wp2_with fail
              go_roundw
              case rel => exact ⟨_, _, _, _, _, ⟨j + 1, by omega, by go_num, by rw [HRES.out]; rfl⟩, rfl, rfl, rfl, rfl, rfl⟩
              case measure => simp [intOf]; omega
          · obtain ⟨m, hm⟩ : ∃ m, m + 1 = j := ⟨j - 1, by omega⟩
            obtain ⟨y, hy⟩ : ∃ y, L[m]? = some y := ⟨_, List.getElem?_eq_getElem (by rw [HM.out]; omega)⟩
            obtain ⟨b', hg', hcy⟩ := HC.out m y hy
            simp only [Option.some.injEq, Addr.mk.injEq, and_true] at hg'
            subst hg'
            have c2 : wr.cell? ⟨b, m, none⟩ = some (.int .i64 y) := (HB.out.cell (p := ⟨b, m, none⟩) (World.block_lt_of_cell? _ _ hcy)).trans hcy
            have hlt2 := HLT.out m y x hy (by rw [hm]; exact hx)
            have t3 : ¬ x ≤ y := by omega
            have t4 : IntKind.i64.wrap ((j : Int) - 1) = (m : Int) := by rw [show (j : Int) - 1 = (m : Int) by omega]; exact IntWalk.i64_in _ (by omega)
            have t5 : (0 : Int) < (j : Int) := by omega
            have t6 : (m : Int) < (M : Int) := by omega
            clear hx hy hcy hlt2 hpos hm
            cases P <;> cases E
            all_goals
              go_wp2_with fail
              go_roundw
              case rel => exact ⟨_, _, _, _, _, ⟨j + 1, by omega, by go_num, by rw [HRES.out]; rfl⟩, rfl, rfl, rfl, rfl, rfl⟩
              case measure => simp [intOf]; omega
        · have t1 : (L.take j).any (· == (k : Int)) = decide (d ≤ 1) := by rw [List.take_of_length_le (by rw [HM.out]; omega)]; exact HEND.out
          have o1 : ¬ (j : Int) < (M : Int) := by omega
          have HB5 := Kp.mk (HB3.out.trans (HB.out.mono HB3.out.size))
          rw [t1]
          by_cases h1 : d ≤ 1
          · have t2 : (d : Int) ≤ 1 := by omega
            rw [decide_eq_true h1]
            clear t1
            go_wp2_with fail
            refine (awake5_any _ (HT.out.below HB5.out)).mono ?_
            rintro en w6 ⟨rfl, hb6⟩
            have HB6 := Kp.mk (HB5.out.trans (hb6.mono HB5.out.size))
            clear hb6
            go_wp2
            go_ret
            exact ⟨rfl, HB6.out⟩
          · have t2 : ¬ (d : Int) ≤ 1 := by omega
            rw [decide_eq_false h1]
            clear t1
            go_wp2_with fail
            refine (awake5_any _ (HT.out.below HB5.out)).mono ?_
            rintro en w6 ⟨rfl, hb6⟩
            have HB6 := Kp.mk (HB5.out.trans (hb6.mono HB5.out.size))
            clear hb6
            go_wp2
            go_ret
            exact ⟨rfl, HB6.out⟩
theorem lawNear_any (n k : Int) (w : World) (ht : Mk.Tab w) : Calls Tryd.prog 6 #[.int .i64 n, .int .i64 k] w (EndsN w) := by
  have one : ∀ (m : Int), (m < 0 ∨ 999999 < m) → Kp (∀ W, Mk.Tab W → Calls Tryd.prog 21 #[.int .i64 m] W fun e w' => e = .returned (.tuple #[.string ⟨#[]⟩, .int .i64 7]) ∧ Below W.heap.size W w') := fun m hm =>
    ⟨fun W _ => (Mk.Mark_no m W hm).mono fun e w' ⟨h1, h2⟩ => ⟨h1, by subst h2; exact Below.refl _ _⟩⟩
  have none : Kp (∀ W, Mk.Tab W → Calls Tryd.prog 22 #[.string ⟨#[]⟩] W fun e w' => (∃ v, e = .returned (.tuple #[v, .int .i64 2])) ∧ Below W.heap.size W w') :=
    ⟨fun W _ => (Mk.near_no ⟨#[]⟩ W (by decide) (by decide)).mono fun e w' ⟨h1, h2⟩ => ⟨⟨_, h1⟩, h2⟩⟩
  by_cases hn : n < 0 ∨ 999999 < n
  · by_cases hk : k < 0 ∨ 999999 < k
    · exact near_away n k 7 7 2 _ _ w ht (.inl rfl) (one n hn) (one k hk) none
    · obtain ⟨m, rfl⟩ := Int.eq_ofNat_of_zero_le (show 0 ≤ k by omega)
      exact near_away n m 7 0 2 _ _ w ht (.inl rfl) (one n hn) ⟨fun W hW => Mk.Mark_yes m W (by omega) hW⟩ none
  · obtain ⟨m, rfl⟩ := Int.eq_ofNat_of_zero_le (show 0 ≤ n by omega)
    have hm : m ≤ 999999 := by omega
    by_cases hk : k < 0 ∨ 999999 < k
    · refine near_away m k 0 7 0 _ _ w ht (.inr ⟨rfl, rfl⟩) ⟨fun W hW => Mk.Mark_yes m W hm hW⟩ (one k hk) ⟨fun W hW => ?_⟩
      exact (Mk.near_main ⟨(Mk.markL m).toArray⟩ W (by show 8 ≤ maxLen; decide) hW (Mk.form_mark m)).mono fun e w' ⟨⟨v, h1, _⟩, h2⟩ => ⟨⟨v, h1⟩, h2⟩
    · obtain ⟨k', rfl⟩ := Int.eq_ofNat_of_zero_le (show 0 ≤ k by omega)
      exact near_core m k' hm (by omega) w ht
end Go.Proofs.YtdghgilnhganmabDoor.Tp
