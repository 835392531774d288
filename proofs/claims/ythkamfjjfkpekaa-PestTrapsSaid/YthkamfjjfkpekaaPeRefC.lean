/-
  WALKS (layer 8, pest): the reference: rooms on the next day, and days on.
-/
import Derived.Test.YthkamfjjfkpekaaPeRefB
namespace Go.Proofs.Ythkamfjjfkpekaa.Pe
open Go Go.RowKit Go.Proofs Go.Sort

theorem contains_take {l : List Int} {k : Nat} {z n : Int} (hz : l[k]? = some z) : (l.take (k + 1)).contains n = ((l.take k).contains n || (z == n)) := by
  rw [List.take_add_one, hz, Option.toList_some, Bool.eq_iff_iff]
  simp only [List.contains_iff_mem, List.mem_append, List.mem_singleton, Bool.or_eq_true, beq_iff_eq]
  exact ⟨fun h => h.imp id Eq.symm, fun h => h.imp id Eq.symm⟩
theorem contains_at {l : List Int} {k : Nat} {n : Int} (hz : l[k]? = some n) : l.contains n = true := List.contains_iff_mem.2 (List.mem_of_getElem? hz)
theorem rhas_any (v : Value) (l : List Int) (n : Int) (w : World) (hv : IS w v l) (hl : l.length ≤ 9223372036854775807) : Calls Try.prog 107 #[v, .int .i64 n] w fun e w' => e = .returned (.bool (l.contains n)) ∧ w = w' := by
  obtain ⟨g, c, rfl, -, hi2⟩ := hv
  have HS := Kp.mk hi2
  obtain ⟨N, hN⟩ : ∃ N, l.length = N := ⟨_, rfl⟩
  have HN := Kp.mk hN
  rw [hN] at hl ⊢
  obtain ⟨CB, hCB⟩ : ∃ B, l.contains n = B := ⟨_, rfl⟩
  have HCB := Kp.mk hCB
  rw [hCB]
  clear hi2 hN hCB
  go_enter Try.func107, Try.ntmps107
  go_wp2
  go_loop [9] (fun i => ∃ k : Nat, k ≤ N ∧ i = .int .i64 k ∧ Kp ((l.take k).contains n = false)) (fun i => N - (intOf i).toNat)
  case atStart => exact ⟨0, Nat.zero_le _, rfl, ⟨rfl⟩⟩
  case round =>
    obtain ⟨k, hk, rfl, HA⟩ := hrel
    by_cases hlt : k < N
    · obtain ⟨z, hz⟩ : ∃ z, l[k]? = some z := ⟨_, List.getElem?_eq_getElem (by rw [HN.out]; exact hlt)⟩
      obtain ⟨b, o, hg, hc⟩ := HS.out k z hz
      subst hg
      have o1 : (k : Int) < (N : Int) := by omega
      have o4 : IntKind.i64.wrap ((k : Int) + 1) = (k : Int) + 1 := IntWalk.i64_in _ (by omega)
      have HT := Kp.mk (contains_take (n := n) hz)
      have HZ := Kp.mk hz
      clear hz
      by_cases hzn : z = n
      · subst hzn
        have HF : Kp (CB = true) := ⟨by rw [← HCB.out]; exact contains_at HZ.out⟩
        go_wp2
        go_ret
        exact ⟨by rw [HF.out]; rfl, rfl⟩
      · have i1 : (z == n) = false := by simpa using hzn
        have HA2 : Kp ((l.take (k + 1)).contains n = false) := ⟨by rw [HT.out, HA.out, i1]; rfl⟩
        clear hzn HT
        go_wp2
        go_round
        case rel => exact ⟨k + 1, by omega, by go_num, HA2⟩
        case measure => simp [intOf]; omega
    · have HF : Kp (CB = false) := ⟨by have := HA.out; rw [List.take_of_length_le (by have := HN.out; omega), HCB.out] at this; exact this⟩
      have o1 : ¬ (k : Int) < (N : Int) := by omega
      go_wp2
      go_ret
      exact ⟨by rw [HF.out]; rfl, rfl⟩
/-- The next day's rooms, by the first doors, as the document words it. -/
def rnextF (ds : List Dr) (sl : List Int) (S : Nat) : Nat → Nat
  | 0 => S
  | k + 1 =>
    let o := rnextF ds sl S k
    let d := ds.getD k default
    if sl.contains (k : Int) then o else
      let o1 := if S.testBit d.a.toNat then o ||| 2 ^ d.b.toNat else o
      if S.testBit d.b.toNat then o1 ||| 2 ^ d.a.toNat else o1
theorem rnextF_succ (ds : List Dr) (sl : List Int) (S k : Nat) : rnextF ds sl S (k + 1) = if sl.contains (k : Int) then rnextF ds sl S k else
    if S.testBit (ds.getD k default).b.toNat then (if S.testBit (ds.getD k default).a.toNat then rnextF ds sl S k ||| 2 ^ (ds.getD k default).b.toNat else rnextF ds sl S k) ||| 2 ^ (ds.getD k default).a.toNat else (if S.testBit (ds.getD k default).a.toNat then rnextF ds sl S k ||| 2 ^ (ds.getD k default).b.toNat else rnextF ds sl S k) := rfl
theorem rnextF_iff {ds : List Dr} {sl : List Int} {S i : Nat} : ∀ k : Nat, (rnextF ds sl S k).testBit i = true ↔ (S.testBit i = true ∨ ∃ j : Nat, j < k ∧ sl.contains (j : Int) = false ∧ ((S.testBit (ds.getD j default).a.toNat = true ∧ i = (ds.getD j default).b.toNat) ∨ (S.testBit (ds.getD j default).b.toNat = true ∧ i = (ds.getD j default).a.toNat)))
  | 0 => by simp [rnextF]
  | k + 1 => by
    have ih := rnextF_iff (ds := ds) (sl := sl) (S := S) (i := i) k
    have hsplit : (∃ j : Nat, j < k + 1 ∧ sl.contains (j : Int) = false ∧ ((S.testBit (ds.getD j default).a.toNat = true ∧ i = (ds.getD j default).b.toNat) ∨ (S.testBit (ds.getD j default).b.toNat = true ∧ i = (ds.getD j default).a.toNat))) ↔ ((∃ j : Nat, j < k ∧ sl.contains (j : Int) = false ∧ ((S.testBit (ds.getD j default).a.toNat = true ∧ i = (ds.getD j default).b.toNat) ∨ (S.testBit (ds.getD j default).b.toNat = true ∧ i = (ds.getD j default).a.toNat))) ∨ (sl.contains (k : Int) = false ∧ ((S.testBit (ds.getD k default).a.toNat = true ∧ i = (ds.getD k default).b.toNat) ∨ (S.testBit (ds.getD k default).b.toNat = true ∧ i = (ds.getD k default).a.toNat)))) := by
      constructor
      · rintro ⟨j, hj, h⟩
        by_cases e : j = k
        · subst e; exact .inr h
        · exact .inl ⟨j, by omega, h⟩
      · rintro (⟨j, hj, h⟩ | h)
        · exact ⟨j, by omega, h⟩
        · exact ⟨k, by omega, h⟩
    rw [hsplit, ← or_assoc, ← ih, rnextF_succ]
    cases hc : sl.contains (k : Int) with
    | true => simp
    | false =>
      simp only [Bool.false_eq_true, if_false, true_and]
      cases ha : S.testBit (ds.getD k default).a.toNat <;> cases hb : S.testBit (ds.getD k default).b.toNat <;> simp only [Bool.false_eq_true, if_false, if_true, false_and, true_and, or_false, false_or, Nat.testBit_or, Nat.testBit_two_pow, Bool.or_eq_true, decide_eq_true_eq]
      · exact or_congr_right eq_comm
      · exact or_congr_right eq_comm
      · rw [or_assoc]
        exact or_congr_right (or_congr eq_comm eq_comm)
theorem rnextF_eq (ds : List Dr) (sl : List Int) (S : Nat) : rnextF ds sl S ds.length = nextF (openF ds sl ds.length) S (openF ds sl ds.length).length := by
  apply Nat.eq_of_testBit_eq
  intro i
  rw [Bool.eq_iff_iff, rnextF_iff, nextF_mem]
  constructor
  · rintro (h | ⟨j, hj, hc, h⟩)
    · exact .inl h
    · refine .inr ⟨_, (openF_iff _).2 ⟨j, hj, hc, rfl⟩, ?_⟩
      rcases h with ⟨h1, h2⟩ | ⟨h1, h2⟩
      · exact ⟨.inl h1, .inr h2⟩
      · exact ⟨.inr h1, .inl h2⟩
  · rintro (h | ⟨d, hd, hs, hi⟩)
    · exact .inl h
    · obtain ⟨j, hj, hc, rfl⟩ := (openF_iff _).1 hd
      rcases hi with hi | hi
      · rcases hs with hs | hs
        · exact .inl (hi ▸ hs)
        · exact .inr ⟨j, hj, hc, .inr ⟨hs, hi⟩⟩
      · rcases hs with hs | hs
        · exact .inr ⟨j, hj, hc, .inl ⟨hs, hi⟩⟩
        · exact .inl (hi ▸ hs)
theorem rnextF_lt {ds : List Dr} {sl : List Int} {S : Nat} (hd : DoorsIn ds) (hS : S < 4096) : ∀ k : Nat, k ≤ ds.length → rnextF ds sl S k < 4096
  | 0, _ => hS
  | k + 1, hk => by
    have ih := rnextF_lt hd hS k (by omega) (sl := sl)
    have hdd := hd _ (getD_mem8 (show k < ds.length by omega))
    have pa := pow_small (a := (ds.getD k default).a.toNat) (by omega)
    have pb := pow_small (a := (ds.getD k default).b.toNat) (by omega)
    have hor : ∀ x y : Nat, x < 4096 → y < 4096 → x ||| y < 4096 := fun x y hx hy => Nat.or_lt_two_pow (n := 12) hx hy
    rw [rnextF_succ]
    split
    · exact ih
    · split
      · split
        · exact hor _ _ (hor _ _ ih (by omega)) (by omega)
        · exact hor _ _ ih (by omega)
      · split
        · exact hor _ _ ih (by omega)
        · exact ih
end Go.Proofs.Ythkamfjjfkpekaa.Pe
