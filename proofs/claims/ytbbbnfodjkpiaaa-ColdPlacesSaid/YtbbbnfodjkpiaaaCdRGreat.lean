/-
  WALKS (layer 4, cold): the greatest loads, by the reference.
-/
import Derived.Test.YtbbbnfodjkpiaaaCdLoad
namespace Go.Proofs.Ytbbbnfodjkpiaaa.Cd
open Go Go.RowKit Go.Sort

def gR (q : Bx → Int) (l : List Bx) (k : Nat) : Int × Int := refG (sumQ q l) ((l.take k).map (·.f))
theorem gR_all (q : Bx → Int) (l : List Bx) : gR q l l.length = refG (sumQ q l) (l.map (·.f)) := by unfold gR; rw [List.take_length]
/-- What a box does to the greatest one. -/
theorem gR_step {q : Bx → Int} {l : List Bx} {k : Nat} {x : Bx} (hx : l[k]? = some x) :
    ((gR q l k).2 < sumQ q l x.f ∧ gR q l (k + 1) = (x.f, sumQ q l x.f)) ∨ (¬ (gR q l k).2 < sumQ q l x.f ∧ sumQ q l x.f = (gR q l k).2 ∧ x.f < (gR q l k).1 ∧ gR q l (k + 1) = (x.f, (gR q l k).2)) ∨ (¬ (gR q l k).2 < sumQ q l x.f ∧ sumQ q l x.f = (gR q l k).2 ∧ ¬ x.f < (gR q l k).1 ∧ gR q l (k + 1) = gR q l k) ∨ (¬ (gR q l k).2 < sumQ q l x.f ∧ (sumQ q l x.f == (gR q l k).2) = false ∧ gR q l (k + 1) = gR q l k) := by
  obtain ⟨hk, e⟩ := List.getElem?_eq_some_iff.1 hx
  have hn : gR q l (k + 1) = if (gR q l k).2 < sumQ q l x.f ∨ sumQ q l x.f = (gR q l k).2 ∧ x.f < (gR q l k).1 then (x.f, sumQ q l x.f) else gR q l k := by
    unfold gR
    rw [List.take_succ_eq_append_getElem hk, e, List.map_append, List.map_cons, List.map_nil, refG_snoc]
  rw [hn]
  by_cases h1 : (gR q l k).2 < sumQ q l x.f
  · exact .inl ⟨h1, by rw [if_pos (.inl h1)]⟩
  · by_cases h2 : sumQ q l x.f = (gR q l k).2
    · by_cases h3 : x.f < (gR q l k).1
      · exact .inr (.inl ⟨h1, h2, h3, by rw [if_pos (.inr ⟨h2, h3⟩), h2]⟩)
      · refine .inr (.inr (.inl ⟨h1, h2, h3, ?_⟩))
        rw [if_neg]
        rintro (h | h)
        · exact h1 h
        · exact h3 h.2
    · refine .inr (.inr (.inr ⟨h1, by rw [beq_eq_false_iff_ne]; exact h2, ?_⟩))
      rw [if_neg]
      rintro (h | h)
      · exact h1 h
      · exact h2 h.1
set_option maxRecDepth 100000 in
set_option maxHeartbeats 2000000 in
theorem rgreatest_any (v : Value) (l : List Bx) (w : World) (hs : BS w v l) (hv : boxesB l = true) :
    Calls Try.prog 70 #[v] w fun e w' => e = .returned (.tuple #[.int .i64 (gR szQ l l.length).1, .int .i64 (gR szQ l l.length).2, .int .i64 (gR oneQ l l.length).1, .int .i64 (gR oneQ l l.length).2]) ∧ Below w.heap.size w w' := by
  have HQ : Kp (∀ W h, Below w.heap.size w W → Calls Try.prog 67 #[v, .int .i64 h] W fun en w' => en = .returned (.tuple #[.int .i64 (sumQ szQ l h), .int .i64 (sumQ oneQ l h)]) ∧ Below W.heap.size W w') := ⟨fun W h hW => load_any v l h W (hs.below hW) hv⟩
  have hl := (boxes_iff.1 hv).1
  obtain ⟨g, c, rfl, -, hi⟩ := hs
  have HS := Lib.hid hi
  obtain ⟨R1, hR1⟩ : ∃ R, gR szQ l l.length = R := ⟨_, rfl⟩
  obtain ⟨R2, hR2⟩ : ∃ R, gR oneQ l l.length = R := ⟨_, rfl⟩
  rw [hR1, hR2]
  have HR := Kp.mk (And.intro hR1 hR2)
  clear hi hv hR1 hR2
  go_enter Try.func70, Try.ntmps70
  go_wp2
  go_loopw [2, 3, 4, 5, 12] (fun a1 a2 a3 a4 i wr => ∃ k : Nat, k ≤ l.length ∧ i = .int .i64 k ∧ a1 = .int .i64 (gR szQ l k).1 ∧ a2 = .int .i64 (gR szQ l k).2 ∧ a3 = .int .i64 (gR oneQ l k).1 ∧ a4 = .int .i64 (gR oneQ l k).2 ∧ Kp (Below w.heap.size w wr)) (fun _ _ _ _ i _ => l.length - (intOf i).toNat)
  case atStart => exact ⟨0, Nat.zero_le _, rfl, rfl, rfl, rfl, rfl, ⟨Below.refl _ _⟩⟩
  case round =>
    obtain ⟨k, hk, rfl, rfl, rfl, rfl, rfl, HB⟩ := hrel
    by_cases hlt : k < l.length
    · obtain ⟨x, hx⟩ : ∃ x, l[k]? = some x := ⟨l[k], List.getElem?_eq_getElem hlt⟩
      obtain ⟨b, o, hg, hbl, hc1, hc2, hc3⟩ := HS.out k x hx
      subst hg
      have hbr : b < wr.heap.size := Nat.lt_of_lt_of_le hbl HB.out.size
      have c1 : wr.cell? ⟨b, o + k * 3, none⟩ = some (.int .i64 x.f) := (HB.out.cell (p := ⟨b, _, none⟩) hbl).trans hc1
      have c2 : wr.cell? ⟨b, o + k * 3 + 1, none⟩ = some (.int .i64 x.t) := (HB.out.cell (p := ⟨b, _, none⟩) hbl).trans hc2
      have c3 : wr.cell? ⟨b, o + k * 3 + 2, none⟩ = some (.int .i64 x.s) := (HB.out.cell (p := ⟨b, _, none⟩) hbl).trans hc3
      have HB2 : Kp (Below w.heap.size w (wr.alloc (.cells #[.int .i64 x.f, .int .i64 x.t, .int .i64 x.s] 64))) := ⟨HB.out.alloc HB.out.size _⟩
      have o1 : (k : Int) < (l.length : Int) := by omega
      have o4 : k ≤ 60 := by omega
      have S1 := gR_step (q := szQ) hx
      have S2 := gR_step (q := oneQ) hx
      have hq := fun W hW => HQ.out W x.f hW
      obtain ⟨N, hN⟩ : ∃ N, sumQ szQ l x.f = N := ⟨_, rfl⟩
      obtain ⟨M, hM⟩ : ∃ M, sumQ oneQ l x.f = M := ⟨_, rfl⟩
      obtain ⟨⟨a1, a2⟩, hA⟩ : ∃ a, gR szQ l k = a := ⟨_, rfl⟩
      obtain ⟨⟨a3, a4⟩, hA2⟩ : ∃ a, gR oneQ l k = a := ⟨_, rfl⟩
      rw [hN, hM] at hq
      rw [hN, hA] at S1
      rw [hM, hA2] at S2
      rw [hA, hA2]
      simp only at S1 S2 ⊢
      have HQ2 := Lib.hid hq
      have HS1 := Lib.hid S1
      have HS2 := Lib.hid S2
      clear hx hc1 hc2 hc3 hbl hN hM hA hA2 hq S1 S2
      go_wp2_with fail
      refine (HQ2.out _ HB2.out).mono ?_
      rintro en w3 ⟨rfl, hb3⟩
      have HB3 := Kp.mk (HB2.out.trans (hb3.mono HB2.out.size))
      have e1 : w3.cell? ⟨wr.heap.size, 0, none⟩ = some (.int .i64 x.f) := (hb3.cell (p := ⟨wr.heap.size, 0, none⟩) (by simp)).trans (by go_simp)
      have e2 : wr.heap.size < w3.heap.size := by have := hb3.size; simp at this; omega
      clear hb3 c1 c2 c3
      rcases HS1.out with ⟨p1, P⟩ | ⟨p1, rfl, p3, P⟩ | ⟨p1, rfl, p3, P⟩ | ⟨p1, p2, P⟩ <;> rcases HS2.out with ⟨q1, Q⟩ | ⟨q1, rfl, q3, Q⟩ | ⟨q1, rfl, q3, Q⟩ | ⟨q1, q2, Q⟩
      all_goals
        have KP := Kp.mk P
        have KQ := Kp.mk Q
        clear P Q HS1 HS2
        go_wp2
        go_roundw
        case rel => exact ⟨k + 1, by omega, by go_num, by rw [KP.out], by rw [KP.out], by rw [KQ.out], by rw [KQ.out], HB3⟩
        case measure => simp [intOf]; omega
    · have hkl : k = l.length := by omega
      have HE : Kp (gR szQ l k = R1 ∧ gR oneQ l k = R2) := ⟨by rw [hkl]; exact HR.out⟩
      obtain ⟨⟨a1, a2⟩, hA⟩ : ∃ a, gR szQ l k = a := ⟨_, rfl⟩
      obtain ⟨⟨a3, a4⟩, hA2⟩ : ∃ a, gR oneQ l k = a := ⟨_, rfl⟩
      rw [hA, hA2] at HE
      rw [hA, hA2]
      clear hkl hA hA2 HR
      obtain ⟨rfl, rfl⟩ := HE.out
      clear HE
      go_wp2
      refine bodyPost_ret (v := .tuple #[.int .i64 a1, .int .i64 a2, .int .i64 a3, .int .i64 a4]) (by simp [results, Try.results70, go_sem]) rfl ⟨rfl, HB.out⟩
end Go.Proofs.Ytbbbnfodjkpiaaa.Cd
