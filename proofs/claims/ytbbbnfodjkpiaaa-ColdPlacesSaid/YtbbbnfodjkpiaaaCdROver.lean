/-
  WALKS (layer 4, cold): Over and Fit, by the reference.
-/
import Derived.Test.YtbbbnfodjkpiaaaCdRPeak
namespace Go.Proofs.Ytbbbnfodjkpiaaa.Cd
open Go Go.RowKit Go.Sort

theorem rFit_any (v : Value) (l : List Bx) (p : Int) (w : World) (hs : BS w v l) (hm : l.length ≤ 100000) :
    Calls Try.prog 39 #[v, .int .i64 p] w fun e w' => e = .returned (.bool (fitB l p)) ∧ Below w.heap.size w w' := by
  have HQ : Kp (∀ W, Below w.heap.size w W → Calls Try.prog 37 #[v] W fun en w' => en = .returned (.bool (boxesB l)) ∧ Below W.heap.size W w') := ⟨fun W hW => rValidBoxes_any v l W (hs.below hW) hm⟩
  have HG : Kp (boxesB l = true → ∀ W, Below w.heap.size w W → Calls Try.prog 68 #[v, .int .i64 p] W fun e w' => e = .returned (.bool (decide ((gR szQ l l.length).2 ≤ p))) ∧ Below W.heap.size W w') := ⟨fun hv W hW => rfit_any v l p W (hs.below hW) hv⟩
  have HV : Kp (fitB l p = (boxesB l && (inB 0 10000 p && decide ((gR szQ l l.length).2 ≤ p)))) := ⟨rfl⟩
  obtain ⟨V, hV⟩ : ∃ V, fitB l p = V := ⟨_, rfl⟩
  obtain ⟨D, hD⟩ : ∃ D, decide ((gR szQ l l.length).2 ≤ p) = D := ⟨_, rfl⟩
  obtain ⟨B, hB⟩ : ∃ B, boxesB l = B := ⟨_, rfl⟩
  rw [hV, hD, hB] at HV
  rw [hD, hB] at HG
  rw [hB] at HQ
  rw [hV]
  obtain ⟨g, c, rfl⟩ := hs.shape
  clear hs hV hD hB
  go_enter Try.func39, Try.ntmps39
  go_wp2_with fail
  refine (HQ.out _ (by repeat (first | exact Below.refl _ _ | refine Below.alloc ?_ (by simp <;> omega) _ | refine bDrewN ?_ _ | refine Below.drew ?_))).mono ?_
  rintro en w1 ⟨rfl, hb1⟩
  have HB1 : Kp (Below w.heap.size w w1) := ⟨Below.trans (by repeat (first | exact Below.refl _ _ | refine Below.alloc ?_ (by simp <;> omega) _ | refine bDrewN ?_ _ | refine Below.drew ?_)) (hb1.mono (by simp <;> omega))⟩
  clear hb1
  cases B with
  | false =>
    obtain rfl : V = false := HV.out
    go_wp2
    go_ret
    exact ⟨rfl, HB1.out⟩
  | true =>
    cases hin : inB 0 10000 p with
    | false =>
      rw [hin] at HV
      obtain rfl : V = false := HV.out
      go_wp2_with fail
      refine (rwithin_at hin _).mono ?_
      rintro en w2 ⟨rfl, rfl⟩
      go_wp2
      go_ret
      exact ⟨rfl, HB1.out⟩
    | true =>
      rw [hin] at HV
      obtain rfl : V = D := HV.out
      go_wp2_with fail
      refine (rwithin_at hin _).mono ?_
      rintro en w2 ⟨rfl, rfl⟩
      go_wp2_with fail
      refine (HG.out trivial _ HB1.out).mono ?_
      rintro en w3 ⟨rfl, hb3⟩
      have HB3 := Kp.mk (HB1.out.trans (hb3.mono HB1.out.size))
      clear hb3
      go_wp2
      go_ret
      exact ⟨rfl, HB3.out⟩
def oR (l : List Bx) (p : Int) (k : Nat) : Int := refO (sumQ szQ l) p ((l.take k).map (·.f))
theorem oR_step {l : List Bx} {p : Int} {k : Nat} {x : Bx} (hx : l[k]? = some x) :
    (p < sumQ szQ l x.f ∧ oR l p k < 0 ∧ oR l p (k + 1) = x.f) ∨ (p < sumQ szQ l x.f ∧ ¬ oR l p k < 0 ∧ x.f < oR l p k ∧ oR l p (k + 1) = x.f) ∨ (p < sumQ szQ l x.f ∧ ¬ oR l p k < 0 ∧ ¬ x.f < oR l p k ∧ oR l p (k + 1) = oR l p k) ∨ (¬ p < sumQ szQ l x.f ∧ oR l p (k + 1) = oR l p k) := by
  obtain ⟨hk, e⟩ := List.getElem?_eq_some_iff.1 hx
  have hn : oR l p (k + 1) = if p < sumQ szQ l x.f ∧ (oR l p k < 0 ∨ x.f < oR l p k) then x.f else oR l p k := by
    unfold oR
    rw [List.take_succ_eq_append_getElem hk, e, List.map_append, List.map_cons, List.map_nil, refO_snoc]
  rw [hn]
  by_cases h1 : p < sumQ szQ l x.f
  · by_cases h2 : oR l p k < 0
    · exact .inl ⟨h1, h2, by rw [if_pos ⟨h1, .inl h2⟩]⟩
    · by_cases h3 : x.f < oR l p k
      · exact .inr (.inl ⟨h1, h2, h3, by rw [if_pos ⟨h1, .inr h3⟩]⟩)
      · refine .inr (.inr (.inl ⟨h1, h2, h3, ?_⟩))
        rw [if_neg]
        rintro ⟨-, h | h⟩
        · exact h2 h
        · exact h3 h
  · exact .inr (.inr (.inr ⟨h1, by rw [if_neg (fun h => h1 h.1)]⟩))
def ovE (l : List Bx) (p : Int) : Int := if boxesB l = true then (if inB 0 10000 p = true then (if oR l p l.length < 0 then 8 else 0) else 7) else 1
def ovV (l : List Bx) (p : Int) : Int := if ovE l p = 0 then oR l p l.length else 0
set_option maxHeartbeats 1000000 in
theorem rOver_in (v : Value) (l : List Bx) (p : Int) (w : World) (hs : BS w v l) (hv : boxesB l = true) (hin : inB 0 10000 p = true) :
    Calls Try.prog 45 #[v, .int .i64 p] w fun e w' => e = .returned (.tuple #[.int .i64 (ovV l p), .int .i64 (ovE l p)]) ∧ Below w.heap.size w w' := by
  have HQ : Kp (∀ W, Below w.heap.size w W → Calls Try.prog 37 #[v] W fun en w' => en = .returned (.bool true) ∧ Below W.heap.size W w') := ⟨fun W hW => hv ▸ rValidBoxes_any v l W (hs.below hW) (by have := (boxes_iff.1 hv).1; omega)⟩
  have HL : Kp (∀ W h, Below w.heap.size w W → Calls Try.prog 67 #[v, .int .i64 h] W fun en w' => en = .returned (.tuple #[.int .i64 (sumQ szQ l h), .int .i64 (sumQ oneQ l h)]) ∧ Below W.heap.size W w') := ⟨fun W h hW => load_any v l h W (hs.below hW) hv⟩
  have hl := (boxes_iff.1 hv).1
  have HE : Kp (ovE l p = if oR l p l.length < 0 then 8 else 0) := ⟨by unfold ovE; rw [if_pos hv, if_pos hin]⟩
  have HV : Kp (ovV l p = if ovE l p = 0 then oR l p l.length else 0) := ⟨rfl⟩
  obtain ⟨E, hE⟩ : ∃ E, ovE l p = E := ⟨_, rfl⟩
  obtain ⟨V, hV⟩ : ∃ V, ovV l p = V := ⟨_, rfl⟩
  rw [hE] at HE HV ⊢
  rw [hV] at HV ⊢
  obtain ⟨g, c, rfl, -, hi⟩ := hs
  have HS := Lib.hid hi
  clear hi hv hE hV
  go_enter Try.func45, Try.ntmps45
  go_wp2_with fail
  refine (HQ.out _ (by repeat (first | exact Below.refl _ _ | refine Below.alloc ?_ (by simp <;> omega) _ | refine bDrewN ?_ _ | refine Below.drew ?_))).mono ?_
  rintro en w1 ⟨rfl, hb1⟩
  have HB1 : Kp (Below w.heap.size w w1) := ⟨hb1⟩
  clear hb1
  go_wp2_with fail
  refine (rwithin_at hin _).mono ?_
  rintro en w2 ⟨rfl, rfl⟩
  go_wp2
  go_loopw [6, 19] (fun a i wr => ∃ k : Nat, k ≤ l.length ∧ i = .int .i64 k ∧ a = .int .i64 (oR l p k) ∧ Kp (Below w.heap.size w wr)) (fun _ i _ => l.length - (intOf i).toNat)
  case atStart => exact ⟨0, Nat.zero_le _, rfl, rfl, HB1⟩
  case round =>
    obtain ⟨k, hk, rfl, rfl, HB⟩ := hrel
    by_cases hlt : k < l.length
    · obtain ⟨x, hx⟩ : ∃ x, l[k]? = some x := ⟨l[k], List.getElem?_eq_getElem hlt⟩
      obtain ⟨b, o, hg, hbl, hc1, hc2, hc3⟩ := HS.out k x hx
      subst hg
      have hbr : b < wr.heap.size := Nat.lt_of_lt_of_le hbl HB.out.size
      have c1 : wr.cell? ⟨b, o + k * 3, none⟩ = some (.int .i64 x.f) := (HB.out.cell (p := ⟨b, _, none⟩) hbl).trans hc1
      have c2 : wr.cell? ⟨b, o + k * 3 + 1, none⟩ = some (.int .i64 x.t) := (HB.out.cell (p := ⟨b, _, none⟩) hbl).trans hc2
      have c3 : wr.cell? ⟨b, o + k * 3 + 2, none⟩ = some (.int .i64 x.s) := (HB.out.cell (p := ⟨b, _, none⟩) hbl).trans hc3
      have HB2 : Kp (Below w.heap.size w (wr.alloc (.cells #[.int .i64 x.f, .int .i64 x.t, .int .i64 x.s] 64))) := ⟨HB.out.alloc HB.out.size _⟩
      have o1 : (k : Int) < (l.length : Int) := by omega
      have o4 : k ≤ 60 := by omega
      have S1 := oR_step (p := p) hx
      have hq := fun W hW => HL.out W x.f hW
      obtain ⟨N, hN⟩ : ∃ N, sumQ szQ l x.f = N := ⟨_, rfl⟩
      obtain ⟨M, hM⟩ : ∃ M, sumQ oneQ l x.f = M := ⟨_, rfl⟩
      obtain ⟨a1, hA⟩ : ∃ a, oR l p k = a := ⟨_, rfl⟩
      rw [hN, hM] at hq
      rw [hN, hA] at S1
      rw [hA]
      have HQ2 := Lib.hid hq
      have HS1 := Lib.hid S1
      clear hx hc1 hc2 hc3 hbl hN hM hA hq S1
      go_wp2_with fail
      refine (HQ2.out _ HB2.out).mono ?_
      rintro en w3 ⟨rfl, hb3⟩
      have HB3 := Kp.mk (HB2.out.trans (hb3.mono HB2.out.size))
      have e1 : w3.cell? ⟨wr.heap.size, 0, none⟩ = some (.int .i64 x.f) := (hb3.cell (p := ⟨wr.heap.size, 0, none⟩) (by simp)).trans (by go_simp)
      have e2 : wr.heap.size < w3.heap.size := by have := hb3.size; simp at this; omega
      clear hb3 c1 c2 c3
      rcases HS1.out with ⟨p1, p2, P⟩ | ⟨p1, p2, p3, P⟩ | ⟨p1, p2, p3, P⟩ | ⟨p1, P⟩
      all_goals
        have KP := Kp.mk P
        clear P HS1
        go_wp2
        go_roundw
        case rel => exact ⟨k + 1, by omega, by go_num, by rw [KP.out], HB3⟩
        case measure => simp [intOf]; omega
    · have hkl : k = l.length := by omega
      rw [← hkl] at HE HV
      obtain ⟨a1, hA⟩ : ∃ a, oR l p k = a := ⟨_, rfl⟩
      rw [hA] at HE HV ⊢
      clear hkl hA
      by_cases h0 : a1 < 0
      · rw [if_pos h0] at HE
        obtain rfl : E = 8 := HE.out
        obtain rfl : V = 0 := HV.out
        go_wp2
        go_ret2
        exact ⟨rfl, HB.out⟩
      · rw [if_neg h0] at HE
        obtain rfl : E = 0 := HE.out
        obtain rfl : V = a1 := HV.out
        go_wp2
        go_ret2
        exact ⟨rfl, HB.out⟩
end Go.Proofs.Ytbbbnfodjkpiaaa.Cd
