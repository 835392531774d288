/-
  WALKS (layer 7, scene): what 'checked' answers; cells and rows.
-/
import Derived.Test.YtjnggchljilooaaScBase
namespace Go.Proofs.Ytjnggchljilooaa.Sc
open Go Go.RowKit

/-- A slice of eyes. -/
def ES (w : World) (v : Value) (L : List Ey) : Prop :=
  ∃ g cap, v = .slice g L.length cap ∧ L.length ≤ cap ∧ ∀ i (x : Ey), L[i]? = some x → ∃ b o, g = some ⟨b, o, none⟩ ∧ w.cell? ⟨b, o + i * 3, none⟩ = some (.int .i64 x.x) ∧ w.cell? ⟨b, o + i * 3 + 1, none⟩ = some (.int .i64 x.b) ∧ w.cell? ⟨b, o + i * 3 + 2, none⟩ = some (.int .i64 x.h)
theorem ES.below {w w' : World} {v : Value} {L : List Ey} (h : ES w v L) (hb : Below w.heap.size w w') : ES w' v L := by
  obtain ⟨g, cap, hv, hc0, hc⟩ := h
  refine ⟨g, cap, hv, hc0, fun i x hx => ?_⟩
  obtain ⟨b, o, hg, h1, h2, h3⟩ := hc i x hx
  have hl := World.block_lt_of_cell? w _ h1
  exact ⟨b, o, hg, (hb.cell (p := ⟨b, o + i * 3, none⟩) hl).trans h1, (hb.cell (p := ⟨b, o + i * 3 + 1, none⟩) hl).trans h2, (hb.cell (p := ⟨b, o + i * 3 + 2, none⟩) hl).trans h3⟩
theorem ES.shape {w : World} {v : Value} {L : List Ey} (h : ES w v L) : ∃ g c, v = .slice g L.length c := by
  obtain ⟨g, c, e, -⟩ := h; exact ⟨g, c, e⟩
theorem es_nil (w : World) : ES w (.slice none 0 0) [] := ⟨none, 0, rfl, Nat.le_refl _, fun i x h => by simp at h⟩
theorem es_one {w : World} {b : Nat} {e : Ey} (h0 : w.cell? ⟨b, 0, none⟩ = some (.int .i64 e.x)) (h1 : w.cell? ⟨b, 1, none⟩ = some (.int .i64 e.b)) (h2 : w.cell? ⟨b, 2, none⟩ = some (.int .i64 e.h)) : ES w (.slice (some ⟨b, 0, none⟩) 1 1) [e] := by
  refine ⟨_, 1, rfl, Nat.le_refl _, fun i y hy => ⟨b, 0, rfl, ?_⟩⟩
  match i with
  | 0 => simp at hy; subst hy; exact ⟨h0, h1, h2⟩
  | i + 1 => simp at hy
set_option maxHeartbeats 1000000 in
theorem areAll_any (B : Nat) (wd : Int) (v : Value) (L : List Ey) (w : World) (hv : ES w v L) (hl : L.length ≤ 9223372036854775807) (hc : w.cell? ⟨B, 0, none⟩ = some (.int .i64 wd)) (h1 : 1 ≤ wd) (h2 : wd ≤ 24) :
    Calls Try.prog 74 #[v, .func (.func 76) #[] #[.pointer (some ⟨B, 0, none⟩)]] w fun e w' => e = .returned (.bool (L.all (eyB wd))) ∧ Below w.heap.size w w' := by
  have HE : Kp (∀ W (e : Ey), Below w.heap.size w W → Calls Try.prog 76 (#[.agg #[.int .i64 e.x, .int .i64 e.b, .int .i64 e.h]] ++ #[.pointer (some ⟨B, 0, none⟩)]) W fun en w' => en = .returned (.bool (eyB wd e)) ∧ Below W.heap.size W w') := ⟨fun W e hW => eye1_any B wd e W ((hW.cell (p := ⟨B, 0, none⟩) (World.block_lt_of_cell? _ _ hc)).trans hc) h1 h2⟩
  have HV := Kp.mk hv
  obtain ⟨g, c, rfl⟩ := hv.shape
  obtain ⟨N, hN⟩ : ∃ N, L.length = N := ⟨_, rfl⟩
  have HN := Kp.mk hN
  have HNL : Kp (N ≤ 9223372036854775807) := ⟨hN ▸ hl⟩
  rw [hN] at HV ⊢
  clear hv hN hl hc h1 h2
  go_enter Try.func74, Try.ntmps74
  go_wp2
  go_loopw [9] (fun i wr => ∃ k : Nat, k ≤ N ∧ i = .int .i64 k ∧ Kp ((L.take k).all (eyB wd) = true) ∧ Kp (Below w.heap.size w wr)) (fun i _ => N - (intOf i).toNat)
  case atStart => exact ⟨0, Nat.zero_le _, rfl, ⟨rfl⟩, ⟨Below.refl _ _⟩⟩
  case round =>
    obtain ⟨k, hk, rfl, HA, HB⟩ := hrel
    by_cases hlt : k < N
    · obtain ⟨x, hx⟩ : ∃ x, L[k]? = some x := ⟨_, List.getElem?_eq_getElem (by rw [HN.out]; exact hlt)⟩
      obtain ⟨g', c', e', -, hi⟩ := HV.out.below HB.out
      obtain ⟨b, o, hg, d0, d1, d2⟩ := hi k x hx
      simp only [Value.slice.injEq] at e'
      obtain ⟨rfl, -, -⟩ := e'
      subst hg
      have o1 : (k : Int) < (N : Int) := by omega
      have o4 : IntKind.i64.wrap ((k : Int) + 1) = (k : Int) + 1 := IntWalk.i64_in _ (by have := HNL.out; omega)
      have HT : Kp ((L.take (k + 1)).all (eyB wd) = eyB wd x ∧ (eyB wd x = false → L.all (eyB wd) = false)) := ⟨by
        have hk' := (List.getElem?_eq_some_iff.1 hx).1
        rw [List.take_succ_eq_append_getElem hk', (List.getElem?_eq_some_iff.1 hx).2, List.all_append, HA.out]
        simp, fun h => by rw [List.all_eq_false]; exact ⟨x, List.mem_of_getElem? hx, by simp [h]⟩⟩
      have HEX := Kp.mk (HE.out (wr.alloc (.cells #[.int .i64 x.x, .int .i64 x.b, .int .i64 x.h] 26)) x (HB.out.alloc HB.out.size _))
      have HB2 : Kp (Below w.heap.size w (wr.alloc (.cells #[.int .i64 x.x, .int .i64 x.b, .int .i64 x.h] 26))) := ⟨HB.out.alloc HB.out.size _⟩
      obtain ⟨R, hR⟩ : ∃ R, eyB wd x = R := ⟨_, rfl⟩
      rw [hR] at HT HEX
      clear hx hi hR
      go_wp2_with fail
      refine HEX.out.mono ?_
      rintro en w5 ⟨rfl, hb5⟩
      have HB5 := Kp.mk (HB2.out.trans (hb5.mono HB2.out.size))
      clear hb5 d0 d1 d2
      cases R with
      | false =>
        have HF := Kp.mk (HT.out.2 rfl)
        go_wp2
        go_ret
        exact ⟨ret_bool HF.out.symm, HB5.out⟩
      | true =>
        have HA2 := Kp.mk HT.out.1
        go_wp2
        go_roundw
        case rel => exact ⟨k + 1, by omega, by go_num, HA2, HB5⟩
        case measure => simp [intOf]; omega
    · have HF : Kp (L.all (eyB wd) = true) := ⟨by have := HA.out; rwa [List.take_of_length_le (by have := HN.out; omega)] at this⟩
      have o1 : ¬ (k : Int) < (N : Int) := by omega
      go_wp2
      go_ret
      exact ⟨ret_bool HF.out.symm, HB.out⟩
set_option maxHeartbeats 1000000 in
theorem checked_any (r : Bool) (wd dp : Int) (v u : Value) (L : List Int) (E : List Ey) (w : World) (hv : IS w v L) (hl : L.length ≤ 9223372036854775807) (hu : ES w u E) (hm : E.length ≤ 9223372036854775807) :
    Calls Try.prog 46 #[.bool r, .agg #[.int .i64 wd, .int .i64 dp, v], u] w fun e w' => e = .returned (.int .i64 (chkE r (gdB wd dp L) (E.all (eyB wd)))) ∧ Below w.heap.size w w' := by
  have HV : Kp (∀ W, Below w.heap.size w W → Calls Try.prog 16 #[.agg #[.int .i64 wd, .int .i64 dp, v]] W fun e w' => e = .returned (.bool (gdB wd dp L)) ∧ Below W.heap.size W w') := ⟨fun W hW => Valid_any wd dp v L W (hv.below hW) hl⟩
  have HA : Kp (∀ W B, gdB wd dp L = true → Below w.heap.size w W → W.cell? ⟨B, 0, none⟩ = some (.int .i64 wd) → Calls Try.prog 74 #[u, .func (.func 76) #[] #[.pointer (some ⟨B, 0, none⟩)]] W fun e w' => e = .returned (.bool (E.all (eyB wd))) ∧ Below W.heap.size W w') := ⟨fun W B hg hW hB => areAll_any B wd u E W (hu.below hW) hm hB (gdB_iff hg).1.1 (gdB_iff hg).1.2⟩
  obtain ⟨g, c, rfl⟩ := hv.shape
  obtain ⟨g2, c2, rfl⟩ := hu.shape
  have HCE : Kp (∀ a b : Bool, chkE r a b = if a && b then if r then 0 else 7 else 1) := ⟨fun _ _ => rfl⟩
  obtain ⟨A, hA⟩ : ∃ A, gdB wd dp L = A := ⟨_, rfl⟩
  obtain ⟨Q, hQ⟩ : ∃ Q, E.all (eyB wd) = Q := ⟨_, rfl⟩
  rw [hA] at HV HA ⊢
  rw [hQ] at HA ⊢
  rw [HCE.out]
  obtain ⟨N, hN⟩ : ∃ N, L.length = N := ⟨_, rfl⟩
  obtain ⟨M, hM⟩ : ∃ N, E.length = N := ⟨_, rfl⟩
  rw [hN] at HV ⊢
  rw [hM] at HA ⊢
  clear hv hl hu hm hA hQ hN hM HCE
  cases A with
  | false =>
    clear HA
    go_enter Try.func46, Try.ntmps46
    go_wp2_with fail
    refine (HV.out _ (by repeat (first | exact Below.refl _ _ | refine Below.alloc ?_ (by simp <;> omega) _ | refine bDrewN ?_ _ | refine Below.drew ?_))).mono ?_
    rintro en w1 ⟨rfl, hb1⟩
    have HB1 : Kp (Below w.heap.size w w1) := ⟨Below.trans (by repeat (first | exact Below.refl _ _ | refine Below.alloc ?_ (by simp <;> omega) _ | refine bDrewN ?_ _ | refine Below.drew ?_)) (hb1.mono (by simp <;> omega))⟩
    clear hb1
    go_wp2
    go_ret
    exact ⟨rfl, HB1.out⟩
  | true =>
    go_enter Try.func46, Try.ntmps46
    go_wp2_with fail
    refine (HV.out _ (by repeat (first | exact Below.refl _ _ | refine Below.alloc ?_ (by simp <;> omega) _ | refine bDrewN ?_ _ | refine Below.drew ?_))).mono ?_
    rintro en w1 ⟨rfl, hb1⟩
    have HB1 : Kp (Below w.heap.size w w1) := ⟨Below.trans (by repeat (first | exact Below.refl _ _ | refine Below.alloc ?_ (by simp <;> omega) _ | refine bDrewN ?_ _ | refine Below.drew ?_)) (hb1.mono (by simp <;> omega))⟩
    have c0 : w1.cell? ⟨w.heap.size, 0, none⟩ = some (.int .i64 wd) := (hb1.cell (p := ⟨w.heap.size, 0, none⟩) (by simp)).trans (by go_simp)
    have c1 : w1.cell? ⟨w.heap.size, 1, none⟩ = some (.int .i64 dp) := (hb1.cell (p := ⟨w.heap.size, 1, none⟩) (by simp)).trans (by go_simp)
    have c2 : w1.cell? ⟨w.heap.size, 2, none⟩ = some (.slice g N c) := (hb1.cell (p := ⟨w.heap.size, 2, none⟩) (by simp)).trans (by go_simp)
    clear hb1
    go_wp2_with fail
    refine (eyeOf_any _ _ _ _).mono ?_
    rintro en w2 ⟨rfl, hw2⟩
    have HB2 : Kp (Below w.heap.size w w2) := ⟨by rw [← hw2]; exact HB1.out.alloc HB1.out.size _⟩
    have q0 : w2.cell? ⟨w1.heap.size, 0, none⟩ = some (.int .i64 wd) := by subst hw2; go_simp
    have HAQ := Kp.mk (HA.out w2 _ (by first | rfl | trivial) HB2.out q0)
    clear hw2 c0 c1 c2 q0 HA
    go_wp2_with fail
    refine HAQ.out.mono ?_
    rintro en w3 ⟨rfl, hb3⟩
    have HB3 := Kp.mk (HB2.out.trans (hb3.mono HB2.out.size))
    clear hb3 HAQ
    cases Q with
    | false =>
      go_wp2
      go_ret
      exact ⟨rfl, HB3.out⟩
    | true =>
      cases r with
      | false =>
        go_wp2
        go_ret
        exact ⟨rfl, HB3.out⟩
      | true =>
        go_wp2
        go_ret
        exact ⟨rfl, HB3.out⟩
/-- What isRow and isCell answer, of whatever ground. -/
def rowB (dp y : Int) : Bool := inB 0 (IntKind.i64.wrap (dp - 1)) y
def cellB (wd dp x y : Int) : Bool := inB 0 (IntKind.i64.wrap (wd - 1)) x && rowB dp y
theorem isRow_any (wd dp : Int) (v : Value) (y : Int) (w : World) : Calls Try.prog 71 #[.agg #[.int .i64 wd, .int .i64 dp, v], .int .i64 y] w fun e w' => e = .returned (.bool (rowB dp y)) ∧ Below w.heap.size w w' := by
  have HW : Kp (∀ W u lo hi n, IS W u [n] → Calls Try.prog 51 #[.int .i64 lo, .int .i64 hi, u] W fun e w' => e = .returned (.bool (inB lo hi n)) ∧ W = w') := ⟨fun W u lo hi n hu => allIn_one lo hi n ▸ within_any lo hi u _ W hu (by simp)⟩
  have HR : Kp (rowB dp y = inB 0 (IntKind.i64.wrap (dp - 1)) y) := ⟨rfl⟩
  rw [HR.out]
  obtain ⟨D, hD⟩ : ∃ D, IntKind.i64.wrap (dp - 1) = D := ⟨_, rfl⟩
  rw [hD]
  have HW1 := Kp.mk (fun W u hu => HW.out W u 0 D y hu)
  clear HW HR
  go_enter Try.func71, Try.ntmps71
  go_wp2_with fail
  refine (HW1.out _ _ (is_one (by go_simp))).mono ?_
  rintro en w1 ⟨rfl, rfl⟩
  go_wp2
  go_ret
  exact ⟨rfl, by repeat (first | exact Below.refl _ _ | refine Below.alloc ?_ (by simp <;> omega) _ | refine bDrewN ?_ _ | refine Below.drew ?_)⟩
theorem isCell_any (wd dp : Int) (v : Value) (x y : Int) (w : World) : Calls Try.prog 47 #[.agg #[.int .i64 wd, .int .i64 dp, v], .int .i64 x, .int .i64 y] w fun e w' => e = .returned (.bool (cellB wd dp x y)) ∧ Below w.heap.size w w' := by
  have HW : Kp (∀ W u lo hi n, IS W u [n] → Calls Try.prog 51 #[.int .i64 lo, .int .i64 hi, u] W fun e w' => e = .returned (.bool (inB lo hi n)) ∧ W = w') := ⟨fun W u lo hi n hu => allIn_one lo hi n ▸ within_any lo hi u _ W hu (by simp)⟩
  have HR : Kp (cellB wd dp x y = (inB 0 (IntKind.i64.wrap (wd - 1)) x && rowB dp y)) := ⟨rfl⟩
  have HI : Kp (∀ W, Calls Try.prog 71 #[.agg #[.int .i64 wd, .int .i64 dp, v], .int .i64 y] W fun e w' => e = .returned (.bool (rowB dp y)) ∧ Below W.heap.size W w') := ⟨fun W => isRow_any wd dp v y W⟩
  rw [HR.out]
  obtain ⟨D, hD⟩ : ∃ D, IntKind.i64.wrap (wd - 1) = D := ⟨_, rfl⟩
  rw [hD]
  have HW1 := Kp.mk (fun W u hu => HW.out W u 0 D x hu)
  obtain ⟨A, hA⟩ : ∃ A, inB 0 D x = A := ⟨_, rfl⟩
  rw [hA] at HW1 ⊢
  clear hA HW HR
  cases A with
  | false =>
    go_enter Try.func47, Try.ntmps47
    go_wp2_with fail
    refine (HW1.out _ _ (is_one (by go_simp))).mono ?_
    rintro en w1 ⟨rfl, rfl⟩
    go_wp2
    go_ret
    exact ⟨rfl, by repeat (first | exact Below.refl _ _ | refine Below.alloc ?_ (by simp <;> omega) _ | refine bDrewN ?_ _ | refine Below.drew ?_)⟩
  | true =>
    go_enter Try.func47, Try.ntmps47
    go_wp2_with fail
    refine (HW1.out _ _ (is_one (by go_simp))).mono ?_
    rintro en w1 ⟨rfl, rfl⟩
    go_wp2_with fail
    refine (HI.out _).mono ?_
    rintro en w2 ⟨rfl, hb2⟩
    have HB2 : Kp (Below w.heap.size w w2) := ⟨Below.trans (by repeat (first | exact Below.refl _ _ | refine Below.alloc ?_ (by simp <;> omega) _ | refine bDrewN ?_ _ | refine Below.drew ?_)) (hb2.mono (by simp <;> omega))⟩
    clear hb2
    go_wp2
    go_ret
    exact ⟨by simp, HB2.out⟩
theorem cellAt_any (wd dp : Int) (v : Value) (x y : Int) (w : World) (h1 : 0 ≤ wd) (h2 : wd ≤ 24) (h3 : 0 ≤ x) (h4 : x ≤ 24) (h5 : 0 ≤ y) (h6 : y ≤ 24) : Calls Try.prog 48 #[.agg #[.int .i64 wd, .int .i64 dp, v], .int .i64 x, .int .i64 y] w fun e w' => e = .returned (.int .i64 (x + wd * y)) ∧ Below w.heap.size w w' := by
  have hp : 0 ≤ wd * y ∧ wd * y ≤ 24 * 24 := ⟨Int.mul_nonneg h1 h5, Int.mul_le_mul h2 h6 h5 (by omega)⟩
  have e1 : IntKind.i64.wrap (wd * y) = wd * y := IntWalk.i64_in _ (by omega)
  have e2 : IntKind.i64.wrap (x + wd * y) = x + wd * y := IntWalk.i64_in _ (by omega)
  clear hp h1 h2 h3 h4 h5 h6
  go_enter Try.func48, Try.ntmps48
  go_wp2
  go_ret
  exact ⟨rfl, by repeat (first | exact Below.refl _ _ | refine Below.alloc ?_ (by simp <;> omega) _ | refine bDrewN ?_ _ | refine Below.drew ?_)⟩
end Go.Proofs.Ytjnggchljilooaa.Sc
