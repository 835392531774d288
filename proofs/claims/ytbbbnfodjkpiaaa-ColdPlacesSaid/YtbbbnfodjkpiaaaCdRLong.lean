/-
  WALKS (layer 4, cold): the longest stretch of cold hours, by the reference.
-/
import Derived.Test.YtbbbnfodjkpiaaaCdLong
import Derived.Test.YtbbbnfodjkpiaaaCdRAt
namespace Go.Proofs.Ytbbbnfodjkpiaaa.Cd
open Go Go.RowKit Go.Sort

theorem Longest_any (v : Value) (l : List Rd) (e temp : Int) (w : World) (hs : RS w v l) :
    Calls Try.prog 27 #[v, .int .i64 e, .int .i64 temp] w fun en w' => en = .returned (.tuple #[.int .i64 (lgR l e temp).1, .int .i64 (lgR l e temp).2.1, .int .i64 (lgR l e temp).2.2]) ∧ Below w.heap.size w w' := by
  by_cases h : chkE l e [temp] = 0
  · obtain ⟨hg, ht⟩ := chk_good h
    exact Longest_in v l e temp w hs hg ht
  · have e1 : lgR l e temp = (0, 0, chkE l e [temp]) := by unfold lgR; rw [if_neg h]
    rw [e1]
    exact Longest_bad v l e temp _ w hs rfl (by rw [bne_iff_ne]; exact h)
theorem rLongest_bad (v : Value) (l : List Rd) (e temp r : Int) (w : World) (hs : RS w v l) (hm : l.length ≤ 100000) (h : chkE l e [] = r) (hr : (r != 0) = true) :
    Calls Try.prog 28 #[v, .int .i64 e, .int .i64 temp] w fun en w' => en = .returned (.tuple #[.int .i64 0, .int .i64 0, .int .i64 r]) ∧ Below w.heap.size w w' := by
  have HQ : Kp (∀ W, Below w.heap.size w W → Calls Try.prog 55 #[v, .int .i64 e] W fun en w' => en = .returned (.int .i64 r) ∧ Below W.heap.size W w') := ⟨fun W hW => h ▸ asked_any v l e W (hs.below hW) hm⟩
  obtain ⟨g, c, rfl⟩ := hs.shape
  clear hs h
  go_enter Try.func28, Try.ntmps28
  go_wp2_with fail
  refine (HQ.out _ (by repeat (first | exact Below.refl _ _ | refine Below.alloc ?_ (by simp <;> omega) _ | refine bDrewN ?_ _ | refine Below.drew ?_))).mono ?_
  rintro en w1 ⟨rfl, hb1⟩
  have HB1 : Kp (Below w.heap.size w w1) := ⟨Below.trans (by repeat (first | exact Below.refl _ _ | refine Below.alloc ?_ (by simp <;> omega) _ | refine bDrewN ?_ _ | refine Below.drew ?_)) (hb1.mono (by simp <;> omega))⟩
  clear hb1
  go_wp2
  refine bodyPost_ret (v := .tuple #[.int .i64 0, .int .i64 0, .int .i64 r]) (by simp [results, Try.results28, go_sem]) rfl ⟨rfl, HB1.out⟩
theorem rLongest_rng (v : Value) (l : List Rd) (e temp : Int) (w : World) (hs : RS w v l) (h : Good l e) (ht : inB (-1000) 1000 temp = false) :
    Calls Try.prog 28 #[v, .int .i64 e, .int .i64 temp] w fun en w' => en = .returned (.tuple #[.int .i64 0, .int .i64 0, .int .i64 7]) ∧ Below w.heap.size w w' := by
  have HT := Kp.mk ht
  have HQ : Kp (∀ W, Below w.heap.size w W → Calls Try.prog 55 #[v, .int .i64 e] W fun en w' => en = .returned (.int .i64 0) ∧ Below W.heap.size W w') := ⟨fun W hW => good_chk h (ts := []) rfl ▸ asked_any v l e W (hs.below hW) (by have := h.len; omega)⟩
  obtain ⟨g, c, rfl⟩ := hs.shape
  clear hs h ht
  go_enter Try.func28, Try.ntmps28
  go_wp2_with fail
  refine (HQ.out _ (by repeat (first | exact Below.refl _ _ | refine Below.alloc ?_ (by simp <;> omega) _ | refine bDrewN ?_ _ | refine Below.drew ?_))).mono ?_
  rintro en w1 ⟨rfl, hb1⟩
  have HB1 : Kp (Below w.heap.size w w1) := ⟨hb1⟩
  clear hb1
  go_wp2_with fail
  refine (rwithin_at HT.out _).mono ?_
  rintro en w2 ⟨rfl, rfl⟩
  go_wp2
  refine bodyPost_ret (v := .tuple #[.int .i64 0, .int .i64 0, .int .i64 7]) (by simp [results, Try.results28, go_sem]) rfl ⟨rfl, HB1.out⟩
set_option maxHeartbeats 2000000 in
theorem rLongest_in (v : Value) (l : List Rd) (e temp : Int) (w : World) (hs : RS w v l) (h : Good l e) (ht : inB (-1000) 1000 temp = true) :
    Calls Try.prog 28 #[v, .int .i64 e, .int .i64 temp] w fun en w' => en = .returned (.tuple #[.int .i64 (lgR l e temp).1, .int .i64 (lgR l e temp).2.1, .int .i64 (lgR l e temp).2.2]) ∧ Below w.heap.size w w' := by
  have HG := Kp.mk h
  have HT := Kp.mk ht
  have HQ : Kp (∀ W, Below w.heap.size w W → Calls Try.prog 55 #[v, .int .i64 e] W fun en w' => en = .returned (.int .i64 0) ∧ Below W.heap.size W w') := ⟨fun W hW => good_chk h (ts := []) rfl ▸ asked_any v l e W (hs.below hW) (by have := h.len; omega)⟩
  have HU : Kp (∀ W (i : Nat), Below w.heap.size w W → i < l.length → Calls Try.prog 56 #[v, .int .i64 e, .int .i64 (i : Int)] W fun en w' => en = .returned (.int .i64 (tillL l e i)) ∧ W = w') := ⟨fun W i hW hi => until_any v l e i W (hs.below hW) hi (by have := h.len; omega)⟩
  have HLR : Kp (lgR l e temp = if (lgF temp (firstH l) (strs l e l.length)).2.2 = 0 then (0, 0, 8) else ((lgF temp (firstH l) (strs l e l.length)).2.1, (lgF temp (firstH l) (strs l e l.length)).2.2, 0)) := ⟨by unfold lgR; rw [if_pos (good_chk h (by rw [allB1]; exact ht))]⟩
  obtain ⟨R, hR⟩ : ∃ R, lgR l e temp = R := ⟨_, rfl⟩
  rw [hR] at HLR ⊢
  clear hR
  have HBD : Kp (∀ k, k ≤ l.length → ∀ q, lgF temp (firstH l) (strs l e k) = q → (0 ≤ q.1 ∧ q.1 ≤ 1000000) ∧ (0 ≤ q.2.1 ∧ q.2.1 ≤ 1000000) ∧ (0 ≤ q.2.2 ∧ q.2.2 ≤ 1000000)) := ⟨fun k hk => lg_bd h hk⟩
  obtain ⟨F, hF⟩ : ∃ F, firstH l = F := ⟨_, rfl⟩
  rw [hF] at HLR HBD
  obtain ⟨b1, o1, c1, hv1, hb0, hc0⟩ := first_of hs h.len.1
  rw [hF] at hc0
  obtain ⟨g, c, rfl, -, hi⟩ := hs
  simp only [Value.slice.injEq] at hv1
  obtain ⟨rfl, -, rfl⟩ := hv1
  have HS := Lib.hid hi
  have HL : Kp (1 ≤ l.length ∧ l.length ≤ 200) := ⟨h.len⟩
  have hl0 : (0 : Int) < (l.length : Int) := by have := h.len; omega
  have HC0 := Kp.mk (And.intro hb0 hc0)
  clear hi h ht hF hb0 hc0
  go_enter Try.func28, Try.ntmps28
  go_wp2_with fail
  refine (HQ.out _ (by repeat (first | exact Below.refl _ _ | refine Below.alloc ?_ (by simp <;> omega) _ | refine bDrewN ?_ _ | refine Below.drew ?_))).mono ?_
  rintro en w1 ⟨rfl, hb1⟩
  have HB1 : Kp (Below w.heap.size w w1) := ⟨hb1⟩
  have k0 := (hb1.cell (p := ⟨b1, _, none⟩) HC0.out.1).trans HC0.out.2
  have kb : b1 < w1.heap.size := Nat.lt_of_lt_of_le HC0.out.1 hb1.size
  clear hb1
  go_wp2_with fail
  refine (rwithin_at HT.out _).mono ?_
  rintro en w2 ⟨rfl, rfl⟩
  go_wp2
  clear k0 kb
  go_loopw [10, 6, 7, 29] (fun bg fr hr i wr => ∃ k : Nat, k ≤ l.length ∧ i = .int .i64 k ∧ bg = .int .i64 (lgF temp F (strs l e k)).1 ∧ fr = .int .i64 (lgF temp F (strs l e k)).2.1 ∧ hr = .int .i64 (lgF temp F (strs l e k)).2.2 ∧ Kp (Below w.heap.size w wr)) (fun _ _ _ i _ => l.length - (intOf i).toNat)
  case atStart => exact ⟨0, Nat.zero_le _, rfl, rfl, rfl, rfl, HB1⟩
  case round =>
    obtain ⟨k, hk, rfl, rfl, rfl, rfl, HB⟩ := hrel
    by_cases hlt : k < l.length
    · obtain ⟨x, hx⟩ : ∃ x, l[k]? = some x := ⟨l[k], List.getElem?_eq_getElem hlt⟩
      obtain ⟨b, o, hg, hbl, hc1, hc2⟩ := HS.out k x hx
      simp only [Option.some.injEq, Addr.mk.injEq, and_true] at hg
      obtain ⟨rfl, rfl⟩ := hg
      have hbr : b1 < wr.heap.size := Nat.lt_of_lt_of_le hbl HB.out.size
      have c1 : wr.cell? ⟨b1, o1 + k * 2, none⟩ = some (.int .i64 x.h) := (HB.out.cell (p := ⟨b1, _, none⟩) hbl).trans hc1
      have c2 : wr.cell? ⟨b1, o1 + k * 2 + 1, none⟩ = some (.int .i64 x.t) := (HB.out.cell (p := ⟨b1, _, none⟩) hbl).trans hc2
      have HB2 : Kp (Below w.heap.size w (wr.alloc (.cells #[.int .i64 x.h, .int .i64 x.t] 59))) := ⟨HB.out.alloc HB.out.size _⟩
      have o1' : (k : Int) < (l.length : Int) := by omega
      have o4 : k ≤ 200 := by have := HL.out; omega
      have he : sgAt l e k = ⟨x.h, tillL l e k, x.t⟩ := sgAt_at hx
      have hsn : lgF temp F (strs l e (k + 1)) = lgS temp (lgF temp F (strs l e k)) ⟨x.h, tillL l e k, x.t⟩ := by rw [strs_succ, lgF_snoc, he]
      have hbd := HBD.out k hk _ rfl
      have hsg := HG.out.sg (e := e) hlt
      rw [he] at hsg
      have HLT : Kp (k < l.length) := ⟨hlt⟩
      obtain ⟨T, hT⟩ : ∃ T, tillL l e k = T := ⟨_, rfl⟩
      obtain ⟨Q, hQ⟩ : ∃ Q, lgF temp F (strs l e k) = Q := ⟨_, rfl⟩
      have hu := fun W hW => HU.out W k hW HLT.out
      rw [hT] at hu hsn hsg
      rw [hQ] at hsn hbd ⊢
      obtain ⟨qb, qf, qh⟩ := Q
      simp only at hsg hbd ⊢
      have HU2 := Lib.hid hu
      clear hx hc1 hc2 hbl he hT hQ hu
      go_wp2_with fail
      refine (HU2.out _ HB2.out).mono ?_
      rintro en w3 ⟨rfl, rfl⟩
      by_cases hle : temp < x.t
      · rw [lg_warm hle] at hsn
        have HSN := Kp.mk hsn
        clear hsn
        have j1 : IntKind.i64.wrap (T - T) = 0 := by rw [show T - T = 0 by omega]; rfl
        have j2 : ¬ qh < 0 := by omega
        go_wp2
        go_roundw
        case rel => exact ⟨k + 1, by omega, by go_num, by rw [HSN.out], by rw [HSN.out], by rw [HSN.out], HB2⟩
        case measure => simp [intOf]; omega
      · have j1 : IntKind.i64.wrap (T - qb) = T - qb := IntWalk.i64_in _ (by omega)
        by_cases hmo : qh < T - qb
        · rw [lg_more hle hmo] at hsn
          have HSN := Kp.mk hsn
          clear hsn
          go_wp2
          go_roundw
          case rel => exact ⟨k + 1, by omega, by go_num, by rw [HSN.out], by rw [HSN.out], by rw [HSN.out], HB2⟩
          case measure => simp [intOf]; omega
        · rw [lg_less hle hmo] at hsn
          have HSN := Kp.mk hsn
          clear hsn
          go_wp2
          go_roundw
          case rel => exact ⟨k + 1, by omega, by go_num, by rw [HSN.out], by rw [HSN.out], by rw [HSN.out], HB2⟩
          case measure => simp [intOf]; omega
    · have hkl : k = l.length := by omega
      have HE : Kp (lgF temp F (strs l e k) = lgF temp F (strs l e l.length)) := ⟨by rw [hkl]⟩
      rw [← HE.out] at HLR
      obtain ⟨Q, hQ⟩ : ∃ Q, lgF temp F (strs l e k) = Q := ⟨_, rfl⟩
      rw [hQ] at HLR ⊢
      obtain ⟨qb, qf, qh⟩ := Q
      simp only at HLR ⊢
      clear hkl hQ HE
      by_cases h0 : qh = 0
      · rw [if_pos h0] at HLR
        subst h0
        go_wp2
        have HR := HLR.out
        subst HR
        refine bodyPost_ret (v := .tuple #[.int .i64 0, .int .i64 0, .int .i64 8]) (by simp [results, Try.results28, go_sem]) rfl ⟨rfl, HB.out⟩
      · rw [if_neg h0] at HLR
        go_wp2
        have HR := HLR.out
        subst HR
        refine bodyPost_ret (v := .tuple #[.int .i64 qf, .int .i64 qh, .int .i64 0]) (by simp [results, Try.results28, go_sem]) rfl ⟨rfl, HB.out⟩
theorem rLongest_any (v : Value) (l : List Rd) (e temp : Int) (w : World) (hs : RS w v l) (hm : l.length ≤ 100000) :
    Calls Try.prog 28 #[v, .int .i64 e, .int .i64 temp] w fun en w' => en = .returned (.tuple #[.int .i64 (lgR l e temp).1, .int .i64 (lgR l e temp).2.1, .int .i64 (lgR l e temp).2.2]) ∧ Below w.heap.size w w' := by
  by_cases h : chkE l e [] = 0
  · have hg := (chk_good h).1
    cases ht : inB (-1000) 1000 temp with
    | true => exact rLongest_in v l e temp w hs hg ht
    | false =>
      have e0 : chkE l e [temp] = 7 := by unfold chkE; rw [hg.read, hg.fin, allB1, ht]; rfl
      have e1 : lgR l e temp = (0, 0, 7) := by unfold lgR; rw [e0]; rfl
      rw [e1]
      exact rLongest_rng v l e temp w hs hg ht
  · have e0 : chkE l e [temp] = chkE l e [] := by
      unfold chkE at h ⊢
      cases h1 : readB l with
      | false => rfl
      | true =>
        rw [h1] at h
        cases h2 : endB l e with
        | false => rfl
        | true => rw [h2] at h; exact absurd rfl h
    have e1 : lgR l e temp = (0, 0, chkE l e []) := by unfold lgR; rw [e0, if_neg h]
    rw [e1]
    exact rLongest_bad v l e temp _ w hs hm rfl (by rw [bne_iff_ne]; exact h)
end Go.Proofs.Ytbbbnfodjkpiaaa.Cd
