/-
  WALKS (layer 4, cold): At and Cold, by the reference.
-/
import Derived.Test.YtbbbnfodjkpiaaaCdAt
import Derived.Test.YtbbbnfodjkpiaaaCdCold
namespace Go.Proofs.Ytbbbnfodjkpiaaa.Cd
open Go Go.RowKit Go.Sort

theorem first_at {l : List Rd} (_h : 1 ≤ l.length) (e : Int) : firstH l = (sgAt l e 0).f := rfl
theorem at_found {l : List Rd} {e hour : Int} (h : Good l e) {k : Nat} (hk : k < l.length) (h1 : (sgAt l e k).f ≤ hour) (h2 : hour < (sgAt l e k).t) : atE l e hour = 0 ∧ atV l e hour = (sgAt l e k).c := by
  have b := h.sg hk
  have m := sg_mono h (Nat.zero_le k) hk
  have te : (sgAt l e k).t ≤ e := by
    by_cases hn : k + 1 < l.length
    · rw [← sg_next hn]
      have hx : l[k + 1]? = some l[k + 1] := List.getElem?_eq_getElem hn
      rw [sgAt_at hx]
      exact (h.end_ hx).1
    · rw [sg_last (show k + 1 = l.length by omega)]; exact Int.le_refl _
  have hin : inB (firstH l) (e - 1) hour = true := in_yes (by rw [first_at h.len.1 e]; omega) (by omega)
  have e1 : atE l e hour = 0 := by unfold atE; rw [if_pos (good_chk h rfl), hin]; rfl
  refine ⟨e1, ?_⟩
  unfold atV
  rw [if_pos e1]
  have e3 : nowC hour (strs l e (k + 1)) = (sgAt l e k).c := by rw [strs_succ, nowC_snoc, if_pos h1]
  by_cases hn : k + 1 < l.length
  · rw [now_at h hn (by rw [sg_next hn]; exact h2), e3]
  · rw [show l.length = k + 1 by omega, e3]
theorem at_up {l : List Rd} {e hour : Int} (h0 : (sgAt l e 0).f ≤ hour) {k : Nat} (hk : k < l.length) (hn : ∀ i, i < k → ¬ ((sgAt l e i).f ≤ hour ∧ hour < (sgAt l e i).t)) : (sgAt l e k).f ≤ hour := by
  induction k with
  | zero => exact h0
  | succ k ih =>
    have h1 := ih (by omega) (fun i hi => hn i (by omega))
    have h2 := hn k (by omega)
    rw [sg_next hk]
    omega
theorem at_none {l : List Rd} {e hour : Int} (h : Good l e) (hn : ∀ i, i < l.length → ¬ ((sgAt l e i).f ≤ hour ∧ hour < (sgAt l e i).t)) : atE l e hour = 7 ∧ atV l e hour = 0 := by
  have hl := h.len
  have hin : inB (firstH l) (e - 1) hour = false := by
    cases hb : inB (firstH l) (e - 1) hour with
    | false => rfl
    | true =>
      rw [in_iff, first_at hl.1 e] at hb
      have h1 := at_up hb.1 (show l.length - 1 < l.length by omega) (fun i hi => hn i (by omega))
      have h2 := hn (l.length - 1) (by omega)
      rw [sg_last (show l.length - 1 + 1 = l.length by omega)] at h2
      omega
  have e1 : atE l e hour = 7 := by unfold atE; rw [if_pos (good_chk h rfl), hin]; rfl
  exact ⟨e1, by unfold atV; rw [e1]; rfl⟩
theorem rAt_bad (v : Value) (l : List Rd) (e hour r : Int) (w : World) (hs : RS w v l) (hm : l.length ≤ 100000) (h : chkE l e [] = r) (hr : (r != 0) = true) :
    Calls Try.prog 14 #[v, .int .i64 e, .int .i64 hour] w fun en w' => en = .returned (.tuple #[.int .i64 0, .int .i64 r]) ∧ Below w.heap.size w w' := by
  have HQ : Kp (∀ W, Below w.heap.size w W → Calls Try.prog 55 #[v, .int .i64 e] W fun en w' => en = .returned (.int .i64 r) ∧ Below W.heap.size W w') := ⟨fun W hW => h ▸ asked_any v l e W (hs.below hW) hm⟩
  obtain ⟨g, c, rfl⟩ := hs.shape
  clear hs h
  go_enter Try.func14, Try.ntmps14
  go_wp2_with fail
  refine (HQ.out _ (by repeat (first | exact Below.refl _ _ | refine Below.alloc ?_ (by simp <;> omega) _ | refine bDrewN ?_ _ | refine Below.drew ?_))).mono ?_
  rintro en w1 ⟨rfl, hb1⟩
  have HB1 : Kp (Below w.heap.size w w1) := ⟨hb1⟩
  clear hb1
  go_wp2
  go_ret2
  exact ⟨rfl, HB1.out⟩
set_option maxHeartbeats 1000000 in
theorem rAt_in (v : Value) (l : List Rd) (e hour : Int) (w : World) (hs : RS w v l) (h : Good l e) :
    Calls Try.prog 14 #[v, .int .i64 e, .int .i64 hour] w fun en w' => en = .returned (.tuple #[.int .i64 (atV l e hour), .int .i64 (atE l e hour)]) ∧ Below w.heap.size w w' := by
  have HG := Kp.mk h
  have HQ : Kp (∀ W, Below w.heap.size w W → Calls Try.prog 55 #[v, .int .i64 e] W fun en w' => en = .returned (.int .i64 0) ∧ Below W.heap.size W w') := ⟨fun W hW => good_chk h (ts := []) rfl ▸ asked_any v l e W (hs.below hW) (by have := h.len; omega)⟩
  have HU : Kp (∀ W (i : Nat), Below w.heap.size w W → i < l.length → Calls Try.prog 56 #[v, .int .i64 e, .int .i64 (i : Int)] W fun en w' => en = .returned (.int .i64 (tillL l e i)) ∧ W = w') := ⟨fun W i hW hi => until_any v l e i W (hs.below hW) hi (by have := h.len; omega)⟩
  obtain ⟨g, c, rfl, -, hi⟩ := hs
  have HS := Lib.hid hi
  have HL : Kp (l.length ≤ 200) := ⟨h.len.2⟩
  clear hi h
  go_enter Try.func14, Try.ntmps14
  go_wp2_with fail
  refine (HQ.out _ (by repeat (first | exact Below.refl _ _ | refine Below.alloc ?_ (by simp <;> omega) _ | refine bDrewN ?_ _ | refine Below.drew ?_))).mono ?_
  rintro en w1 ⟨rfl, hb1⟩
  have HB1 : Kp (Below w.heap.size w w1) := ⟨hb1⟩
  clear hb1
  go_wp2
  go_loopw [19] (fun i wr => ∃ k : Nat, k ≤ l.length ∧ i = .int .i64 k ∧ Kp (∀ i, i < k → ¬ ((sgAt l e i).f ≤ hour ∧ hour < (sgAt l e i).t)) ∧ Kp (Below w.heap.size w wr)) (fun i _ => l.length - (intOf i).toNat)
  case atStart => exact ⟨0, Nat.zero_le _, rfl, ⟨fun i hi => by omega⟩, HB1⟩
  case round =>
    obtain ⟨k, hk, rfl, HK, HB⟩ := hrel
    by_cases hlt : k < l.length
    · obtain ⟨x, hx⟩ : ∃ x, l[k]? = some x := ⟨l[k], List.getElem?_eq_getElem hlt⟩
      obtain ⟨b, o, hg, hbl, hc1, hc2⟩ := HS.out k x hx
      subst hg
      have hbr : b < wr.heap.size := Nat.lt_of_lt_of_le hbl HB.out.size
      have c1 : wr.cell? ⟨b, o + k * 2, none⟩ = some (.int .i64 x.h) := (HB.out.cell (p := ⟨b, _, none⟩) hbl).trans hc1
      have c2 : wr.cell? ⟨b, o + k * 2 + 1, none⟩ = some (.int .i64 x.t) := (HB.out.cell (p := ⟨b, _, none⟩) hbl).trans hc2
      have HB2 : Kp (Below w.heap.size w (wr.alloc (.cells #[.int .i64 x.h, .int .i64 x.t] 59))) := ⟨HB.out.alloc HB.out.size _⟩
      have o1 : (k : Int) < (l.length : Int) := by omega
      have o4 : k ≤ 200 := by have := HL.out; omega
      have HE : Kp (sgAt l e k = ⟨x.h, tillL l e k, x.t⟩) := ⟨sgAt_at hx⟩
      have HLT : Kp (k < l.length) := ⟨hlt⟩
      clear hx hc1 hc2 hbl
      by_cases h1 : x.h ≤ hour
      · obtain ⟨T, hT⟩ : ∃ T, tillL l e k = T := ⟨_, rfl⟩
        have hu := fun W hW => HU.out W k hW HLT.out
        rw [hT] at hu HE
        have HU2 := Lib.hid hu
        clear hu hT
        by_cases h2 : hour < T
        · obtain ⟨e1, e2⟩ := at_found (hour := hour) HG.out HLT.out (by rw [HE.out]; exact h1) (by rw [HE.out]; exact h2)
          rw [HE.out] at e2
          have HE2 := Kp.mk (And.intro e1 e2)
          clear e1 e2
          go_wp2_with fail
          refine (HU2.out _ HB2.out).mono ?_
          rintro en w3 ⟨rfl, rfl⟩
          go_wp2
          go_ret2
          exact ⟨ret_two HE2.out.2.symm HE2.out.1.symm, HB2.out⟩
        · have HN : Kp (∀ i, i < k + 1 → ¬ ((sgAt l e i).f ≤ hour ∧ hour < (sgAt l e i).t)) := ⟨fun i hi => by
            by_cases hik : i = k
            · subst hik; rw [HE.out]; intro hh; exact h2 hh.2
            · exact HK.out i (by omega)⟩
          go_wp2_with fail
          refine (HU2.out _ HB2.out).mono ?_
          rintro en w3 ⟨rfl, rfl⟩
          go_wp2
          go_roundw
          case rel => exact ⟨k + 1, by omega, by go_num, HN, HB2⟩
          case measure => simp [intOf]; omega
      · have HN : Kp (∀ i, i < k + 1 → ¬ ((sgAt l e i).f ≤ hour ∧ hour < (sgAt l e i).t)) := ⟨fun i hi => by
          by_cases hik : i = k
          · subst hik; rw [HE.out]; intro hh; exact h1 hh.1
          · exact HK.out i (by omega)⟩
        go_wp2
        go_roundw
        case rel => exact ⟨k + 1, by omega, by go_num, HN, HB2⟩
        case measure => simp [intOf]; omega
    · have hkl : k = l.length := by omega
      have HE := Kp.mk (at_none HG.out (by rw [← hkl]; exact HK.out))
      clear hkl
      go_wp2
      go_ret2
      exact ⟨ret_two HE.out.2.symm HE.out.1.symm, HB.out⟩
theorem rAt_any (v : Value) (l : List Rd) (e hour : Int) (w : World) (hs : RS w v l) (hm : l.length ≤ 100000) :
    Calls Try.prog 14 #[v, .int .i64 e, .int .i64 hour] w fun en w' => en = .returned (.tuple #[.int .i64 (atV l e hour), .int .i64 (atE l e hour)]) ∧ Below w.heap.size w w' := by
  by_cases h : chkE l e [] = 0
  · exact rAt_in v l e hour w hs (chk_good h).1
  · have e1 : atE l e hour = chkE l e [] := by unfold atE; rw [if_neg h]
    have e2 : atV l e hour = 0 := by unfold atV; rw [e1, if_neg h]
    rw [e1, e2]
    exact rAt_bad v l e hour _ w hs hm rfl (by rw [bne_iff_ne]; exact h)
theorem until_q {e T : Int} {i : Nat} {v : Value} {w : World} (h : ∀ W, Below w.heap.size w W → Calls Try.prog 56 #[v, .int .i64 e, .int .i64 (i : Int)] W fun en w' => en = .returned (.int .i64 T) ∧ W = w') {X : World} (hX : Below w.heap.size w X) (k : Nat) :
    Calls Try.prog 56 #[v, .int .i64 e, .int .i64 (i : Int)] (X.drewN k) fun en w' => en = .returned (.int .i64 T) ∧ ∃ m, w' = X.drewN m :=
  (h _ (bDrewN hX k)).mono fun _ _ ⟨he, hw⟩ => ⟨he, k, hw.symm⟩
theorem rCold_bad (v : Value) (l : List Rd) (e temp r : Int) (w : World) (hs : RS w v l) (hm : l.length ≤ 100000) (h : chkE l e [] = r) (hr : (r != 0) = true) :
    Calls Try.prog 16 #[v, .int .i64 e, .int .i64 temp] w fun en w' => en = .returned (.tuple #[.int .i64 0, .int .i64 r]) ∧ Below w.heap.size w w' := by
  have HQ : Kp (∀ W, Below w.heap.size w W → Calls Try.prog 55 #[v, .int .i64 e] W fun en w' => en = .returned (.int .i64 r) ∧ Below W.heap.size W w') := ⟨fun W hW => h ▸ asked_any v l e W (hs.below hW) hm⟩
  obtain ⟨g, c, rfl⟩ := hs.shape
  clear hs h
  go_enter Try.func16, Try.ntmps16
  go_wp2_with fail
  refine (HQ.out _ (by repeat (first | exact Below.refl _ _ | refine Below.alloc ?_ (by simp <;> omega) _ | refine bDrewN ?_ _ | refine Below.drew ?_))).mono ?_
  rintro en w1 ⟨rfl, hb1⟩
  have HB1 : Kp (Below w.heap.size w w1) := ⟨hb1⟩
  clear hb1
  go_wp2
  go_ret2
  exact ⟨rfl, HB1.out⟩
theorem rCold_rng (v : Value) (l : List Rd) (e temp : Int) (w : World) (hs : RS w v l) (h : Good l e) (ht : inB (-1000) 1000 temp = false) :
    Calls Try.prog 16 #[v, .int .i64 e, .int .i64 temp] w fun en w' => en = .returned (.tuple #[.int .i64 0, .int .i64 7]) ∧ Below w.heap.size w w' := by
  have HQ : Kp (∀ W, Below w.heap.size w W → Calls Try.prog 55 #[v, .int .i64 e] W fun en w' => en = .returned (.int .i64 0) ∧ Below W.heap.size W w') := ⟨fun W hW => good_chk h (ts := []) rfl ▸ asked_any v l e W (hs.below hW) (by have := h.len; omega)⟩
  have HT := Kp.mk ht
  obtain ⟨g, c, rfl⟩ := hs.shape
  clear hs h ht
  go_enter Try.func16, Try.ntmps16
  go_wp2_with fail
  refine (HQ.out _ (by repeat (first | exact Below.refl _ _ | refine Below.alloc ?_ (by simp <;> omega) _ | refine bDrewN ?_ _ | refine Below.drew ?_))).mono ?_
  rintro en w1 ⟨rfl, hb1⟩
  have HB1 : Kp (Below w.heap.size w w1) := ⟨hb1⟩
  clear hb1
  go_wp2_with fail
  refine (rwithin_at HT.out _).mono ?_
  rintro en w2 ⟨rfl, rfl⟩
  go_wp2
  go_ret2
  exact ⟨rfl, HB1.out⟩
set_option maxHeartbeats 1000000 in
theorem rCold_in (v : Value) (l : List Rd) (e temp : Int) (w : World) (hs : RS w v l) (h : Good l e) (ht : inB (-1000) 1000 temp = true) :
    Calls Try.prog 16 #[v, .int .i64 e, .int .i64 temp] w fun en w' => en = .returned (.tuple #[.int .i64 (foldC temp (strs l e l.length)), .int .i64 0]) ∧ Below w.heap.size w w' := by
  have HG := Kp.mk h
  have HT := Kp.mk ht
  have HQ : Kp (∀ W, Below w.heap.size w W → Calls Try.prog 55 #[v, .int .i64 e] W fun en w' => en = .returned (.int .i64 0) ∧ Below W.heap.size W w') := ⟨fun W hW => good_chk h (ts := []) rfl ▸ asked_any v l e W (hs.below hW) (by have := h.len; omega)⟩
  have HU : Kp (∀ W (i : Nat), Below w.heap.size w W → i < l.length → Calls Try.prog 56 #[v, .int .i64 e, .int .i64 (i : Int)] W fun en w' => en = .returned (.int .i64 (tillL l e i)) ∧ W = w') := ⟨fun W i hW hi => until_any v l e i W (hs.below hW) hi (by have := h.len; omega)⟩
  obtain ⟨g, c, rfl, -, hi⟩ := hs
  have HS := Lib.hid hi
  have HL : Kp (l.length ≤ 200) := ⟨h.len.2⟩
  clear hi h ht
  go_enter Try.func16, Try.ntmps16
  go_wp2_with fail
  refine (HQ.out _ (by repeat (first | exact Below.refl _ _ | refine Below.alloc ?_ (by simp <;> omega) _ | refine bDrewN ?_ _ | refine Below.drew ?_))).mono ?_
  rintro en w1 ⟨rfl, hb1⟩
  have HB1 : Kp (Below w.heap.size w w1) := ⟨hb1⟩
  clear hb1
  go_wp2_with fail
  refine (rwithin_at HT.out _).mono ?_
  rintro en w2 ⟨rfl, rfl⟩
  go_wp2
  go_loopw [9, 23] (fun n i wr => ∃ k : Nat, k ≤ l.length ∧ i = .int .i64 k ∧ n = .int .i64 (foldC temp (strs l e k)) ∧ Kp (Below w.heap.size w wr)) (fun _ i _ => l.length - (intOf i).toNat)
  case atStart => exact ⟨0, Nat.zero_le _, rfl, rfl, HB1⟩
  case round =>
    obtain ⟨k, hk, rfl, rfl, HB⟩ := hrel
    by_cases hlt : k < l.length
    · obtain ⟨x, hx⟩ : ∃ x, l[k]? = some x := ⟨l[k], List.getElem?_eq_getElem hlt⟩
      obtain ⟨b, o, hg, hbl, hc1, hc2⟩ := HS.out k x hx
      subst hg
      have hbr : b < wr.heap.size := Nat.lt_of_lt_of_le hbl HB.out.size
      have c1 : wr.cell? ⟨b, o + k * 2, none⟩ = some (.int .i64 x.h) := (HB.out.cell (p := ⟨b, _, none⟩) hbl).trans hc1
      have c2 : wr.cell? ⟨b, o + k * 2 + 1, none⟩ = some (.int .i64 x.t) := (HB.out.cell (p := ⟨b, _, none⟩) hbl).trans hc2
      have HB2 : Kp (Below w.heap.size w (wr.alloc (.cells #[.int .i64 x.h, .int .i64 x.t] 59))) := ⟨HB.out.alloc HB.out.size _⟩
      have o1 : (k : Int) < (l.length : Int) := by omega
      have o4 : k ≤ 200 := by have := HL.out; omega
      have he : sgAt l e k = ⟨x.h, tillL l e k, x.t⟩ := sgAt_at hx
      have hsn : foldC temp (strs l e (k + 1)) = if x.t ≤ temp then foldC temp (strs l e k) + (tillL l e k - x.h) else foldC temp (strs l e k) := by rw [strs_succ, foldC_snoc, he]
      have hbd := foldC_bd (temp := temp) HG.out hlt
      have hsg := HG.out.sg (e := e) hlt
      rw [he] at hbd hsg
      have HLT : Kp (k < l.length) := ⟨hlt⟩
      obtain ⟨T, hT⟩ : ∃ T, tillL l e k = T := ⟨_, rfl⟩
      obtain ⟨N, hN⟩ : ∃ N, foldC temp (strs l e k) = N := ⟨_, rfl⟩
      have hu := fun W hW => HU.out W k hW HLT.out
      rw [hT] at hu hsn hsg
      rw [hN] at hsn hbd ⊢
      simp only at hsg hbd
      have HU2 := Lib.hid hu
      clear hx hc1 hc2 hbl he hT hN hu
      by_cases hle : x.t ≤ temp
      · rw [if_pos hle] at hsn
        have HSN := Kp.mk hsn
        clear hsn
        have j1 : IntKind.i64.wrap (T - x.h) = T - x.h := IntWalk.i64_in _ (by omega)
        have j2 : IntKind.i64.wrap (N + (T - x.h)) = N + (T - x.h) := IntWalk.i64_in _ (by omega)
        go_wp2
        go_quiet ((go_at_call 56; exact until_q HU2.out HB2.out _))
        clear j1 j2
        go_wp2
        go_roundw
        case rel => exact ⟨k + 1, by omega, by go_num, by rw [HSN.out], ⟨bDrewN HB2.out _⟩⟩
        case measure => simp [intOf]; omega
      · rw [if_neg hle] at hsn
        have HSN := Kp.mk hsn
        clear hsn
        go_wp2
        go_roundw
        case rel => exact ⟨k + 1, by omega, by go_num, by rw [HSN.out], HB2⟩
        case measure => simp [intOf]; omega
    · have hkl : k = l.length := by omega
      have HE : Kp (foldC temp (strs l e k) = foldC temp (strs l e l.length)) := ⟨by rw [hkl]⟩
      obtain ⟨N, hN⟩ : ∃ N, foldC temp (strs l e k) = N := ⟨_, rfl⟩
      rw [hN] at HE ⊢
      clear hkl hN
      go_wp2
      go_ret2
      exact ⟨ret_two HE.out rfl, HB.out⟩
theorem rCold_any (v : Value) (l : List Rd) (e temp : Int) (w : World) (hs : RS w v l) (hm : l.length ≤ 100000) :
    Calls Try.prog 16 #[v, .int .i64 e, .int .i64 temp] w fun en w' => en = .returned (.tuple #[.int .i64 (coldN l e temp), .int .i64 (chkE l e [temp])]) ∧ Below w.heap.size w w' := by
  by_cases h : chkE l e [] = 0
  · have hg := (chk_good h).1
    cases ht : inB (-1000) 1000 temp with
    | true =>
      have e0 := good_chk hg (ts := [temp]) (by rw [allB1]; exact ht)
      have e1 : coldN l e temp = foldC temp (strs l e l.length) := by unfold coldN; rw [if_pos e0]
      rw [e1, e0]
      exact rCold_in v l e temp w hs hg ht
    | false =>
      have e0 : chkE l e [temp] = 7 := by unfold chkE; rw [hg.read, hg.fin, allB1, ht]; rfl
      have e1 : coldN l e temp = 0 := by unfold coldN; rw [e0]; rfl
      rw [e1, e0]
      exact rCold_rng v l e temp w hs hg ht
  · have e0 : chkE l e [temp] = chkE l e [] := by
      unfold chkE at h ⊢
      cases h1 : readB l with
      | false => rfl
      | true =>
        rw [h1] at h
        cases h2 : endB l e with
        | false => rfl
        | true => rw [h2] at h; exact absurd rfl h
    have e1 : coldN l e temp = 0 := by unfold coldN; rw [e0, if_neg h]
    rw [e1, e0]
    exact rCold_bad v l e temp _ w hs hm rfl (by rw [bne_iff_ne]; exact h)
end Go.Proofs.Ytbbbnfodjkpiaaa.Cd
