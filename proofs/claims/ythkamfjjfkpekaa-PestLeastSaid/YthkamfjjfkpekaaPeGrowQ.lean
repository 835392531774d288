/-
  PLAIN MATHEMATICS (layer 8, pest): a way that is found makes the flow's value greater by so much.
-/
import Derived.Test.YthkamfjjfkpekaaPeGrow
namespace Go.Proofs.Ythkamfjjfkpekaa.Pe
open Go

/-- What leaves a room through the first doors. -/
def outF (ds : List Dr) (fl : List Int) (r : Nat) : Nat → Int
  | 0 => 0
  | k + 1 => outF ds fl r k + (if (ds.getD k default).a = (r : Int) then fl.getD k 0 else 0) - (if (ds.getD k default).b = (r : Int) then fl.getD k 0 else 0)
theorem getD_mem {ds : List Dr} {k : Nat} (h : k < ds.length) : ds.getD k default ∈ ds := by
  rw [List.getD_eq_getElem?_getD, List.getElem?_eq_getElem h]
  exact List.getElem_mem _
theorem leavF_at {ds : List Dr} {fl : List Int} {R r : Nat} (hD : DoorsOk R ds) (hR : R ≤ 12) (hr : r < 12) : ∀ k : Nat, k ≤ ds.length → (leavF ds fl k).getD r 0 = outF ds fl r k
  | 0, _ => by
    show (List.replicate 12 (0 : Int)).getD r 0 = 0
    rw [List.getD_eq_getElem?_getD, List.getElem?_replicate]
    split <;> rfl
  | k + 1, hk => by
    have ih := leavF_at hD hR hr k (by omega) (fl := fl)
    obtain ⟨⟨h1, h2, h3⟩, -⟩ := hD _ (getD_mem (show k < ds.length by omega))
    have hl := leavF_len ds fl k
    unfold leavF outF
    simp only [getD_set, List.length_set, hl]
    have ea : ((ds.getD k default).a = (r : Int)) ↔ (ds.getD k default).a.toNat = r := by omega
    have eb : ((ds.getD k default).b = (r : Int)) ↔ (ds.getD k default).b.toNat = r := by omega
    by_cases ha : (ds.getD k default).a.toNat = r
    · have hb : ¬ (ds.getD k default).b.toNat = r := by omega
      rw [if_neg (fun h => hb h.1), if_pos ⟨ha, hr⟩, if_pos (ea.2 ha), if_neg (fun h => hb (eb.1 h)), ha, ih]
      omega
    · by_cases hb : (ds.getD k default).b.toNat = r
      · rw [if_pos ⟨hb, hr⟩, if_neg (fun h => ha (ea.1 h)), if_pos (eb.2 hb), hb, if_neg (fun h => ha h.1), ih]
        omega
      · rw [if_neg (fun h => hb h.1), if_neg (fun h => ha h.1), if_neg (fun h => ha (ea.1 h)), if_neg (fun h => hb (eb.1 h)), ih]
        omega
theorem outF_set {ds : List Dr} {fl : List Int} {i r : Nat} {x : Int} (hi : i < fl.length) : ∀ n : Nat, outF ds (fl.set i (fl.getD i 0 + x)) r n = outF ds fl r n + (if i < n then (if (ds.getD i default).a = (r : Int) then x else 0) - (if (ds.getD i default).b = (r : Int) then x else 0) else 0)
  | 0 => by simp [outF]
  | n + 1 => by
    have ih := outF_set (ds := ds) (r := r) (x := x) hi n
    unfold outF
    rw [ih, getD_set]
    by_cases h : i = n
    · subst h
      have e1 : (i = i ∧ i < fl.length) := ⟨rfl, hi⟩
      have e2 : ¬ i < i := Nat.lt_irrefl i
      have e3 : i < i + 1 := Nat.lt_succ_self i
      simp only [if_pos e1, if_neg e2, if_pos e3]
      have hadd : ∀ (P : Prop) [Decidable P], (if P then fl.getD i 0 + x else 0) = (if P then fl.getD i 0 else 0) + (if P then x else 0) := fun P _ => by split <;> simp
      simp only [true_and, if_pos hi, hadd]
      generalize (if (ds.getD i default).a = (r : Int) then fl.getD i 0 else 0) = X
      generalize (if (ds.getD i default).b = (r : Int) then fl.getD i 0 else 0) = Y
      generalize (if (ds.getD i default).a = (r : Int) then x else 0) = X2
      generalize (if (ds.getD i default).b = (r : Int) then x else 0) = Y2
      omega
    · have e1 : ¬ (i = n ∧ n < fl.length) := fun q => h q.1
      simp only [if_neg e1]
      generalize (if (ds.getD n default).a = (r : Int) then fl.getD n 0 else 0) = X
      generalize (if (ds.getD n default).b = (r : Int) then fl.getD n 0 else 0) = Y
      generalize (if (ds.getD i default).a = (r : Int) then x else 0) = X2
      generalize (if (ds.getD i default).b = (r : Int) then x else 0) = Y2
      by_cases h2 : i < n
      · have e3 : i < n + 1 := by omega
        simp only [if_pos h2, if_pos e3]
        omega
      · have e3 : ¬ i < n + 1 := by omega
        simp only [if_neg h2, if_neg e3]
        omega
/-- A search that fails leaves the flow as it was. -/
def FNo (f : List Int → Nat → Nat → Bool × List Int × Nat) : Prop := ∀ fl t room, (f fl t room).1 = false → (f fl t room).2.1 = fl
theorem scan_no {ds : List Dr} {much : Int} {f : List Int → Nat → Nat → Bool × List Int × Nat} {room : Nat} (hf : FNo f) : ∀ (n : Nat) (fl : List Int) (t : Nat), (scan ds much f room n fl t).1 = false → (scan ds much f room n fl t).2.1 = fl
  | 0, fl, t, _ => rfl
  | n + 1, fl, t, h => by
    unfold scan at h ⊢
    simp only at h ⊢
    split
    · next hc => rw [if_pos hc] at h; exact scan_no hf n fl t h
    · next hc =>
      rw [if_neg hc] at h
      split
      · next fl2 t2 he => rw [he] at h; cases h
      · next fl2 t2 he =>
        rw [he] at h
        have e := hf fl t (beyd (ds.getD (ds.length - (n + 1)) default) ↑room).1.toNat (by rw [he])
        rw [he] at e
        simp only at e h
        subst e
        exact scan_no hf n fl2 t2 h
theorem leadsF_no (ds : List Dr) (kept : Nat) (much : Int) : ∀ n : Nat, FNo (leadsF ds kept much n)
  | 0 => fun fl t room _ => rfl
  | n + 1 => fun fl t room h => by
    unfold leadsF at h ⊢
    split
    · rfl
    · next hc => rw [if_neg hc] at h; exact scan_no (leadsF_no ds kept much n) _ fl _ h
/-- By a way so much more leaves its first room, and so much less its last one, which is kept. -/
def WayOk (ds : List Dr) (K : Nat) (much : Int) (R room : Nat) (fl fl2 : List Int) : Prop :=
  ∃ e, e < R ∧ K.testBit e = true ∧ ∀ r : Nat, outF ds fl2 r ds.length = outF ds fl r ds.length + (if r = room then much else 0) - (if r = e then much else 0)
def FWay (ds : List Dr) (K : Nat) (much : Int) (R : Nat) (f : List Int → Nat → Nat → Bool × List Int × Nat) : Prop :=
  ∀ fl t room, room < R → t.testBit room = false → t < 2 ^ R → CapOk ds fl → ds.length ≤ fl.length → (f fl t room).1 = true → WayOk ds K much R room fl (f fl t room).2.1
theorem scan_way {ds : List Dr} {K R room : Nat} {much : Int} {f : List Int → Nat → Nat → Bool × List Int × Nat} (hD : DoorsOk R ds) (hR : room < R) (hf : FOk ds R f) (hn : FNo f) (hw : FWay ds K much R f) :
    ∀ (n : Nat) (fl : List Int) (t : Nat), n ≤ ds.length → t.testBit room = true → t < 2 ^ R → CapOk ds fl → ds.length ≤ fl.length → (scan ds much f room n fl t).1 = true → WayOk ds K much R room fl (scan ds much f room n fl t).2.1
  | 0, fl, t, _, _, _, _, _, h => by cases h
  | n + 1, fl, t, hn1, h1, ht, hc, hl, h => by
    have hi : ds.length - (n + 1) < ds.length := by omega
    obtain ⟨i, hie⟩ : ∃ i, ds.length - (n + 1) = i := ⟨_, rfl⟩
    rw [hie] at hi
    have hdd := hD _ (getD_mem hi)
    unfold scan at h ⊢
    simp only [hie] at h ⊢
    split
    · next hcc => rw [if_pos hcc] at h; exact scan_way hD hR hf hn hw n fl t (by omega) h1 ht hc hl h
    · next hcc =>
      rw [if_neg hcc] at h
      simp only [Bool.or_eq_true, decide_eq_true_eq, not_or, Bool.not_eq_true, Int.not_lt] at hcc
      obtain ⟨c1, c2⟩ := hcc
      have hb := beyd_bd hdd.1 hR
      obtain ⟨to, hto⟩ := Int.eq_ofNat_of_zero_le hb.1.1
      rw [hto, Int.toNat_natCast] at c1 h ⊢
      rw [hto] at hb
      have hr := hf fl t to (by omega) c1 ht hc hl
      split
      · next fl2 t2 he =>
        have hwy := hw fl t to (by omega) c1 ht hc hl (by rw [he])
        rw [he] at hr hwy
        obtain ⟨e, e1, e2, e3⟩ := hwy
        have hsg : ((ds.getD i default).a = room ∧ (ds.getD i default).b = to ∧ (beyd (ds.getD i default) room).2 = 1) ∨ ((ds.getD i default).b = room ∧ (ds.getD i default).a = to ∧ (beyd (ds.getD i default) room).2 = -1) := by
          by_cases ha : (ds.getD i default).a = room
          · have hbe : beyd (ds.getD i default) room = ((ds.getD i default).b, 1) := by rw [← ha]; exact beyd_a _
            rw [hbe] at hto ⊢
            exact .inl ⟨ha, hto, rfl⟩
          · by_cases hb2 : (ds.getD i default).b = room
            · have hbe : beyd (ds.getD i default) room = ((ds.getD i default).a, -1) := by rw [← hb2]; exact beyd_b hdd.1.2.1
              rw [hbe] at hto ⊢
              exact .inr ⟨hb2, hto, rfl⟩
            · rw [beyd_no (fun q => ha q.symm) (fun q => hb2 q.symm)] at hto
              simp only at hto
              have : to = room := by omega
              rw [this, h1] at c1; cases c1
        refine ⟨e, e1, e2, fun r => ?_⟩
        have hil : i < fl2.length := by rw [hr.len]; omega
        show outF ds (fl2.set i (fl2.getD i 0 + (beyd (ds.getD i default) room).2 * much)) r ds.length = _
        rw [outF_set hil, e3 r, if_pos hi]
        have hne : room ≠ to := fun q => by rw [← q, h1] at c1; cases c1
        have h1r : ((room : Int) = (r : Int)) ↔ r = room := by omega
        have h2r : ((to : Int) = (r : Int)) ↔ r = to := by omega
        have hng : ∀ (P : Prop) [Decidable P], (if P then -much else 0) = -(if P then much else 0) := fun P _ => by split <;> simp
        rcases hsg with ⟨q1, q2, q3⟩ | ⟨q1, q2, q3⟩
        · simp only [q1, q2, q3, Int.one_mul, h1r, h2r]
          generalize (if r = room then much else 0) = X
          generalize (if r = to then much else 0) = Y
          generalize (if r = e then much else 0) = E
          omega
        · simp only [q1, q2, q3, Int.neg_mul, Int.one_mul, h1r, h2r, hng]
          generalize (if r = room then much else 0) = X
          generalize (if r = to then much else 0) = Y
          generalize (if r = e then much else 0) = E
          omega
      · next fl2 t2 he =>
        rw [he] at h hr
        have e := hn fl t to (by rw [he])
        rw [he] at e
        simp only at e h hr
        subst e
        exact scan_way hD hR hf hn hw n fl2 t2 (by omega) (hr.sub _ h1) hr.lt hc hl h
theorem leadsF_way {ds : List Dr} {K R : Nat} {much : Int} (hm : 0 ≤ much) (hD : DoorsOk R ds) : ∀ n : Nat, FWay ds K much R (leadsF ds K much n)
  | 0 => fun fl t room _ _ _ _ _ h => by cases h
  | n + 1 => fun fl t room hR h0 ht hc hl h => by
    unfold leadsF at h ⊢
    split
    · next hk => exact ⟨room, hR, hk, fun r => by
      show outF ds fl r ds.length = _
      generalize (if r = room then much else 0) = X
      omega⟩
    · next hk =>
      rw [if_neg hk] at h
      exact scan_way hD hR (leadsF_rel hm hD n) (leadsF_no ds K much n) (leadsF_way hm hD n) ds.length fl (t ||| 2 ^ room) (Nat.le_refl _) (by rw [bit_or]; simp) (tried_or ht hR) hc hl h
/-- What a whole search does: if it finds a way, it begins in an infested room; else the flow is as it was. -/
theorem growF_ok {ds : List Dr} {I K R : Nat} {much : Int} (hm : 0 ≤ much) (hD : DoorsOk R ds) : ∀ (n : Nat) (fl : List Int) (t : Nat), n ≤ R → t < 2 ^ R → CapOk ds fl → ds.length ≤ fl.length →
    (growF ds I K much R n fl t).2.1.length = fl.length ∧ CapOk ds (growF ds I K much R n fl t).2.1 ∧ (growF ds I K much R n fl t).2.2 < 2 ^ R ∧
      ((growF ds I K much R n fl t).1 = true → ∃ room, room < R ∧ I.testBit room = true ∧ WayOk ds K much R room fl (growF ds I K much R n fl t).2.1) ∧ ((growF ds I K much R n fl t).1 = false → (growF ds I K much R n fl t).2.1 = fl)
  | 0, fl, t, _, ht, hc, _ => ⟨rfl, hc, ht, fun h => (by cases h), fun _ => rfl⟩
  | n + 1, fl, t, hn, ht, hc, hl => by
    unfold growF
    simp only
    split
    · next hb =>
      rw [Bool.and_eq_true, Bool.not_eq_true'] at hb
      have hr := leadsF_rel (kept := K) hm hD (R + 1) fl t (R - (n + 1)) (by omega) hb.2 ht hc hl
      split
      · next fl2 t2 he =>
        have hw := leadsF_way (K := K) hm hD (R + 1) fl t (R - (n + 1)) (by omega) hb.2 ht hc hl (by rw [he])
        rw [he] at hr hw
        exact ⟨hr.len, hr.cap, Nat.pow_pos (by omega), fun _ => ⟨_, by omega, hb.1, hw⟩, fun h => (by cases h)⟩
      · next fl2 t2 he =>
        have e := leadsF_no ds K much (R + 1) fl t (R - (n + 1)) (by rw [he])
        rw [he] at hr e
        simp only at hr e
        subst e
        exact growF_ok hm hD n fl2 t2 (by omega) hr.lt hr.cap hl
    · exact growF_ok hm hD n fl t (by omega) ht hc hl
/-- What leaves the infested rooms. -/
theorem valS_way {I K room e : Nat} {ol ol2 : List Int} {much : Int} (hI : I.testBit room = true) (he : K.testBit e = true) (hIK : I &&& K = 0) (h : ∀ r : Nat, r < 12 → ol2.getD r 0 = ol.getD r 0 + (if r = room then much else 0) - (if r = e then much else 0)) :
    ∀ k : Nat, k ≤ 12 → valS I ol2 k = valS I ol k + if room < k then much else 0
  | 0, _ => by simp [valS]
  | k + 1, hk => by
    have ih := valS_way hI he hIK h k (by omega)
    have hne : I.testBit e = false := by
      cases q : I.testBit e with
      | false => rfl
      | true =>
        have : (I &&& K).testBit e = true := by rw [Nat.testBit_and, q, he]; rfl
        rw [hIK] at this
        simp at this
    unfold valS
    rw [ih, h k (by omega)]
    by_cases hr : k = room
    · subst hr
      have hke : k ≠ e := fun q => by rw [← q, hI] at hne; cases hne
      rw [hI, if_pos rfl, if_pos rfl, if_pos rfl, if_neg hke, if_neg (Nat.lt_irrefl k), if_pos (Nat.lt_succ_self k)]
      omega
    · have e1 : (room < k + 1) ↔ room < k := by omega
      simp only [e1]
      rw [if_neg hr]
      by_cases hb : I.testBit k = true
      · have hke : k ≠ e := fun q => by rw [← q, hb] at hne; cases hne
        rw [if_pos hb, if_pos hb, if_neg hke]
        omega
      · rw [if_neg hb, if_neg hb]
/-- The value of a flow. -/
def valF (ds : List Dr) (I : Nat) (fl : List Int) : Int := valS I (leavF ds fl ds.length) 12
theorem cap_bd {ds : List Dr} {R : Nat} {fl : List Int} (hD : DoorsOk R ds) (hc : CapOk ds fl) {k : Nat} (hk : k < ds.length) : -1000 ≤ fl.getD k 0 ∧ fl.getD k 0 ≤ 1000 := by
  have h1 := hc k _ (List.getElem?_eq_getElem hk)
  have h2 := (hD _ (List.getElem_mem hk)).2
  omega
theorem outF_bd {ds : List Dr} {R r : Nat} {fl : List Int} (hD : DoorsOk R ds) (hc : CapOk ds fl) : ∀ k : Nat, k ≤ ds.length → -(2000 * (k : Int)) ≤ outF ds fl r k ∧ outF ds fl r k ≤ 2000 * (k : Int)
  | 0, _ => by simp [outF]
  | k + 1, hk => by
    have ih := outF_bd hD hc k (by omega) (r := r)
    have hb := cap_bd hD hc (show k < ds.length by omega)
    unfold outF
    split <;> split <;> omega
theorem valF_bd {ds : List Dr} {R I : Nat} {fl : List Int} (hR : R ≤ 12) (hD : DoorsOk R ds) (hl : ds.length ≤ 40) (hc : CapOk ds fl) : -960000 ≤ valF ds I fl ∧ valF ds I fl ≤ 960000 := by
  have := valS_bd (I := I) (ol := leavF ds fl ds.length) (B := 80000) (by omega) (fun j => by
    by_cases hj : j < 12
    · rw [leavF_at hD hR hj ds.length (Nat.le_refl _)]
      have := outF_bd (r := j) hD hc ds.length (Nat.le_refl _)
      omega
    · rw [List.getD_eq_getElem?_getD, List.getElem?_eq_none (by rw [leavF_len]; omega)]
      simp) 12
  unfold valF
  omega
/-- A way that is found makes the value greater by so much. -/
theorem growF_val {ds : List Dr} {I K R : Nat} {much : Int} {fl : List Int} (hm : 0 ≤ much) (hR : R ≤ 12) (hD : DoorsOk R ds) (hIK : I &&& K = 0) (hc : CapOk ds fl) (hl : ds.length ≤ fl.length) (h : (growF ds I K much R R fl 0).1 = true) :
    valF ds I (growF ds I K much R R fl 0).2.1 = valF ds I fl + much := by
  obtain ⟨-, -, -, h4, -⟩ := growF_ok (I := I) (K := K) hm hD R fl 0 (Nat.le_refl _) (Nat.pow_pos (by omega)) hc hl
  obtain ⟨room, hr, hi, e, he, hk, hw⟩ := h4 h
  have := valS_way (K := K) (e := e) (ol := leavF ds fl ds.length) (ol2 := leavF ds (growF ds I K much R R fl 0).2.1 ds.length) (much := much) hi hk hIK (fun r hr12 => by
    rw [leavF_at hD hR hr12 ds.length (Nat.le_refl _), leavF_at hD hR hr12 ds.length (Nat.le_refl _)]
    exact hw r) 12 (Nat.le_refl _)
  rw [if_pos (by omega)] at this
  exact this
end Go.Proofs.Ythkamfjjfkpekaa.Pe
