/-
  PLAIN MATHEMATICS (layer 8, pest): what a search for a way does to a flow.
-/
import Derived.Test.YthkamfjjfkpekaaPeProves
namespace Go.Proofs.Ythkamfjjfkpekaa.Pe
open Go

/-- Doors of a house with so many rooms. -/
def DoorsOk (R : Nat) (ds : List Dr) : Prop := ∀ d ∈ ds, (0 ≤ d.a ∧ d.a < d.b ∧ d.b < R) ∧ 0 ≤ d.c ∧ d.c ≤ 1000
/-- Through no door goes more than its cost. -/
def CapOk (ds : List Dr) (fl : List Int) : Prop := ∀ j d, ds[j]? = some d → -d.c ≤ fl.getD j 0 ∧ fl.getD j 0 ≤ d.c
/-- What a search may have changed: it has tried more rooms; through a door that leads into a tried room goes what went. -/
structure Rel (ds : List Dr) (R t0 : Nat) (fl0 fl : List Int) (t : Nat) : Prop where
  len : fl.length = fl0.length
  sub : ∀ i, t0.testBit i = true → t.testBit i = true
  lt : t < 2 ^ R
  keep : ∀ j, fl.getD j 0 ≠ fl0.getD j 0 → ∀ d, ds[j]? = some d → t0.testBit d.a.toNat = false ∧ t0.testBit d.b.toNat = false
  cap : CapOk ds fl
theorem Rel.refl {ds : List Dr} {R t : Nat} {fl : List Int} (ht : t < 2 ^ R) (hc : CapOk ds fl) : Rel ds R t fl fl t := ⟨rfl, fun _ h => h, ht, fun _ h => absurd rfl h, hc⟩
theorem beyd_a (d : Dr) : beyd d d.a = (d.b, 1) := by simp [beyd]
theorem beyd_b {d : Dr} (h : d.a < d.b) : beyd d d.b = (d.a, -1) := by
  unfold beyd
  rw [if_neg (by omega), if_pos rfl]
theorem beyd_no {d : Dr} {r : Int} (h1 : r ≠ d.a) (h2 : r ≠ d.b) : beyd d r = (r, 0) := by
  unfold beyd
  rw [if_neg h1, if_neg h2]
theorem beyd_bd {R room : Nat} {d : Dr} (hd : 0 ≤ d.a ∧ d.a < d.b ∧ d.b < R) (hr : room < R) : (0 ≤ (beyd d room).1 ∧ (beyd d room).1 < R) ∧ -1 ≤ (beyd d room).2 ∧ (beyd d room).2 ≤ 1 := by
  unfold beyd
  split
  · simp only; omega
  · split
    · simp only; omega
    · simp only; omega
theorem not_sub {t0 t i : Nat} (h : ∀ i, t0.testBit i = true → t.testBit i = true) (ht : t.testBit i = false) : t0.testBit i = false := by
  cases e : t0.testBit i with
  | false => rfl
  | true => rw [h i e] at ht; cases ht
/-- One door more through which a way goes. -/
theorem Rel.step {ds : List Dr} {R t0 t t2 room i : Nat} {fl0 fl fl2 : List Int} {d : Dr} {much : Int} (hm : 0 ≤ much) (hd : ds[i]? = some d) (hdd : 0 ≤ d.a ∧ d.a < d.b ∧ d.b < R) (hR : room < R) (hi : i < fl0.length)
    (h : Rel ds R t0 fl0 fl t) (h0 : t0.testBit room = false) (h1 : t.testBit room = true) (hto : t.testBit (beyd d room).1.toNat = false) (hmu : much ≤ d.c - (beyd d room).2 * fl.getD i 0) (hf : Rel ds R t fl fl2 t2) :
    Rel ds R t0 fl0 (fl2.set i (fl2.getD i 0 + (beyd d room).2 * much)) t2 := by
  have hsg : (d.a = room ∧ beyd d room = (d.b, 1)) ∨ (d.b = room ∧ beyd d room = (d.a, -1)) := by
    by_cases ha : d.a = room
    · exact .inl ⟨ha, by rw [← ha]; exact beyd_a d⟩
    · by_cases hb : d.b = room
      · exact .inr ⟨hb, by rw [← hb]; exact beyd_b hdd.2.1⟩
      · rw [beyd_no (fun e => ha e.symm) (fun e => hb e.symm)] at hto
        simp only [Int.toNat_natCast] at hto
        rw [h1] at hto; cases hto
  have hsame : fl2.getD i 0 = fl.getD i 0 := by
    apply Classical.byContradiction
    intro hne
    obtain ⟨ka, kb⟩ := hf.keep i hne d hd
    rcases hsg with ⟨e, -⟩ | ⟨e, -⟩
    · rw [e, Int.toNat_natCast, h1] at ka; cases ka
    · rw [e, Int.toNat_natCast, h1] at kb; cases kb
  have hil : i < fl2.length := by rw [hf.len, h.len]; exact hi
  refine ⟨by rw [List.length_set, hf.len, h.len], fun k hk => hf.sub k (h.sub k hk), hf.lt, fun j hj d2 hd2 => ?_, fun j d2 hd2 => ?_⟩
  · by_cases hji : i = j
    · subst hji
      rw [hd] at hd2; cases hd2
      rcases hsg with ⟨e, e2⟩ | ⟨e, e2⟩
      · rw [e2] at hto
        rw [e, Int.toNat_natCast]
        exact ⟨h0, not_sub h.sub hto⟩
      · rw [e2] at hto
        rw [e, Int.toNat_natCast]
        exact ⟨not_sub h.sub hto, h0⟩
    · rw [getD_set, if_neg (fun k => hji k.1)] at hj
      by_cases hc : fl2.getD j 0 = fl.getD j 0
      · rw [hc] at hj
        exact h.keep j hj d2 hd2
      · obtain ⟨ka, kb⟩ := hf.keep j hc d2 hd2
        exact ⟨not_sub h.sub ka, not_sub h.sub kb⟩
  · rw [getD_set]
    by_cases hji : i = j
    · subst hji
      rw [if_pos ⟨rfl, hil⟩, hsame]
      rw [hd] at hd2; cases hd2
      have hc := h.cap i d hd
      rcases hsg with ⟨-, e2⟩ | ⟨-, e2⟩
      · rw [e2] at hmu ⊢
        simp only [Int.one_mul] at hmu ⊢
        omega
      · rw [e2] at hmu ⊢
        simp only [Int.neg_mul, Int.one_mul] at hmu ⊢
        omega
    · rw [if_neg (fun k => hji k.1)]
      exact hf.cap j d2 hd2
theorem Rel.trans {ds : List Dr} {R t0 t t2 : Nat} {fl0 fl fl2 : List Int} (h : Rel ds R t0 fl0 fl t) (k : Rel ds R t fl fl2 t2) : Rel ds R t0 fl0 fl2 t2 := by
  refine ⟨k.len.trans h.len, fun i hi => k.sub i (h.sub i hi), k.lt, fun j hj d hd => ?_, k.cap⟩
  by_cases hc : fl2.getD j 0 = fl.getD j 0
  · rw [hc] at hj
    exact h.keep j hj d hd
  · obtain ⟨ka, kb⟩ := k.keep j hc d hd
    exact ⟨not_sub h.sub ka, not_sub h.sub kb⟩
/-- What the search from a room on may be taken for. -/
def FOk (ds : List Dr) (R : Nat) (f : List Int → Nat → Nat → Bool × List Int × Nat) : Prop :=
  ∀ fl t room, room < R → t.testBit room = false → t < 2 ^ R → CapOk ds fl → ds.length ≤ fl.length → Rel ds R t fl (f fl t room).2.1 (f fl t room).2.2
theorem scan_rel {ds : List Dr} {R t0 room : Nat} {fl0 : List Int} {much : Int} {f : List Int → Nat → Nat → Bool × List Int × Nat} (hm : 0 ≤ much) (hD : DoorsOk R ds) (hR : room < R) (hl : ds.length ≤ fl0.length) (h0 : t0.testBit room = false) (hf : FOk ds R f) :
    ∀ (n : Nat) (fl : List Int) (t : Nat), n ≤ ds.length → t.testBit room = true → Rel ds R t0 fl0 fl t → Rel ds R t0 fl0 (scan ds much f room n fl t).2.1 (scan ds much f room n fl t).2.2
  | 0, fl, t, _, _, h => h
  | n + 1, fl, t, hn, h1, h => by
    have hi : ds.length - (n + 1) < ds.length := by omega
    have hx : ds[ds.length - (n + 1)]? = some (ds.getD (ds.length - (n + 1)) default) := by rw [List.getD_eq_getElem?_getD, List.getElem?_eq_getElem hi]; rfl
    have hdd := hD _ (List.mem_of_getElem? hx)
    unfold scan
    simp only
    split
    · exact scan_rel hm hD hR hl h0 hf n fl t (by omega) h1 h
    · next hc =>
      simp only [Bool.or_eq_true, decide_eq_true_eq, not_or, Bool.not_eq_true, Int.not_lt] at hc
      obtain ⟨c1, c2⟩ := hc
      have hb := beyd_bd hdd.1 hR
      have hr := hf fl t (beyd (ds.getD (ds.length - (n + 1)) default) room).1.toNat (by omega) c1 h.lt h.cap (by rw [h.len]; exact hl)
      split
      · next fl2 t2 he =>
        rw [he] at hr
        exact h.step hm hx hdd.1 hR (by omega) h0 h1 c1 c2 hr
      · next fl2 t2 he =>
        rw [he] at hr
        exact scan_rel hm hD hR hl h0 hf n fl2 t2 (by omega) (hr.sub _ h1) (h.trans hr)
theorem tried_or {t R room : Nat} (ht : t < 2 ^ R) (hr : room < R) : t ||| 2 ^ room < 2 ^ R := Nat.or_lt_two_pow ht (Nat.pow_lt_pow_right (by omega) hr)
theorem bit_or (t room i : Nat) : (t ||| 2 ^ room).testBit i = (t.testBit i || decide (room = i)) := by
  rw [Nat.testBit_or, Nat.testBit_two_pow]
theorem mark_rel {ds : List Dr} {R t room : Nat} {fl : List Int} (hR : room < R) (ht : t < 2 ^ R) (hc : CapOk ds fl) : Rel ds R t fl fl (t ||| 2 ^ room) :=
  ⟨rfl, fun i hi => by rw [bit_or, hi]; rfl, tried_or ht hR, fun _ h => absurd rfl h, hc⟩
theorem leadsF_rel {ds : List Dr} {R kept : Nat} {much : Int} (hm : 0 ≤ much) (hD : DoorsOk R ds) : ∀ n : Nat, FOk ds R (leadsF ds kept much n)
  | 0 => fun fl t room _ _ ht hc _ => Rel.refl ht hc
  | n + 1 => fun fl t room hR h0 ht hc hl => by
    unfold leadsF
    split
    · exact Rel.refl ht hc
    · exact scan_rel hm hD hR hl h0 (leadsF_rel hm hD n) ds.length fl (t ||| 2 ^ room) (Nat.le_refl _) (by rw [bit_or]; simp) (mark_rel hR ht hc)
end Go.Proofs.Ythkamfjjfkpekaa.Pe
