/-
  PLAIN (layer 8, pest): where no way is found the rooms that were tried are a cut's: the greatest flow is the least cut.
-/
import Derived.Test.YthkamfjjfkpekaaPeLeast
import Derived.Test.YthkamfjjfkpekaaPeNet
namespace Go.Proofs.Ythkamfjjfkpekaa.Pe
open Go Go.RowKit Go.Proofs Go.Sort

/-- A tried room is gone through: it is no kept one, each of its doors leads to a tried one or bears no more. -/
def Done (ds : List Dr) (K : Nat) (m : Int) (fl : List Int) (t r : Nat) : Prop :=
  K.testBit r = false ∧ ∀ i, i < ds.length → t.testBit (beyd (ds.getD i default) (r : Int)).1.toNat = true ∨ (ds.getD i default).c - (beyd (ds.getD i default) (r : Int)).2 * fl.getD i 0 < m
theorem Done.mono {ds : List Dr} {K t t2 r : Nat} {m : Int} {fl : List Int} (h : Done ds K m fl t r) (hs : ∀ i, t.testBit i = true → t2.testBit i = true) : Done ds K m fl t2 r := ⟨h.1, fun i hi => (h.2 i hi).imp (hs _) id⟩
/-- What a search that failed has done. -/
structure Cl (ds : List Dr) (K : Nat) (m : Int) (R : Nat) (fl : List Int) (t t2 : Nat) : Prop where
  sub : ∀ i, t.testBit i = true → t2.testBit i = true
  lt : t2 < 2 ^ R
  done : ∀ r, t2.testBit r = true → t.testBit r = false → Done ds K m fl t2 r
theorem Cl.refl {ds : List Dr} {K R t : Nat} {m : Int} {fl : List Int} (h : t < 2 ^ R) : Cl ds K m R fl t t := ⟨fun _ h => h, h, fun r h1 h2 => by rw [h1] at h2; cases h2⟩
theorem Cl.trans {ds : List Dr} {K R t t2 t3 : Nat} {m : Int} {fl : List Int} (h : Cl ds K m R fl t t2) (k : Cl ds K m R fl t2 t3) : Cl ds K m R fl t t3 :=
  ⟨fun i hi => k.sub i (h.sub i hi), k.lt, fun r h1 h2 => by
    cases e : t2.testBit r with
    | true => exact (h.done r e h2).mono k.sub
    | false => exact k.done r h1 e⟩
def FCl (ds : List Dr) (K : Nat) (m : Int) (R n : Nat) (f : List Int → Nat → Nat → Bool × List Int × Nat) : Prop :=
  ∀ fl t room, room < R → t.testBit room = false → t < 2 ^ R → R < n + cnt R t → (f fl t room).1 = false → Cl ds K m R fl t (f fl t room).2.2 ∧ (f fl t room).2.2.testBit room = true
theorem scan_cl {ds : List Dr} {K R N room : Nat} {m : Int} {f : List Int → Nat → Nat → Bool × List Int × Nat} (hD : DoorsOk R ds) (hR : room < R) (hf : FCl ds K m R N f) (hn : FNo f) :
    ∀ (n : Nat) (fl : List Int) (t : Nat), n ≤ ds.length → t < 2 ^ R → R < N + cnt R t → (scan ds m f room n fl t).1 = false →
      Cl ds K m R fl t (scan ds m f room n fl t).2.2 ∧ ∀ i, ds.length - n ≤ i → i < ds.length → (scan ds m f room n fl t).2.2.testBit (beyd (ds.getD i default) (room : Int)).1.toNat = true ∨ (ds.getD i default).c - (beyd (ds.getD i default) (room : Int)).2 * fl.getD i 0 < m
  | 0, fl, t, _, ht, _, _ => ⟨Cl.refl ht, fun i h1 h2 => by omega⟩
  | n + 1, fl, t, hn1, ht, hc, h => by
    have hi : ds.length - (n + 1) < ds.length := by omega
    obtain ⟨i, hie⟩ : ∃ i, ds.length - (n + 1) = i := ⟨_, rfl⟩
    rw [hie] at hi
    have hdd := hD _ (getD_mem hi)
    unfold scan at h ⊢
    simp only [hie] at h ⊢
    split
    · next hcc =>
      rw [if_pos hcc] at h
      obtain ⟨k1, k2⟩ := scan_cl hD hR hf hn n fl t (by omega) ht hc h
      refine ⟨k1, fun j h1 h2 => ?_⟩
      by_cases e : j = i
      · subst e
        rw [Bool.or_eq_true, decide_eq_true_eq] at hcc
        exact hcc.imp (k1.sub _) id
      · exact k2 j (by omega) h2
    · next hcc =>
      rw [if_neg hcc] at h
      simp only [Bool.or_eq_true, decide_eq_true_eq, not_or, Bool.not_eq_true, Int.not_lt] at hcc
      have hb := beyd_bd hdd.1 hR
      split
      · next fl2 t2 he => rw [he] at h; cases h
      · next fl2 t2 he =>
        rw [he] at h
        obtain ⟨c1, c2⟩ := hf fl t (beyd (ds.getD i default) ↑room).1.toNat (by omega) hcc.1 ht hc (by rw [he])
        have e := hn fl t (beyd (ds.getD i default) ↑room).1.toNat (by rw [he])
        rw [he] at e c1 c2
        simp only at e h c1 c2
        subst e
        obtain ⟨k1, k2⟩ := scan_cl hD hR hf hn n fl2 t2 (by omega) c1.lt (Nat.lt_of_lt_of_le hc (Nat.add_le_add_left (cnt_mono c1.sub) N)) h
        refine ⟨c1.trans k1, fun j h1 h2 => ?_⟩
        by_cases e : j = i
        · subst e
          exact .inl (k1.sub _ c2)
        · exact k2 j (by omega) h2
theorem leadsF_cl {ds : List Dr} {K R : Nat} {m : Int} (hD : DoorsOk R ds) : ∀ n : Nat, FCl ds K m R n (leadsF ds K m n)
  | 0 => fun fl t room hR h0 ht hc h => by
    have := cnt_le R t
    omega
  | n + 1 => fun fl t room hR h0 ht hc h => by
    have hto := tried_or ht hR
    have hsub : ∀ i, t.testBit i = true → (t ||| 2 ^ room).testBit i = true := fun i hi => by rw [bit_or, hi]; rfl
    have hne : t ≠ t ||| 2 ^ room := fun e => by
      have := congrArg (fun z => Nat.testBit z room) e
      simp only [bit_or, h0] at this
      simp at this
    have hlt := cnt_lt hsub hto hne
    unfold leadsF at h ⊢
    split
    · next hk => rw [if_pos hk] at h; cases h
    · next hk =>
      rw [if_neg hk] at h
      obtain ⟨k1, k2⟩ := scan_cl hD hR (leadsF_cl hD n) (leadsF_no ds K m n) ds.length fl (t ||| 2 ^ room) (Nat.le_refl _) hto (by omega) h
      have hself : (t ||| 2 ^ room).testBit room = true := by rw [bit_or]; simp
      refine ⟨⟨fun i hi => k1.sub i (hsub i hi), k1.lt, fun r h1 h2 => ?_⟩, k1.sub _ hself⟩
      by_cases e : r = room
      · subst e
        exact ⟨by simpa using hk, fun i hi => k2 i (by omega) hi⟩
      · exact k1.done r h1 (by rw [bit_or, h2]; simp; exact fun h => e h.symm)
theorem growF_cl {ds : List Dr} {I K R : Nat} {m : Int} (hD : DoorsOk R ds) : ∀ (n : Nat) (fl : List Int) (t : Nat), n ≤ R → t < 2 ^ R → (growF ds I K m R n fl t).1 = false →
    Cl ds K m R fl t (growF ds I K m R n fl t).2.2 ∧ ∀ r, R - n ≤ r → r < R → I.testBit r = true → (growF ds I K m R n fl t).2.2.testBit r = true
  | 0, fl, t, _, ht, _ => ⟨Cl.refl ht, fun r h1 h2 => by omega⟩
  | n + 1, fl, t, hn, ht, h => by
    unfold growF at h ⊢
    simp only at h ⊢
    split
    · next hb =>
      rw [if_pos hb] at h
      rw [Bool.and_eq_true, Bool.not_eq_true'] at hb
      split
      · next fl2 t2 he => rw [he] at h; cases h
      · next fl2 t2 he =>
        rw [he] at h
        obtain ⟨c1, c2⟩ := leadsF_cl (K := K) (m := m) hD (R + 1) fl t (R - (n + 1)) (by omega) hb.2 ht (by omega) (by rw [he])
        have e := leadsF_no ds K m (R + 1) fl t (R - (n + 1)) (by rw [he])
        rw [he] at e c1 c2
        simp only at e h c1 c2
        subst e
        obtain ⟨k1, k2⟩ := growF_cl hD n fl2 t2 (by omega) c1.lt h
        refine ⟨c1.trans k1, fun r h1 h2 h3 => ?_⟩
        by_cases e : r = R - (n + 1)
        · rw [e]; exact k1.sub _ c2
        · exact k2 r (by omega) h2 h3
    · next hb =>
      rw [if_neg hb] at h
      obtain ⟨k1, k2⟩ := growF_cl hD n fl t (by omega) ht h
      refine ⟨k1, fun r h1 h2 h3 => ?_⟩
      by_cases e : r = R - (n + 1)
      · rw [e] at h3 ⊢
        rw [h3, Bool.true_and] at hb
        exact k1.sub _ (by simpa using hb)
      · exact k2 r (by omega) h2 h3
/-- Through the rooms that are neither infested nor kept goes as much in as out. -/
def Even (ds : List Dr) (S : Nat) (fl : List Int) : Prop := ∀ r, S.testBit r = false → outF ds fl r ds.length = 0
theorem even_grow {ds : List Dr} {I K R : Nat} {m : Int} {fl : List Int} (hm : 0 ≤ m) (hD : DoorsOk R ds) (hf : Fl ds fl) (hl : ds.length ≤ 40) (he : Even ds (I ||| K) fl) (h : (growF ds I K m R R fl 0).1 = true) : Even ds (I ||| K) (growF ds I K m R R fl 0).2.1 := by
  obtain ⟨-, -, -, h4, -⟩ := growF_ok (I := I) (K := K) hm hD R fl 0 (Nat.le_refl _) (Nat.pow_pos (by omega)) hf.cap (by rw [hf.len]; exact hl)
  obtain ⟨room, hr, hi, e, he2, hk, hw⟩ := h4 h
  intro r hS
  rw [hw r, he r hS]
  rw [Nat.testBit_or, Bool.or_eq_false_iff] at hS
  rw [if_neg (fun e => by rw [e, hi] at hS; cases hS.1), if_neg (fun e => by rw [e, hk] at hS; cases hS.2)]
  rfl
/-- Ways are looked for until there is none. -/
theorem muchF_stop {ds : List Dr} {I K R : Nat} {m : Int} (hm : 1 ≤ m) (hR : R ≤ 12) (hD : DoorsOk R ds) (hIK : I &&& K = 0) (hl : ds.length ≤ 40) : ∀ (n : Nat) (fl : List Int), Fl ds fl → Even ds (I ||| K) fl → 960000 - valF ds I fl < n →
    Fl ds (muchF ds I K m R n fl).1 ∧ Even ds (I ||| K) (muchF ds I K m R n fl).1 ∧ (growF ds I K m R R (muchF ds I K m R n fl).1 0).1 = false ∧ (growF ds I K m R R (muchF ds I K m R n fl).1 0).2.2 = (muchF ds I K m R n fl).2
  | 0, fl, hf, he, h => by
    have := (valF_bd (I := I) hR hD hl hf.cap).2
    omega
  | n + 1, fl, hf, he, h => by
    obtain ⟨h1, h2, -, -, h5⟩ := growF_ok (I := I) (K := K) (much := m) (by omega) hD R fl 0 (Nat.le_refl _) (Nat.pow_pos (by omega)) hf.cap (by rw [hf.len]; exact hl)
    have hfl : Fl ds (growF ds I K m R R fl 0).2.1 := ⟨h1.trans hf.len, h2⟩
    have hgv := growF_val (I := I) (K := K) (fl := fl) (show 0 ≤ m by omega) hR hD hIK hf.cap (by rw [hf.len]; exact hl)
    have hev := even_grow (I := I) (K := K) (show 0 ≤ m by omega) hD hf hl he
    unfold muchF
    split
    · next fl2 t2 hg =>
      rw [hg] at hfl hgv hev
      have hv := hgv rfl
      simp only at hv
      exact muchF_stop hm hR hD hIK hl n fl2 hfl (hev rfl) (by omega)
    · next fl2 t2 hg =>
      rw [hg] at h5
      have e := h5 rfl
      simp only at e
      subst e
      exact ⟨hf, he, by rw [hg], by rw [hg]⟩
/-- What the greatest flow's search ends with. -/
theorem greatF_stop {ds : List Dr} {I K R : Nat} (hR : R ≤ 12) (hD : DoorsOk R ds) (hIK : I &&& K = 0) (hl : ds.length ≤ 40) {fl : List Int} (hf : Fl ds fl) (he : Even ds (I ||| K) fl) {m : Int} (hm : 1 ≤ m) :
    Fl ds (muchF ds I K m R 1920001 fl).1 ∧ Even ds (I ||| K) (muchF ds I K m R 1920001 fl).1 ∧ (growF ds I K m R R (muchF ds I K m R 1920001 fl).1 0).1 = false ∧ (growF ds I K m R R (muchF ds I K m R 1920001 fl).1 0).2.2 = (muchF ds I K m R 1920001 fl).2 :=
  muchF_stop hm hR hD hIK hl 1920001 fl hf he (by have := (valF_bd (I := I) hR hD hl hf.cap).1; omega)
theorem outF_zero (ds : List Dr) (r : Nat) : ∀ k : Nat, outF ds (List.replicate 40 0) r k = 0
  | 0 => rfl
  | k + 1 => by
    have e : (List.replicate 40 (0 : Int)).getD k 0 = 0 := by
      rw [List.getD_eq_getElem?_getD, List.getElem?_replicate]
      split <;> rfl
    unfold outF
    rw [outF_zero ds r k, e]
    split <;> split <;> rfl
theorem bestF_stop {ds : List Dr} {I K R : Nat} (hR : R ≤ 12) (hD : DoorsOk R ds) (hIK : I &&& K = 0) (hl : ds.length ≤ 40) :
    Fl ds (bestF ds I K R).1 ∧ Even ds (I ||| K) (bestF ds I K R).1 ∧ (growF ds I K 1 R R (bestF ds I K R).1 0).1 = false ∧ (growF ds I K 1 R R (bestF ds I K R).1 0).2.2 = (bestF ds I K R).2 := by
  have step : ∀ (n : Nat) (m : Int) (fl : List Int) (t : Nat), 1 ≤ m → m < 2 ^ n → Fl ds fl → Even ds (I ||| K) fl →
      Fl ds (greatF ds I K R 1920001 n m fl t).1 ∧ Even ds (I ||| K) (greatF ds I K R 1920001 n m fl t).1 ∧ (growF ds I K 1 R R (greatF ds I K R 1920001 n m fl t).1 0).1 = false ∧ (growF ds I K 1 R R (greatF ds I K R 1920001 n m fl t).1 0).2.2 = (greatF ds I K R 1920001 n m fl t).2 := by
    intro n
    induction n with
    | zero => intro m fl t h1 h2; simp at h2; omega
    | succ n ih =>
      intro m fl t h1 h2 hf he
      obtain ⟨k1, k2, k3, k4⟩ := greatF_stop (I := I) (K := K) hR hD hIK hl hf he h1
      unfold greatF
      rw [if_pos (by omega)]
      by_cases e : m = 1
      · subst e
        rw [show (1 : Int) / 2 = 0 by decide, greatF_end]
        exact ⟨k1, k2, k3, k4⟩
      · exact ih (m / 2) _ _ (by omega) (by rw [Int.pow_succ] at h2; omega) k1 k2
  exact step 11 1000 _ 0 (by omega) (by decide) (fl_zero hD) (fun r _ => outF_zero ds r _)
/-- What the doors between some rooms and the others cost. -/
def cutC (ds : List Dr) (S : Nat) : Nat → Int
  | 0 => 0
  | k + 1 => cutC ds S k + if S.testBit (ds.getD k default).a.toNat == S.testBit (ds.getD k default).b.toNat then 0 else (ds.getD k default).c
theorem cap_at {ds : List Dr} {fl : List Int} (h : CapOk ds fl) {k : Nat} (hk : k < ds.length) : -(ds.getD k default).c ≤ fl.getD k 0 ∧ fl.getD k 0 ≤ (ds.getD k default).c := by
  have := h k (ds.getD k default) (by rw [List.getD_eq_getElem?_getD, List.getElem?_eq_getElem hk]; rfl)
  exact this
theorem net_cut {ds : List Dr} {fl : List Int} (S : Nat) (hc : CapOk ds fl) : ∀ n : Nat, n ≤ ds.length → netF ds fl S n ≤ cutC ds S n
  | 0, _ => Int.le_refl _
  | n + 1, hn => by
    have ih := net_cut S hc n (by omega)
    have hb := cap_at hc (show n < ds.length by omega)
    show netF ds fl S n + (if S.testBit (ds.getD n default).a.toNat then fl.getD n 0 else 0) - (if S.testBit (ds.getD n default).b.toNat then fl.getD n 0 else 0) ≤ cutC ds S n + if S.testBit (ds.getD n default).a.toNat == S.testBit (ds.getD n default).b.toNat then 0 else (ds.getD n default).c
    generalize fl.getD n 0 = f at *
    generalize (ds.getD n default).c = c at *
    generalize S.testBit (ds.getD n default).a.toNat = p at *
    generalize S.testBit (ds.getD n default).b.toNat = q at *
    cases p <;> cases q <;> simp <;> omega
theorem net_near {ds : List Dr} {fl : List Int} {K R t : Nat} (hD : DoorsOk R ds) (hc : CapOk ds fl) (hd : ∀ r, t.testBit r = true → Done ds K 1 fl t r) : ∀ n : Nat, n ≤ ds.length → netF ds fl t n = cutC ds t n
  | 0, _ => rfl
  | n + 1, hn => by
    have ih := net_near hD hc hd n (by omega)
    have hb := cap_at hc (show n < ds.length by omega)
    obtain ⟨⟨h1, h2, h3⟩, -⟩ := hD _ (getD_mem (show n < ds.length by omega))
    have ea := hd (ds.getD n default).a.toNat
    have eb := hd (ds.getD n default).b.toNat
    show netF ds fl t n + (if t.testBit (ds.getD n default).a.toNat then fl.getD n 0 else 0) - (if t.testBit (ds.getD n default).b.toNat then fl.getD n 0 else 0) = cutC ds t n + if t.testBit (ds.getD n default).a.toNat == t.testBit (ds.getD n default).b.toNat then 0 else (ds.getD n default).c
    rw [ih]
    cases hp : t.testBit (ds.getD n default).a.toNat with
    | true =>
      cases hq : t.testBit (ds.getD n default).b.toNat with
      | true => simp
      | false =>
        have := (ea hp).2 n (by omega)
        rw [Int.toNat_of_nonneg h1, beyd_a] at this
        simp only at this
        rw [hq] at this
        rcases this with h | h
        · cases h
        · generalize fl.getD n 0 = f at *
          generalize (ds.getD n default).c = c at *
          simp; omega
    | false =>
      cases hq : t.testBit (ds.getD n default).b.toNat with
      | true =>
        have := (eb hq).2 n (by omega)
        rw [Int.toNat_of_nonneg (by omega), beyd_b h2] at this
        simp only at this
        rw [hp] at this
        rcases this with h | h
        · cases h
        · generalize fl.getD n 0 = f at *
          generalize (ds.getD n default).c = c at *
          simp; omega
      | false => simp
/-- Some rooms that have the infested ones and no kept one. -/
def SetOk (I K S : Nat) : Prop := (∀ i, I.testBit i = true → S.testBit i = true) ∧ ∀ i, S.testBit i = true → K.testBit i = false
theorem even_zero {ds : List Dr} {fl : List Int} {S R : Nat} (hR : R ≤ 12) (hD : DoorsOk R ds) (he : Even ds S fl) : zeroF S (leavF ds fl ds.length) 12 = true := by
  have h : ∀ k : Nat, k ≤ 12 → zeroF S (leavF ds fl ds.length) k = true := fun k => by
    induction k with
    | zero => exact fun _ => rfl
    | succ k ih =>
      intro hk
      unfold zeroF
      rw [ih (by omega), Bool.true_and, leavF_at hD hR (by omega) _ (Nat.le_refl _)]
      cases e : S.testBit k with
      | true => rw [Bool.or_true]
      | false => rw [he k e]; rfl
  exact h 12 (Nat.le_refl _)
/-- The greatest flow's value is the least cost of a cut, which the rooms to which more could go have. -/
theorem best_cut {ds : List Dr} {I K R : Nat} (hR : R ≤ 12) (hD : DoorsOk R ds) (hI : I < 2 ^ R) (hIK : I &&& K = 0) (hl : ds.length ≤ 40) :
    SetOk I K (bestF ds I K R).2 ∧ (bestF ds I K R).2 < 2 ^ R ∧ cutC ds (bestF ds I K R).2 ds.length = valF ds I (bestF ds I K R).1 ∧ ∀ S, SetOk I K S → valF ds I (bestF ds I K R).1 ≤ cutC ds S ds.length := by
  obtain ⟨h1, h2, h3, h4⟩ := bestF_stop hR hD hIK hl
  obtain ⟨c1, c2⟩ := growF_cl hD R (bestF ds I K R).1 0 (Nat.le_refl _) (Nat.pow_pos (by omega)) h3
  rw [h4] at c1 c2
  have hz := even_zero hR hD h2
  have hdone : ∀ r, (bestF ds I K R).2.testBit r = true → Done ds K 1 (bestF ds I K R).1 (bestF ds I K R).2 r := fun r hr => c1.done r hr (Nat.zero_testBit r)
  have hset : SetOk I K (bestF ds I K R).2 := ⟨fun i hi => c2 i (by omega) (by
    refine Nat.lt_of_not_le fun hle => ?_
    rw [Nat.testBit_lt_two_pow (Nat.lt_of_lt_of_le hI (Nat.pow_le_pow_right (by omega) hle))] at hi
    cases hi) hi, fun i hi => (hdone i hi).1⟩
  refine ⟨hset, c1.lt, ?_, fun S hS => ?_⟩
  · unfold valF
    rw [val_net hR hD hI hz hset.1 hset.2, net_near hD h1.cap hdone _ (Nat.le_refl _)]
  · unfold valF
    rw [val_net hR hD hI hz hS.1 hS.2]
    exact net_cut S h1.cap _ (Nat.le_refl _)
end Go.Proofs.Ythkamfjjfkpekaa.Pe
