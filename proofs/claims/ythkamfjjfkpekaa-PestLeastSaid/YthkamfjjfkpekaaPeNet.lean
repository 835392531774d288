/-
  PLAIN (layer 8, pest): what leaves a set of rooms goes through its doors.
-/
import Derived.Test.YthkamfjjfkpekaaPeGrowQ
import Derived.Test.YthkamfjjfkpekaaPeFlow
import Derived.Test.YthkamfjjfkpekaaPeCost
namespace Go.Proofs.Ythkamfjjfkpekaa.Pe
open Go Go.RowKit Go.Proofs Go.Sort

theorem zeroF_same {S : Nat} {ol ol2 : List Int} {R : Nat} (hR : R ≤ 12) (h1 : ∀ j, j < R → ol.getD j 0 = ol2.getD j 0) (h2 : ∀ j, R ≤ j → j < 12 → ol.getD j 0 = 0) : zeroF S ol 12 = zeroF S ol2 R := by
  have a : ∀ k, k ≤ R → zeroF S ol k = zeroF S ol2 k := fun k => by
    induction k with
    | zero => exact fun _ => rfl
    | succ k ih => exact fun hk => by unfold zeroF; rw [ih (by omega), h1 k (by omega)]
  have b : ∀ m, R + m ≤ 12 → zeroF S ol (R + m) = zeroF S ol R := fun m => by
    induction m with
    | zero => exact fun _ => rfl
    | succ m ih =>
        intro hm
        show (zeroF S ol (R + m) && (decide (ol.getD (R + m) 0 = 0) || S.testBit (R + m))) = _
        rw [ih (by omega), h2 (R + m) (by omega) (by omega), decide_eq_true rfl, Bool.true_or, Bool.and_true]
  have := b (12 - R) (by omega)
  rw [show R + (12 - R) = 12 by omega] at this
  rw [this, a R (Nat.le_refl _)]
theorem valS_same {S : Nat} {ol ol2 : List Int} {R : Nat} (hR : R ≤ 12) (h1 : ∀ j, j < R → ol.getD j 0 = ol2.getD j 0) (h2 : ∀ j, R ≤ j → j < 12 → ol.getD j 0 = 0) : valS S ol 12 = valS S ol2 R := by
  have a : ∀ k, k ≤ R → valS S ol k = valS S ol2 k := fun k => by
    induction k with
    | zero => exact fun _ => rfl
    | succ k ih => exact fun hk => by unfold valS; rw [ih (by omega), h1 k (by omega)]
  have b : ∀ m, R + m ≤ 12 → valS S ol (R + m) = valS S ol R := fun m => by
    induction m with
    | zero => exact fun _ => rfl
    | succ m ih =>
        intro hm
        show (if S.testBit (R + m) then valS S ol (R + m) + ol.getD (R + m) 0 else valS S ol (R + m)) = _
        rw [ih (by omega), h2 (R + m) (by omega) (by omega), Int.add_zero]
        split <;> rfl
  have := b (12 - R) (by omega)
  rw [show R + (12 - R) = 12 by omega] at this
  rw [this, a R (Nat.le_refl _)]
theorem outF_out {ds : List Dr} {fl : List Int} {R r : Nat} (hD : DoorsOk R ds) (hr : R ≤ r) : ∀ k : Nat, k ≤ ds.length → outF ds fl r k = 0
  | 0, _ => rfl
  | k + 1, hk => by
    have ih := outF_out hD hr k (by omega) (fl := fl)
    obtain ⟨⟨h1, h2, h3⟩, -⟩ := hD _ (getD_mem (show k < ds.length by omega))
    unfold outF
    rw [ih, if_neg (by omega), if_neg (by omega)]
    rfl
/-- What goes out of a set of rooms through the first doors, less what comes in. -/
def netF (ds : List Dr) (fl : List Int) (S : Nat) : Nat → Int
  | 0 => 0
  | k + 1 => netF ds fl S k + (if S.testBit (ds.getD k default).a.toNat then fl.getD k 0 else 0) - (if S.testBit (ds.getD k default).b.toNat then fl.getD k 0 else 0)
/-- The same, room by room. -/
def roomF (ds : List Dr) (fl : List Int) (S n : Nat) : Nat → Int
  | 0 => 0
  | r + 1 => if S.testBit r then roomF ds fl S n r + outF ds fl r n else roomF ds fl S n r
theorem roomF_more {ds : List Dr} {fl : List Int} {S n a b : Nat} (ha : (ds.getD n default).a = a) (hb : (ds.getD n default).b = b) (hab : a ≠ b) : ∀ r : Nat, roomF ds fl S (n + 1) r = roomF ds fl S n r + (if a < r ∧ S.testBit a = true then fl.getD n 0 else 0) - (if b < r ∧ S.testBit b = true then fl.getD n 0 else 0)
  | 0 => by simp [roomF]
  | r + 1 => by
    have ih := roomF_more (fl := fl) (S := S) ha hb hab r
    have ho : outF ds fl r (n + 1) = outF ds fl r n + (if a = r then fl.getD n 0 else 0) - (if b = r then fl.getD n 0 else 0) := by
      show outF ds fl r n + (if (ds.getD n default).a = (r : Int) then fl.getD n 0 else 0) - (if (ds.getD n default).b = (r : Int) then fl.getD n 0 else 0) = _
      rw [ha, hb]
      simp only [Int.natCast_inj]
    show (if S.testBit r then roomF ds fl S (n + 1) r + outF ds fl r (n + 1) else roomF ds fl S (n + 1) r) = (if S.testBit r then roomF ds fl S n r + outF ds fl r n else roomF ds fl S n r) + _ - _
    rw [ih, ho]
    by_cases e1 : a = r
    · subst e1
      have e2 : ¬ b = a := fun h => hab h.symm
      have e3 : (b < a + 1) ↔ (b < a) := by omega
      cases hs : S.testBit a with
      | true => simp [e2, e3]; omega
      | false => simp [e2, e3]
    · by_cases e2 : b = r
      · subst e2
        have e3 : (a < b + 1) ↔ (a < b) := by omega
        cases hs : S.testBit b with
        | true => simp [e1, e3]; omega
        | false => simp [e1, e3]
      · have e3 : (a < r + 1) ↔ (a < r) := by omega
        have e4 : (b < r + 1) ↔ (b < r) := by omega
        cases hs : S.testBit r with
        | true => simp [e1, e2, e3, e4]; omega
        | false => simp [e1, e2, e3, e4]
theorem roomF_none {ds : List Dr} {fl : List Int} {S : Nat} : ∀ r : Nat, roomF ds fl S 0 r = 0
  | 0 => rfl
  | r + 1 => by
    unfold roomF
    rw [roomF_none r]
    split <;> rfl
theorem roomF_net {ds : List Dr} {fl : List Int} {S R : Nat} (hD : DoorsOk R ds) : ∀ n : Nat, n ≤ ds.length → roomF ds fl S n R = netF ds fl S n
  | 0, _ => roomF_none R
  | n + 1, hn => by
    have ih := roomF_net hD n (by omega) (fl := fl) (S := S)
    obtain ⟨⟨h1, h2, h3⟩, -⟩ := hD _ (getD_mem (show n < ds.length by omega))
    obtain ⟨a, ha⟩ := Int.eq_ofNat_of_zero_le h1
    obtain ⟨b, hb⟩ := Int.eq_ofNat_of_zero_le (show 0 ≤ (ds.getD n default).b by omega)
    rw [roomF_more ha hb (by omega) R, ih]
    show _ = netF ds fl S n + (if S.testBit (ds.getD n default).a.toNat then fl.getD n 0 else 0) - (if S.testBit (ds.getD n default).b.toNat then fl.getD n 0 else 0)
    rw [ha, hb, Int.toNat_natCast, Int.toNat_natCast]
    have e1 : a < R := by omega
    have e2 : b < R := by omega
    simp only [e1, e2, true_and]
/-- What leaves the infested rooms leaves each set that has them and no kept one. -/
theorem val_room {ds : List Dr} {fl : List Int} {R I K S : Nat} (hR : R ≤ 12) (hD : DoorsOk R ds) (hz : zeroF (I ||| K) (leavF ds fl ds.length) 12 = true)
    (hIS : ∀ i, I.testBit i = true → S.testBit i = true) (hSK : ∀ i, S.testBit i = true → K.testBit i = false) : ∀ r : Nat, r ≤ R → valS I (leavF ds fl ds.length) r = roomF ds fl S ds.length r
  | 0, _ => rfl
  | r + 1, hr => by
    have ih := val_room hR hD hz hIS hSK r (by omega)
    have hl := leavF_at hD hR (show r < 12 by omega) ds.length (Nat.le_refl _) (fl := fl)
    unfold valS roomF
    rw [ih, hl]
    cases hi : I.testBit r with
    | true => rw [hIS r hi]
    | false =>
      cases hs : S.testBit r with
      | false => rfl
      | true =>
        have h0 : outF ds fl r ds.length = 0 := by
          have hk := hSK r hs
          cases e : zeroF (I ||| K) (leavF ds fl ds.length) (r + 1) with
          | false => rw [zeroF_no e (show r + 1 ≤ 12 by omega)] at hz; cases hz
          | true =>
            unfold zeroF at e
            rw [Nat.testBit_or, hi, hk, Bool.or_self, Bool.or_false, Bool.and_eq_true, decide_eq_true_eq, hl] at e
            exact e.2
        rw [h0]
        simp
theorem val_net {ds : List Dr} {fl : List Int} {R I K S : Nat} (hR : R ≤ 12) (hD : DoorsOk R ds) (hI : I < 2 ^ R) (hz : zeroF (I ||| K) (leavF ds fl ds.length) 12 = true)
    (hIS : ∀ i, I.testBit i = true → S.testBit i = true) (hSK : ∀ i, S.testBit i = true → K.testBit i = false) : valS I (leavF ds fl ds.length) 12 = netF ds fl S ds.length := by
  have e : valS I (leavF ds fl ds.length) 12 = valS I (leavF ds fl ds.length) R := valS_same hR (fun _ _ => rfl) (fun j h1 h2 => by rw [leavF_at hD hR h2 _ (Nat.le_refl _), outF_out hD h1 _ (Nat.le_refl _)])
  rw [e, val_room hR hD hz hIS hSK R (Nat.le_refl _), roomF_net hD _ (Nat.le_refl _)]
/-- The cost of the first doors that are among some. -/
def sealF (ds : List Dr) (sl : List Int) : Nat → Int
  | 0 => 0
  | k + 1 => sealF ds sl k + if sl.contains (k : Int) then (ds.getD k default).c else 0
theorem capF_at {ds : List Dr} {fl : List Int} {n : Nat} (h : capF ds fl n = true) {k : Nat} (hk : k < n) : -(ds.getD k default).c ≤ fl.getD k 0 ∧ fl.getD k 0 ≤ (ds.getD k default).c := by
  cases e : capF ds fl (k + 1) with
  | false => rw [capF_no e (by omega)] at h; cases h
  | true =>
    unfold capF at e
    rw [Bool.and_eq_true] at e
    exact inB_iff.1 e.2
theorem netF_seal {ds : List Dr} {fl sl : List Int} {S : Nat} (hc : capF ds fl ds.length = true) (hS : ∀ k, k < ds.length → sl.contains ((k : Nat) : Int) = false → S.testBit (ds.getD k default).a.toNat = S.testBit (ds.getD k default).b.toNat) :
    ∀ n : Nat, n ≤ ds.length → netF ds fl S n ≤ sealF ds sl n
  | 0, _ => Int.le_refl _
  | n + 1, hn => by
    have ih := netF_seal hc hS n (by omega)
    have hb := capF_at hc (show n < ds.length by omega)
    have hs1 := hS n (by omega)
    show netF ds fl S n + (if S.testBit (ds.getD n default).a.toNat then fl.getD n 0 else 0) - (if S.testBit (ds.getD n default).b.toNat then fl.getD n 0 else 0) ≤ sealF ds sl n + if sl.contains (n : Int) then (ds.getD n default).c else 0
    generalize fl.getD n 0 = f at *
    generalize (ds.getD n default).c = c at *
    generalize S.testBit (ds.getD n default).a.toNat = p at *
    generalize S.testBit (ds.getD n default).b.toNat = q at *
    generalize sl.contains (n : Int) = t at *
    cases t with
    | false =>
      rw [hs1 rfl]
      cases q <;> simp <;> omega
    | true => cases p <;> cases q <;> simp <;> omega
theorem sealF_more {ds : List Dr} {l : List Int} {z : Nat} (hc : ∀ k, 0 ≤ (ds.getD k default).c) : ∀ n : Nat, sealF ds (l ++ [(z : Int)]) n ≤ sealF ds l n + (if z < n then (ds.getD z default).c else 0)
  | 0 => by simp [sealF]
  | n + 1 => by
    have ih := sealF_more (l := l) (z := z) hc n
    have h0 := hc n
    unfold sealF
    by_cases e : z = n
    · subst e
      have e1 : (l ++ [(z : Int)]).contains (z : Int) = true := by simp
      rw [e1]
      rw [if_neg (Nat.lt_irrefl _)] at ih
      rw [if_pos (Nat.lt_succ_self z), if_pos rfl]
      split <;> omega
    · have e1 : (l ++ [(z : Int)]).contains (n : Int) = l.contains (n : Int) := by
        rw [Bool.eq_iff_iff]
        simp only [List.contains_iff_mem, List.mem_append, List.mem_singleton]
        exact ⟨fun h => h.elim id (fun h => absurd h (by omega)), Or.inl⟩
      rw [e1]
      have e2 : (z < n + 1) ↔ (z < n) := by omega
      simp only [e2]
      split <;> omega
theorem sealF_none {ds : List Dr} : ∀ n : Nat, sealF ds [] n = 0
  | 0 => rfl
  | n + 1 => by
    unfold sealF
    rw [sealF_none n]
    rfl
theorem seal_cost {ds : List Dr} {sl : List Int} (hc : ∀ k, 0 ≤ (ds.getD k default).c) (hin : ∀ z ∈ sl, 0 ≤ z ∧ z ≤ (ds.length : Int) - 1) : ∀ k : Nat, k ≤ sl.length → sealF ds (sl.take k) ds.length ≤ costF ds sl k
  | 0, _ => by
    rw [List.take_zero, sealF_none]
    exact Int.le_refl _
  | k + 1, hk => by
    have ih := seal_cost hc hin k (by omega)
    obtain ⟨z, hz⟩ : ∃ z, sl[k]? = some z := ⟨_, List.getElem?_eq_getElem (by omega)⟩
    obtain ⟨z0, z1⟩ := hin z (List.mem_of_getElem? hz)
    obtain ⟨j, rfl⟩ := Int.eq_ofNat_of_zero_le z0
    have e1 : sl.getD k 0 = (j : Int) := by rw [List.getD_eq_getElem?_getD, hz]; rfl
    have h2 := sealF_more (l := sl.take k) (z := j) hc ds.length
    rw [if_pos (by omega)] at h2
    rw [List.take_add_one, hz, Option.toList_some]
    unfold costF
    rw [e1, Int.toNat_natCast]
    omega
end Go.Proofs.Ythkamfjjfkpekaa.Pe
