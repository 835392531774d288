/-
  Plain mathematics: the cold hours before an hour; the longest stretch; what a chill's end says of both.
-/
import Derived.Test.YteidabpflfkdcaaDoorCdLong
import Derived.Test.YteidabpflfkdcaaDoorCdKillP
namespace Go.Proofs.YteidabpflfkdcaaDoor.Cd
open Go Go.RowKit Go.Sort

/-! ### The cold hours before an hour -/
def cb (a T : Int) : List Sg → Int
  | [] => 0
  | x :: xs => (if x.c ≤ a then (if x.t ≤ T then (if x.f ≤ x.t then x.t - x.f else 0) else if x.f ≤ T then T - x.f else 0) else 0) + cb a T xs
theorem cb_mono {a T T' : Int} (h : T ≤ T') : ∀ xs : List Sg, cb a T xs ≤ cb a T' xs
  | [] => Int.le_refl _
  | x :: xs => by
    have := cb_mono (a := a) h xs
    simp only [cb]
    split
    · split <;> split <;> (try split) <;> (try split) <;> omega
    · omega
theorem cb_nonneg (a T : Int) : ∀ xs : List Sg, 0 ≤ cb a T xs
  | [] => Int.le_refl _
  | x :: xs => by
    have := cb_nonneg a T xs
    simp only [cb]
    split
    · split <;> split <;> omega
    · omega
theorem cb_step {a t : Int} : ∀ {xs : List Sg}, HourP (fun x => decide (x ≤ a)) xs t → cb a t xs + 1 ≤ cb a (t + 1) xs
  | [], h => by obtain ⟨x, hx, -⟩ := h; cases hx
  | x :: xs, ⟨y, hy, h1, h2, h3⟩ => by
    simp only [cb]
    rcases List.mem_cons.1 hy with rfl | hy
    · have := cb_mono (a := a) (show t ≤ t + 1 by omega) xs
      simp only [decide_eq_true_eq] at h3
      rw [if_pos h3, if_pos h3]
      split <;> split <;> (try split) <;> (try split) <;> omega
    · have h4 := cb_step (a := a) (t := t) (xs := xs) ⟨y, hy, h1, h2, h3⟩
      split
      · split <;> split <;> (try split) <;> (try split) <;> omega
      · omega
theorem cb_run {a : Int} {xs : List Sg} : ∀ (h : Nat) {n : Int}, (∀ t, n - h ≤ t → t < n → HourP (fun x => decide (x ≤ a)) xs t) → cb a (n - h) xs + h ≤ cb a n xs
  | 0, n, _ => by simp
  | h + 1, n, hr => by
    have h1 := cb_run h (n := n - 1) (fun t h2 h3 => hr t (by omega) (by omega))
    have h2 := cb_step (hr (n - 1) (by omega) (by omega))
    rw [show n - 1 + 1 = n by omega] at h2
    rw [show n - 1 - (h : Int) = n - ((h + 1 : Nat) : Int) by omega] at h1
    omega
theorem cb_all {a T : Int} : ∀ (xs : List Sg) (m : Int), (∀ x ∈ xs, x.f ≤ x.t) → m + cb a T xs ≤ xs.foldl (fun n x => if x.c ≤ a then n + (x.t - x.f) else n) m
  | [], m, _ => by simp [cb]
  | x :: xs, m, h => by
    have h0 := h x (by simp)
    have h1 := cb_all (a := a) (T := T) xs (if x.c ≤ a then m + (x.t - x.f) else m) (fun y hy => h y (by simp [hy]))
    rw [List.foldl_cons]
    refine Int.le_trans ?_ h1
    simp only [cb]
    split
    · split <;> (try split) <;> omega
    · omega

/-! ### Where a rule ends there are the cold hours that it asks for -/
theorem chill_cb {a b q N s : Int} {xs : List Sg} (hb : 1 ≤ b) (hc : Chain s xs) (hs : s ≤ q) (h : seqR xs q [chP a b] = some N) : q + b ≤ N ∧ cb a q xs + b ≤ cb a N xs := by
  cases g : rowR q b (chP a b).p q xs with
  | none => rw [seq_none (by exact g)] at h; cases h
  | some m =>
    rw [seq_cons (n := m) (by exact g)] at h
    cases h
    obtain ⟨h1, h2⟩ := ((row_least hb hc hs).1 _ g).1
    have h3 := cb_run (a := a) (xs := xs) b.toNat (n := N) (fun t e1 e2 => h2 t (by omega) e2)
    have h4 := cb_mono (a := a) (show q ≤ N - (b.toNat : Int) by omega) xs
    exact ⟨h1, by omega⟩
theorem kill_cb {l : List Rd} {e a b d g : Int} (h : Good l e) (hb : 1 ≤ b) (hd : 0 ≤ d) : ∀ {k : Nat} {N : Int}, seqR (strs l e l.length) (firstH l) (killL a b d g k) = some N → firstH l + b ≤ N ∧ b * ((k : Int) + 1) ≤ cb a N (strs l e l.length)
  | 0, N, hN => by
    have h1 := chill_cb hb (chain_strs h) (Int.le_refl _) hN
    have h2 := cb_nonneg a (firstH l) (strs l e l.length)
    refine ⟨h1.1, ?_⟩
    rw [show ((0 : Nat) : Int) + 1 = 1 by rfl, Int.mul_one]
    omega
  | k + 1, N, hN => by
    rw [killL, seq_append] at hN
    cases hm : seqR (strs l e l.length) (firstH l) (killL a b d g k) with
    | none => rw [hm] at hN; cases hN
    | some m =>
      rw [hm, Option.bind_some, seq_append] at hN
      obtain ⟨h1, h2⟩ := kill_cb h hb hd hm
      cases hq : seqR (strs l e l.length) m (thL d g) with
      | none => rw [hq] at hN; cases hN
      | some q =>
        rw [hq, Option.bind_some] at hN
        have h3 := seq_ge (chain_strs h) (thL_hours hd) (show firstH l ≤ m by omega) hq
        have h4 := chill_cb hb (chain_strs h) (show firstH l ≤ q by omega) hN
        have h5 := cb_mono (a := a) h3 (strs l e l.length)
        refine ⟨by omega, ?_⟩
        have e1 : b * (((k + 1 : Nat) : Int) + 1) = b * ((k : Int) + 1) + b := by
          rw [show (((k + 1 : Nat) : Int) + 1) = ((k : Int) + 1) + 1 by omega, Int.mul_add b ((k : Int) + 1) 1, Int.mul_one]
        omega

/-! ### The longest stretch -/
theorem lg_grow {a : Int} : ∀ (xs : List Sg) (q : Int × Int × Int), q.2.2 ≤ (xs.foldl (lgS a) q).2.2
  | [], q => Int.le_refl _
  | x :: xs, q => by
    rw [List.foldl_cons]
    refine Int.le_trans ?_ (lg_grow xs _)
    unfold lgS
    split
    · exact Int.le_refl _
    · split
      · simp only; omega
      · exact Int.le_refl _
theorem row_lg {F h a : Int} (hh : 1 ≤ h) : ∀ (xs : List Sg) (b f m n : Int), Asc xs → (∀ x ∈ xs, b ≤ x.t) → F ≤ b → 0 ≤ m → rowR F h (fun x => decide (x ≤ a)) b xs = some n → h ≤ (xs.foldl (lgS a) (b, f, m)).2.2
  | [], b, f, m, n, _, _, _, _, hn => by simp [rowR] at hn
  | x :: xs, b, f, m, n, ha, hx, hb, hm, hn => by
    obtain ⟨a1, a2⟩ := List.pairwise_cons.1 ha
    have hx0 := hx x (by simp)
    have hx1 : ∀ y ∈ xs, b ≤ y.t := fun y hy => hx y (by simp [hy])
    rw [List.foldl_cons]
    by_cases e1 : x.t ≤ F
    · rw [row_early e1] at hn
      have e2 : lgS a (b, f, m) x = (b, f, m) := by
        have e3 : x.t = b := by omega
        unfold lgS
        rw [e3]
        simp only
        split
        · rfl
        · rw [if_neg (by omega)]
      rw [e2]
      exact row_lg hh xs b f m n a2 hx1 hb hm hn
    · by_cases hp : x.c ≤ a
      · by_cases e2 : h ≤ x.t - b
        · refine Int.le_trans ?_ (lg_grow xs _)
          unfold lgS
          rw [if_neg (by omega)]
          simp only
          split
          · exact e2
          · simp only; omega
        · rw [row_short e1 (by simpa using hp) e2] at hn
          unfold lgS
          rw [if_neg (by omega)]
          simp only
          split
          · exact row_lg hh xs b b (x.t - b) n a2 hx1 hb (by omega) hn
          · exact row_lg hh xs b f m n a2 hx1 hb hm hn
      · rw [row_no e1 (by simpa using hp)] at hn
        unfold lgS
        rw [if_pos (by omega)]
        exact row_lg hh xs x.t f m n a2 a1 (by omega) hm hn
theorem lg_state {l : List Rd} {e a : Int} (h : Good l e) : ∀ {k : Nat}, k ≤ l.length → ∃ s : Int, (k < l.length → (sgAt l e k).f = s) ∧
    (firstH l ≤ (lgF a (firstH l) (strs l e k)).1 ∧ (lgF a (firstH l) (strs l e k)).1 ≤ s) ∧
    (∀ t, (lgF a (firstH l) (strs l e k)).1 ≤ t → t < s → HourP (fun x => decide (x ≤ a)) (strs l e l.length) t) ∧
    (0 < (lgF a (firstH l) (strs l e k)).2.2 → firstH l ≤ (lgF a (firstH l) (strs l e k)).2.1 ∧ ∀ t, (lgF a (firstH l) (strs l e k)).2.1 ≤ t → t < (lgF a (firstH l) (strs l e k)).2.1 + (lgF a (firstH l) (strs l e k)).2.2 → HourP (fun x => decide (x ≤ a)) (strs l e l.length) t) ∧
    s - (lgF a (firstH l) (strs l e k)).1 ≤ foldC a (strs l e k) ∧ (lgF a (firstH l) (strs l e k)).2.2 ≤ foldC a (strs l e k) ∧ 0 ≤ foldC a (strs l e k) := by
  intro k
  induction k with
  | zero =>
    intro _
    refine ⟨firstH l, fun _ => rfl, ⟨Int.le_refl _, Int.le_refl _⟩, fun t h1 h2 => ?_, fun h1 => ?_, ?_, Int.le_refl _, Int.le_refl _⟩
    · have h1' : firstH l ≤ t := h1
      omega
    · exact absurd h1 (Int.lt_irrefl 0)
    · show firstH l - firstH l ≤ 0
      omega
  | succ k ih =>
    intro hk
    obtain ⟨s, h0, h1, h2, h3, h4, h5, h6⟩ := ih (by omega)
    have h0 := h0 (by omega)
    have hs := (h.sg (show k < l.length by omega)).1
    have hx : ∀ t, s ≤ t → t < (sgAt l e k).t → (sgAt l e k).c ≤ a → HourP (fun x => decide (x ≤ a)) (strs l e l.length) t := fun t g1 g2 g3 => hour_strs.2 ⟨k, by omega, by omega, g2, by simpa using g3⟩
    rw [strs_succ, lgF_snoc, foldC_snoc]
    obtain ⟨⟨q0, q1, q2⟩, hq⟩ : ∃ q, lgF a (firstH l) (strs l e k) = q := ⟨_, rfl⟩
    rw [hq] at h1 h2 h3 h4 h5 ⊢
    simp only at h1 h2 h3 h4 h5
    refine ⟨(sgAt l e k).t, fun hn => sg_next hn, ?_⟩
    unfold lgS
    by_cases hc : (sgAt l e k).c ≤ a
    · have hrun : ∀ t, q0 ≤ t → t < (sgAt l e k).t → HourP (fun x => decide (x ≤ a)) (strs l e l.length) t := fun t g1 g2 => by
        by_cases g3 : t < s
        · exact h2 t g1 g3
        · exact hx t (by omega) g2 hc
      rw [if_neg (show ¬ a < (sgAt l e k).c by omega), if_pos hc]
      simp only
      split
      · simp only
        exact ⟨by omega, hrun, fun _ => ⟨h1.1, fun t g1 g2 => hrun t g1 (by omega)⟩, by omega, by omega, by omega⟩
      · simp only
        exact ⟨by omega, hrun, h3, by omega, by omega, by omega⟩
    · rw [if_pos (show a < (sgAt l e k).c by omega), if_neg hc]
      simp only
      exact ⟨by omega, fun t g1 g2 => by omega, h3, by omega, h5, h6⟩
/-- What the law says. -/
theorem colds_said {a b c d g : Int} {l : List Rd} {e : Int} (h : kilE a b c d g l e = 0) : chkE l e [a] = 0 ∧ (0 ≤ b * c ∧ b * c ≤ coldN l e a) ∧ coldN l e a ≤ 1000000 ∧ (lgR l e a).2.2 = 0 ∧ b ≤ (lgR l e a).2.1 ∧ (lgR l e a).2.1 ≤ coldN l e a ∧
    oneE a b c d g l e (lgR l e a).1 [chP a b] = 0 ∧ oneV a b c d g l e (lgR l e a).1 [chP a b] = (lgR l e a).1 + b ∧ (0 ≤ (lgR l e a).1 ∧ (lgR l e a).1 ≤ 1000000) ∧ b ≤ kilV a b c d g l e ∧ 1 ≤ b := by
  obtain ⟨hr, hg, hk⟩ := kil_good h
  have hri := rule_iff.1 hr
  have hchk : chkE l e [a] = 0 := good_chk hg (by rw [allB1, in_iff]; omega)
  have hb : 1 ≤ b := by omega
  have hd : 0 ≤ d := by omega
  unfold kilL at hk
  obtain ⟨k1, k2⟩ := kill_cb hg hb hd hk
  have hc0 : ((c.toNat - 1 : Nat) : Int) + 1 = c := by omega
  rw [hc0] at k2
  have hF : 0 ≤ firstH l := (hg.sg (i := 0) (by have := hg.len; omega)).1.1
  have hall := cb_all (a := a) (T := kilV a b c d g l e) (strs l e l.length) 0 (fun x hx => by
    obtain ⟨i, hi, rfl⟩ := List.mem_map.1 hx
    have := (hg.sg (List.mem_range.1 hi)).1
    omega)
  have hN : coldN l e a = foldC a (strs l e l.length) := by unfold coldN; rw [if_pos hchk]
  have hfc : foldC a (strs l e l.length) = (strs l e l.length).foldl (fun n x => if x.c ≤ a then n + (x.t - x.f) else n) 0 := rfl
  obtain ⟨p, hp, -⟩ := kill_some hg hb hd (Nat.zero_le _) hk
  have hrow : rowR (firstH l) b (fun x => decide (x ≤ a)) (firstH l) (strs l e l.length) = some p := by
    have := hp
    rw [killL] at this
    cases g : rowR (firstH l) b (chP a b).p (firstH l) (strs l e l.length) with
    | none => rw [seq_none (by exact g)] at this; cases this
    | some m => rw [seq_cons (n := m) (by exact g)] at this; cases this; exact g
  have hlong : b ≤ (lgF a (firstH l) (strs l e l.length)).2.2 := row_lg hb _ _ _ _ _ (strs_asc hg) (fun x hx => by
    have h1 := chain_ge (chain_strs hg) x hx
    obtain ⟨i, hi, rfl⟩ := List.mem_map.1 hx
    have h2 := (hg.sg (List.mem_range.1 hi)).1
    omega) (Int.le_refl _) (Int.le_refl _) hrow
  obtain ⟨s, -, -, -, h3, -, h5, -⟩ := lg_state (a := a) hg (Nat.le_refl l.length)
  have hR : lgR l e a = ((lgF a (firstH l) (strs l e l.length)).2.1, (lgF a (firstH l) (strs l e l.length)).2.2, 0) := by
    unfold lgR
    rw [if_pos hchk, if_neg (by omega)]
  have hbd := lg_bd hg (temp := a) (Nat.le_refl l.length) _ rfl
  rw [hR, hN]
  obtain ⟨⟨q0, q1, q2⟩, hq⟩ : ∃ q, lgF a (firstH l) (strs l e l.length) = q := ⟨_, rfl⟩
  rw [hq] at h3 h5 hlong hbd ⊢
  simp only at h3 h5 hlong hbd ⊢
  obtain ⟨g1, g2⟩ := h3 (by omega)
  have hend : q1 ≤ e := by
    obtain ⟨x, hx, x1, x2, -⟩ := g2 q1 (Int.le_refl _) (by omega)
    have := strs_end hg x hx
    omega
  have hfit : FitsR q1 b (fun x => decide (x ≤ a)) (strs l e l.length) (q1 + b) := ⟨Int.le_refl _, fun t e1 e2 => g2 t (by omega) (by omega)⟩
  have hone : seqR (strs l e l.length) q1 [chP a b] = some (q1 + b) := by
    have hl := row_least (fr := q1) (p := fun x => decide (x ≤ a)) hb (chain_strs hg) g1
    cases g : rowR q1 b (fun x => decide (x ≤ a)) q1 (strs l e l.length) with
    | none => exact absurd hfit (hl.2 g _)
    | some m =>
      obtain ⟨m1, m2⟩ := hl.1 m g
      have m3 := m2 _ hfit
      have m4 := m1.1
      rw [seq_cons (n := m) (by exact g), show m = q1 + b by omega]
      rfl
  obtain ⟨o1, o2⟩ := one_of hr hg (fr := q1) ⟨g1, hend⟩ hone
  have hle : foldC a (strs l e l.length) ≤ 1000000 := by
    have hL := hg.len
    have h1 := foldC_bd (temp := a) hg (show l.length - 1 < l.length by omega)
    have h2 := (hg.sg (show l.length - 1 < l.length by omega)).1
    rw [show strs l e l.length = strs l e (l.length - 1) ++ [sgAt l e (l.length - 1)] by rw [← strs_succ, show l.length - 1 + 1 = l.length by omega], foldC_snoc]
    split <;> omega
  refine ⟨hchk, ⟨Int.mul_nonneg (by omega) (by omega), by omega⟩, hle, trivial, hlong, h5, o2, o1, by omega, by omega, hb⟩
end Go.Proofs.YteidabpflfkdcaaDoor.Cd
