/-
  Plain mathematics of rows of hours: the least end, by the hours that serve; what is colder, or ends later, kills no later.
-/
import Derived.Test.YteidabpflfkdcaaDoorCdEat
namespace Go.Proofs.YteidabpflfkdcaaDoor.Cd
open Go Go.RowKit Go.Sort

/-- An hour of whose temperature p holds. -/
def HourP (p : Int → Bool) (xs : List Sg) (t : Int) : Prop := ∃ x ∈ xs, x.f ≤ t ∧ t < x.t ∧ p x.c = true
/-- So many hours in a row end at n, none of them before an hour. -/
def FitsR (fr hrs : Int) (p : Int → Bool) (xs : List Sg) (n : Int) : Prop := fr + hrs ≤ n ∧ ∀ t, n - hrs ≤ t → t < n → HourP p xs t
/-- Stretches from an hour on, each at the end of the one before; none but the last is empty. -/
def Chain : Int → List Sg → Prop
  | _, [] => True
  | s, x :: xs => x.f = s ∧ s ≤ x.t ∧ (xs ≠ [] → s < x.t) ∧ Chain x.t xs
theorem chain_ge : ∀ {xs : List Sg} {s : Int}, Chain s xs → ∀ y ∈ xs, s ≤ y.f
  | [], _, _, y, hy => by cases hy
  | x :: xs, s, h, y, hy => by
    obtain ⟨h1, h2, h3, h4⟩ := h
    rcases List.mem_cons.1 hy with rfl | hy
    · omega
    · have := chain_ge h4 y hy
      omega
theorem row_fits {fr hrs : Int} {p : Int → Bool} {all : List Sg} (hh : 1 ≤ hrs) : ∀ (xs pre : List Sg) (s b : Int), pre ++ xs = all → Chain s xs → (∀ y ∈ pre, y.t ≤ s) → fr ≤ b → (∀ t, b ≤ t → t < s → HourP p all t) → (∀ m, FitsR fr hrs p all m → b ≤ m - hrs) → s - b < hrs → (s ≤ fr → b = fr) →
    match rowR fr hrs p b xs with
    | some n => FitsR fr hrs p all n ∧ ∀ m, FitsR fr hrs p all m → n ≤ m
    | none => ∀ m, ¬ FitsR fr hrs p all m := by
  intro xs
  induction xs with
  | nil =>
    intro pre s b hall _ hpre _ _ h3 h4 _
    simp only [rowR]
    intro m hm
    have h5 := h3 m hm
    obtain ⟨y, hy, _, hy2, _⟩ := hm.2 (m - 1) (by omega) (by omega)
    rw [← hall, List.append_nil] at hy
    have := hpre y hy
    omega
  | cons x xs ih =>
    intro pre s b hall hch hpre h1 h2 h3 h4 h5
    obtain ⟨c1, c2, c3, c4⟩ := hch
    have hall' : (pre ++ [x]) ++ xs = all := by rw [List.append_assoc]; exact hall
    have hpre' : ∀ y ∈ pre ++ [x], y.t ≤ x.t := fun y hy => by
      rcases List.mem_append.1 hy with h | h
      · have := hpre y h; omega
      · rw [List.mem_singleton.1 h]; exact Int.le_refl _
    have hx : x ∈ all := by rw [← hall]; simp
    rw [rowR]
    by_cases e1 : x.t ≤ fr
    · rw [if_pos e1]
      have hb := h5 (by omega)
      exact ih (pre ++ [x]) x.t b hall' c4 hpre' h1 (fun t ht1 ht2 => by omega) h3 (by omega) (fun _ => hb)
    · rw [if_neg e1]
      cases hp : p x.c with
      | true =>
        rw [if_pos rfl]
        have hc : ∀ t, b ≤ t → t < x.t → HourP p all t := fun t ht1 ht2 => by
          by_cases e : t < s
          · exact h2 t ht1 e
          · exact ⟨x, hx, by omega, ht2, hp⟩
        by_cases e2 : hrs ≤ x.t - b
        · rw [if_pos e2]
          refine ⟨⟨by omega, fun t ht1 ht2 => hc t (by omega) (by omega)⟩, fun m hm => ?_⟩
          have := h3 m hm
          omega
        · rw [if_neg e2]
          exact ih (pre ++ [x]) x.t b hall' c4 hpre' h1 hc h3 (by omega) (fun h => by omega)
      | false =>
        rw [if_neg (by decide)]
        refine ih (pre ++ [x]) x.t x.t hall' c4 hpre' (by omega) (fun t ht1 ht2 => by omega) (fun m hm => ?_) (by omega) (fun h => by omega)
        have g1 := h3 m hm
        have hone : ∀ t, s ≤ t → t < x.t → ¬ HourP p all t := by
          rintro t ht1 ht2 ⟨y, hy, y1, y2, y3⟩
          rw [← hall] at hy
          rcases List.mem_append.1 hy with h | h
          · have := hpre y h; omega
          · rcases List.mem_cons.1 h with rfl | h
            · rw [hp] at y3; cases y3
            · have := chain_ge c4 y h; omega
        by_cases e3 : x.t ≤ m - hrs
        · exact e3
        · exfalso
          by_cases e4 : s ≤ m - hrs
          · exact hone (m - hrs) e4 (by omega) (hm.2 _ (by omega) (by omega))
          · by_cases e5 : s < x.t
            · exact hone s (by omega) e5 (hm.2 s (by omega) (by omega))
            · have e6 : xs = [] := by
                cases xs with
                | nil => rfl
                | cons y ys => exact absurd (c3 (by simp)) e5
              subst e6
              obtain ⟨y, hy, _, y2, _⟩ := hm.2 (m - 1) (by omega) (by omega)
              rw [← hall'] at hy
              rw [List.append_nil] at hy
              have := hpre' y hy
              omega
/-- The least end of so many hours in a row. -/
theorem row_least {fr hrs : Int} {p : Int → Bool} {xs : List Sg} {s : Int} (hh : 1 ≤ hrs) (hc : Chain s xs) (hs : s ≤ fr) :
    (∀ n, rowR fr hrs p fr xs = some n → FitsR fr hrs p xs n ∧ ∀ m, FitsR fr hrs p xs m → n ≤ m) ∧ (rowR fr hrs p fr xs = none → ∀ m, ¬ FitsR fr hrs p xs m) := by
  have h := row_fits (fr := fr) (p := p) (all := xs) hh xs [] s fr rfl hc (fun y hy => by cases hy) (Int.le_refl _) (fun t h1 h2 => by omega) (fun m hm => by have := hm.1; omega) (by omega) (fun _ => rfl)
  constructor
  · intro n hn; rw [hn] at h; exact h
  · intro hn; rw [hn] at h; exact h
/-- Where more hours serve, and one may begin earlier, the end is no later. -/
theorem row_mono {fr fr' hrs : Int} {p p' : Int → Bool} {xs ys : List Sg} {s s' : Int} (hh : 1 ≤ hrs) (hc : Chain s xs) (hs : s ≤ fr) (hc' : Chain s' ys) (hs' : s' ≤ fr') (hf : fr' ≤ fr) (hp : ∀ t, HourP p xs t → HourP p' ys t) {n : Int} (h : rowR fr hrs p fr xs = some n) :
    ∃ m, rowR fr' hrs p' fr' ys = some m ∧ m ≤ n := by
  have h1 := ((row_least hh hc hs).1 n h).1
  have h2 : FitsR fr' hrs p' ys n := ⟨by have := h1.1; omega, fun t a b => hp t (h1.2 t a b)⟩
  cases hm : rowR fr' hrs p' fr' ys with
  | none => exact absurd h2 ((row_least hh hc' hs').2 hm n)
  | some m => exact ⟨m, rfl, ((row_least hh hc' hs').1 m hm).2 n h2⟩
theorem seq_cons {xs : List Sg} {a : Int} {r : Rw} {rs : List Rw} {n : Int} (h : rowR a r.hours r.p a xs = some n) : seqR xs a (r :: rs) = seqR xs n rs := by
  rw [seqR, h]
theorem seq_none {xs : List Sg} {a : Int} {r : Rw} {rs : List Rw} (h : rowR a r.hours r.p a xs = none) : seqR xs a (r :: rs) = none := by
  rw [seqR, h]
theorem seq_append (xs : List Sg) : ∀ (rs rs2 : List Rw) (a : Int), seqR xs a (rs ++ rs2) = (seqR xs a rs).bind (fun m => seqR xs m rs2) := by
  intro rs
  induction rs with
  | nil => intro rs2 a; rfl
  | cons r rs ih =>
    intro rs2 a
    rw [List.cons_append]
    cases h : rowR a r.hours r.p a xs with
    | none => rw [seq_none h, seq_none h]; rfl
    | some n => rw [seq_cons h, seq_cons h, ih]
theorem seq_same (xs : List Sg) : ∀ {rs rs' : List Rw} (a : Int), rs.map (fun r => (r.hours, r.p)) = rs'.map (fun r => (r.hours, r.p)) → seqR xs a rs = seqR xs a rs' := by
  intro rs
  induction rs with
  | nil =>
    intro rs' a h
    cases rs' with
    | nil => rfl
    | cons r rs' => cases h
  | cons r rs ih =>
    intro rs' a h
    cases rs' with
    | nil => cases h
    | cons r' rs' =>
      rw [List.map_cons, List.map_cons] at h
      injection h with h1 h2
      injection h1 with h3 h4
      cases g : rowR a r.hours r.p a xs with
      | none => rw [seq_none g, seq_none (by rw [← h3, ← h4]; exact g)]
      | some n => rw [seq_cons g, seq_cons (n := n) (by rw [← h3, ← h4]; exact g), ih n h2]
theorem seq_ge {xs : List Sg} {s : Int} (hc : Chain s xs) : ∀ {rs : List Rw} {a n : Int}, (∀ r ∈ rs, 1 ≤ r.hours) → s ≤ a → seqR xs a rs = some n → a ≤ n := by
  intro rs
  induction rs with
  | nil => intro a n _ _ h; cases h; exact Int.le_refl _
  | cons r rs ih =>
    intro a n hr hs h
    have h1 := hr r (by simp)
    cases g : rowR a r.hours r.p a xs with
    | none => rw [seq_none g] at h; cases h
    | some m =>
      rw [seq_cons g] at h
      have h2 := ((row_least h1 hc hs).1 m g).1.1
      have h3 := ih (fun q hq => hr q (by simp [hq])) (by omega) h
      omega
/-- Row by row: where more hours serve, and one may begin earlier, all ends no later. -/
inductive Eases (xs ys : List Sg) : List Rw → List Rw → Prop
  | nil : Eases xs ys [] []
  | cons {r r' : Rw} {rs rs' : List Rw} : 1 ≤ r.hours → r.hours = r'.hours → (∀ t, HourP r.p xs t → HourP r'.p ys t) → Eases xs ys rs rs' → Eases xs ys (r :: rs) (r' :: rs')
theorem seq_mono {xs ys : List Sg} {s s' : Int} (hc : Chain s xs) (hc' : Chain s' ys) : ∀ {rs rs' : List Rw}, Eases xs ys rs rs' → ∀ {a a' n : Int}, s ≤ a → s' ≤ a' → a' ≤ a → seqR xs a rs = some n → ∃ m, seqR ys a' rs' = some m ∧ m ≤ n := by
  intro rs rs' h
  induction h with
  | nil => intro a a' n _ _ h3 h; cases h; exact ⟨a', rfl, h3⟩
  | @cons r r' rs rs' h1 h2 h3 _ ih =>
    intro a a' n hs hs' ha h
    cases g : rowR a r.hours r.p a xs with
    | none => rw [seq_none g] at h; cases h
    | some k =>
      rw [seq_cons g] at h
      obtain ⟨k', g1, g2⟩ := row_mono h1 hc hs hc' hs' ha h3 g
      have h4 := ((row_least h1 hc hs).1 k g).1.1
      rw [h2] at g1
      have h5 := ((row_least (by omega) hc' hs').1 k' g1).1.1
      obtain ⟨m, g3, g4⟩ := ih (show s ≤ k by omega) (show s' ≤ k' by omega) g2 h
      exact ⟨m, by rw [seq_cons g1]; exact g3, g4⟩
theorem chain_up {l : List Rd} {e : Int} (h : Good l e) : ∀ (m k : Nat), k + m = l.length → Chain (if k < l.length then (sgAt l e k).f else e) ((List.range' k m).map (sgAt l e)) := by
  intro m
  induction m with
  | zero => intro k _; simp [Chain]
  | succ m ih =>
    intro k hk
    have hlt : k < l.length := by omega
    have hb := (h.sg hlt).1
    rw [List.range'_succ, List.map_cons, if_pos hlt]
    refine ⟨rfl, hb.2.1, fun hne => ?_, ?_⟩
    · have hn : k + 1 < l.length := by
        cases m with
        | zero => exact absurd rfl hne
        | succ m => omega
      have hx : l[k]? = some l[k] := List.getElem?_eq_getElem hlt
      have hy : l[k + 1]? = some l[k + 1] := List.getElem?_eq_getElem hn
      rw [← sg_next hn, sgAt_at hx, sgAt_at hy]
      exact read_asc h.read hx hy
    · have := ih (k + 1) (by omega)
      by_cases hn : k + 1 < l.length
      · rw [if_pos hn, sg_next hn] at this
        exact this
      · rw [if_neg hn] at this
        rw [sg_last (by omega)]
        exact this
theorem chain_strs {l : List Rd} {e : Int} (h : Good l e) : Chain (firstH l) (strs l e l.length) := by
  have := chain_up h l.length 0 (by omega)
  rw [if_pos (by have := h.len; omega)] at this
  unfold strs
  rw [List.range_eq_range']
  exact this
theorem hour_strs {p : Int → Bool} {l : List Rd} {e : Int} {n : Nat} {t : Int} : HourP p (strs l e n) t ↔ ∃ i, i < n ∧ (sgAt l e i).f ≤ t ∧ t < (sgAt l e i).t ∧ p (sgAt l e i).c = true := by
  unfold HourP strs
  constructor
  · rintro ⟨x, hx, h⟩
    obtain ⟨i, hi, rfl⟩ := List.mem_map.1 hx
    exact ⟨i, List.mem_range.1 hi, h⟩
  · rintro ⟨i, hi, h⟩
    exact ⟨_, List.mem_map.2 ⟨i, List.mem_range.2 hi, rfl⟩, h⟩
/-- A later end: the same hours, and more. -/
theorem hour_later {p : Int → Bool} {l : List Rd} {e e' : Int} (h : e ≤ e') {n : Nat} {t : Int} (g : HourP p (strs l e n) t) : HourP p (strs l e' n) t := by
  obtain ⟨i, hi, h1, h2, h3⟩ := hour_strs.1 g
  refine hour_strs.2 ⟨i, hi, h1, ?_, h3⟩
  refine Int.lt_of_lt_of_le h2 ?_
  show tillL l e i ≤ tillL l e' i
  unfold tillL
  split
  · exact Int.le_refl _
  · exact h
/-- The same hours, colder. -/
def Cooler (l l' : List Rd) : Prop := l'.length = l.length ∧ ∀ (i : Nat) (x y : Rd), l[i]? = some x → l'[i]? = some y → y.h = x.h ∧ y.t ≤ x.t
theorem cool_sg {l l' : List Rd} (h : Cooler l l') {e : Int} {i : Nat} (hi : i < l.length) : (sgAt l' e i).f = (sgAt l e i).f ∧ (sgAt l' e i).t = (sgAt l e i).t ∧ (sgAt l' e i).c ≤ (sgAt l e i).c := by
  have hi' : i < l'.length := by rw [h.1]; exact hi
  have hx : l[i]? = some l[i] := List.getElem?_eq_getElem hi
  have hx' : l'[i]? = some l'[i] := List.getElem?_eq_getElem hi'
  obtain ⟨h1, h2⟩ := h.2 i _ _ hx hx'
  rw [sgAt_at hx, sgAt_at hx']
  refine ⟨h1, ?_, h2⟩
  show tillL l' e i = tillL l e i
  unfold tillL
  by_cases hn : i + 1 < l.length
  · have hn' : i + 1 < l'.length := by rw [h.1]; exact hn
    have hy : l[i + 1]? = some l[i + 1] := List.getElem?_eq_getElem hn
    have hy' : l'[i + 1]? = some l'[i + 1] := List.getElem?_eq_getElem hn'
    rw [hy, hy']
    exact (h.2 (i + 1) _ _ hy hy').1
  · have hL := h.1
    rw [List.getElem?_eq_none (show l'.length ≤ i + 1 by omega), List.getElem?_eq_none (show l.length ≤ i + 1 by omega)]
theorem hour_cooler {a : Int} {l l' : List Rd} (h : Cooler l l') {e t : Int} (g : HourP (fun x => decide (x ≤ a)) (strs l e l.length) t) : HourP (fun x => decide (x ≤ a)) (strs l' e l'.length) t := by
  obtain ⟨i, hi, h1, h2, h3⟩ := hour_strs.1 g
  obtain ⟨g1, g2, g3⟩ := cool_sg h (e := e) hi
  refine hour_strs.2 ⟨i, by rw [h.1]; exact hi, by omega, by omega, ?_⟩
  simp only [decide_eq_true_eq] at h3 ⊢
  omega

/-! ### The rows of a rule -/
def chP (a b : Int) : Rw := ⟨b, 0, 0, fun x => decide (x ≤ a)⟩
def thP (d g : Int) : Rw := ⟨d, 0, 0, fun x => decide (g < x)⟩
def thL (d g : Int) : List Rw := if d = 0 then [] else [thP d g]
def killL (a b d g : Int) : Nat → List Rw
  | 0 => [chP a b]
  | k + 1 => killL a b d g k ++ (thL d g ++ [chP a b])
theorem thL_hours {d g : Int} (h : 0 ≤ d) : ∀ r ∈ thL d g, 1 ≤ r.hours := by
  intro r hr
  unfold thL at hr
  split at hr
  · cases hr
  · rw [List.mem_singleton.1 hr]; show 1 ≤ d; omega
theorem killL_hours {a b d g : Int} (hb : 1 ≤ b) (hd : 0 ≤ d) : ∀ k, ∀ r ∈ killL a b d g k, 1 ≤ r.hours := by
  intro k
  induction k with
  | zero => intro r hr; rw [List.mem_singleton.1 hr]; exact hb
  | succ k ih =>
    intro r hr
    rcases List.mem_append.1 hr with h | h
    · exact ih r h
    · rcases List.mem_append.1 h with h | h
      · exact thL_hours hd r h
      · rw [List.mem_singleton.1 h]; exact hb
theorem eases_refl {xs ys : List Sg} (rs : List Rw) (h : ∀ r ∈ rs, 1 ≤ r.hours) (g : ∀ r ∈ rs, ∀ t, HourP r.p xs t → HourP r.p ys t) : Eases xs ys rs rs := by
  induction rs with
  | nil => exact .nil
  | cons r rs ih => exact .cons (h r (by simp)) rfl (g r (by simp)) (ih (fun q hq => h q (by simp [hq])) (fun q hq => g q (by simp [hq])))
theorem killL_cold {a b g : Int} : ∀ k, ∀ r ∈ killL a b 0 g k, r = chP a b := by
  intro k
  induction k with
  | zero => intro r hr; exact List.mem_singleton.1 hr
  | succ k ih =>
    intro r hr
    rcases List.mem_append.1 hr with h | h
    · exact ih r h
    · exact List.mem_singleton.1 h
/-- A later end kills no later. -/
theorem kill_later {l : List Rd} {e e' a b d g : Int} (h : Good l e) (h' : Good l e') (he : e ≤ e') (hb : 1 ≤ b) (hd : 0 ≤ d) {k : Nat} {n : Int} (hn : seqR (strs l e l.length) (firstH l) (killL a b d g k) = some n) :
    ∃ m, seqR (strs l e' l.length) (firstH l) (killL a b d g k) = some m ∧ m ≤ n :=
  seq_mono (chain_strs h) (chain_strs h') (eases_refl _ (killL_hours hb hd k) fun _ _ _ => hour_later he) (Int.le_refl _) (Int.le_refl _) (Int.le_refl _) hn
/-- Colder readings kill no later, if no thaw is asked for. -/
theorem kill_cooler {l l' : List Rd} {e a b g : Int} (h : Good l e) (h' : Good l' e) (hc : Cooler l l') (hb : 1 ≤ b) {k : Nat} {n : Int} (hn : seqR (strs l e l.length) (firstH l) (killL a b 0 g k) = some n) :
    ∃ m, seqR (strs l' e l'.length) (firstH l') (killL a b 0 g k) = some m ∧ m ≤ n := by
  have hf : firstH l' = firstH l := by
    have := (cool_sg hc (e := e) (i := 0) (by have := h.len; omega)).1
    exact this
  rw [hf]
  have hch := chain_strs h'
  rw [hf] at hch
  exact seq_mono (chain_strs h) hch (eases_refl _ (killL_hours hb (Int.le_refl _) k) fun r hr t ht => by rw [killL_cold k r hr] at ht ⊢; exact hour_cooler hc ht) (Int.le_refl _) (Int.le_refl _) (Int.le_refl _) hn
/-- With one of the times less it is not later. -/
theorem kill_less {l : List Rd} {e a b d g : Int} (h : Good l e) (hb : 1 ≤ b) (hd : 0 ≤ d) {k : Nat} {n : Int} (hn : seqR (strs l e l.length) (firstH l) (killL a b d g (k + 1)) = some n) :
    ∃ m, seqR (strs l e l.length) (firstH l) (killL a b d g k) = some m ∧ m ≤ n := by
  rw [killL, seq_append] at hn
  cases hm : seqR (strs l e l.length) (firstH l) (killL a b d g k) with
  | none => rw [hm] at hn; cases hn
  | some m =>
    rw [hm] at hn
    have h1 := seq_ge (chain_strs h) (killL_hours hb hd k) (Int.le_refl _) hm
    refine ⟨m, rfl, seq_ge (chain_strs h) (fun r hr => ?_) h1 hn⟩
    rcases List.mem_append.1 hr with h | h
    · exact thL_hours hd r h
    · rw [List.mem_singleton.1 h]; exact hb
/-- The last hours are cold. -/
theorem kill_cold {l : List Rd} {e a b d g : Int} (h : Good l e) (hb : 1 ≤ b) (hd : 0 ≤ d) {k : Nat} {n : Int} (hn : seqR (strs l e l.length) (firstH l) (killL a b d g k) = some n) :
    HourP (fun x => decide (x ≤ a)) (strs l e l.length) (n - 1) := by
  have last : ∀ m, firstH l ≤ m → seqR (strs l e l.length) m [chP a b] = some n → HourP (fun x => decide (x ≤ a)) (strs l e l.length) (n - 1) := by
    intro m hm h1
    cases g1 : rowR m b (chP a b).p m (strs l e l.length) with
    | none => rw [seq_none (by exact g1)] at h1; cases h1
    | some q =>
      rw [seq_cons (n := q) (by exact g1)] at h1
      cases h1
      exact (((row_least hb (chain_strs h) hm).1 _ g1).1).2 (n - 1) (by omega) (by omega)
  cases k with
  | zero => exact last _ (Int.le_refl _) hn
  | succ k =>
    rw [killL, seq_append] at hn
    cases hm : seqR (strs l e l.length) (firstH l) (killL a b d g k) with
    | none => rw [hm] at hn; cases hn
    | some m =>
      rw [hm] at hn
      have h1 := seq_ge (chain_strs h) (killL_hours hb hd k) (Int.le_refl _) hm
      rw [Option.bind_some, seq_append] at hn
      cases hq : seqR (strs l e l.length) m (thL d g) with
      | none => rw [hq] at hn; cases hn
      | some q =>
        rw [hq] at hn
        have h2 := seq_ge (chain_strs h) (thL_hours hd) h1 hq
        exact last q (by omega) hn
end Go.Proofs.YteidabpflfkdcaaDoor.Cd
