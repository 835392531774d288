/-
  Rows of hours, one after the other: the program's single walk ends where the reference's walks, each begun anew, end.
-/
import Derived.Test.YteidabpflfkdcaaDoorCdRows
import Derived.Test.YteidabpflfkdcaaDoorCdAt
namespace Go.Proofs.YteidabpflfkdcaaDoor.Cd
open Go Go.RowKit Go.Sort

/-- The least end of so many hours in a row, from an hour on, if there is one. -/
def rowR (fr hrs : Int) (p : Int → Bool) : Int → List Sg → Option Int
  | _, [] => none
  | b, x :: xs => if x.t ≤ fr then rowR fr hrs p b xs else if p x.c then (if hrs ≤ x.t - b then some (b + hrs) else rowR fr hrs p b xs) else rowR fr hrs p x.t xs
/-- Rows, each begun at the end of the one before. -/
def seqR (xs : List Sg) : Int → List Rw → Option Int
  | a, [] => some a
  | a, r :: rs =>
    match rowR a r.hours r.p a xs with
    | none => none
    | some n => seqR xs n rs
def Asc (xs : List Sg) : Prop := xs.Pairwise (fun x y => x.t ≤ y.t)
theorem row_early {fr hrs b : Int} {p : Int → Bool} {x : Sg} {xs : List Sg} (h : x.t ≤ fr) : rowR fr hrs p b (x :: xs) = rowR fr hrs p b xs := by
  rw [rowR, if_pos h]
theorem row_end {fr hrs b : Int} {p : Int → Bool} {x : Sg} {xs : List Sg} (h : ¬ x.t ≤ fr) (g : p x.c = true) (k : hrs ≤ x.t - b) : rowR fr hrs p b (x :: xs) = some (b + hrs) := by
  rw [rowR, if_neg h, g, if_pos rfl, if_pos k]
theorem row_short {fr hrs b : Int} {p : Int → Bool} {x : Sg} {xs : List Sg} (h : ¬ x.t ≤ fr) (g : p x.c = true) (k : ¬ hrs ≤ x.t - b) : rowR fr hrs p b (x :: xs) = rowR fr hrs p b xs := by
  rw [rowR, if_neg h, g, if_pos rfl, if_neg k]
theorem row_no {fr hrs b : Int} {p : Int → Bool} {x : Sg} {xs : List Sg} (h : ¬ x.t ≤ fr) (g : p x.c = false) : rowR fr hrs p b (x :: xs) = rowR fr hrs p x.t xs := by
  rw [rowR, if_neg h, g, if_neg (by decide)]
theorem eat_skip {t c n : Int} {rs : List Rw} (h : ∀ r ∈ rs, 1 ≤ r.hours) (g : t ≤ n) : eat t c n rs = (n, rs) := by
  cases rs with
  | nil => rfl
  | cons r rs =>
    have := h r (by simp)
    cases hp : r.p c with
    | false => rw [eat_no hp, Int.max_eq_left g]
    | true => rw [eat_short hp (by omega)]
theorem runP_cons (b : Int) (rs : List Rw) (x : Sg) (xs : List Sg) : runP b rs (x :: xs) = runP (eat x.t x.c b rs).1 (eat x.t x.c b rs).2 xs := rfl
theorem row_ge {fr hrs n : Int} {p : Int → Bool} : ∀ {xs : List Sg} {b : Int}, (b = fr ∨ (fr < b ∧ ∀ x ∈ xs, b ≤ x.t)) → Asc xs → rowR fr hrs p b xs = some n → b + hrs ≤ n ∧ ∃ x ∈ xs, n ≤ x.t := by
  intro xs
  induction xs with
  | nil => intro b _ _ h; cases h
  | cons x xs ih =>
    intro b hb ha h
    obtain ⟨ha1, ha2⟩ := List.pairwise_cons.1 ha
    have hb' : b = fr ∨ (fr < b ∧ ∀ x ∈ xs, b ≤ x.t) := by
      rcases hb with e | ⟨e, g⟩
      · exact .inl e
      · exact .inr ⟨e, fun y hy => g y (by simp [hy])⟩
    by_cases h1 : x.t ≤ fr
    · rw [row_early h1] at h
      obtain ⟨k1, y, k2, k3⟩ := ih hb' ha2 h
      exact ⟨k1, y, by simp [k2], k3⟩
    · cases hp : p x.c with
      | false =>
        rw [row_no h1 hp] at h
        obtain ⟨k1, y, k2, k3⟩ := ih (.inr ⟨by omega, ha1⟩) ha2 h
        refine ⟨?_, y, by simp [k2], k3⟩
        rcases hb with e | ⟨e, g⟩
        · omega
        · have := g x (by simp); omega
      | true =>
        by_cases h2 : hrs ≤ x.t - b
        · rw [row_end h1 hp h2] at h
          cases h
          exact ⟨Int.le_refl _, x, by simp, by omega⟩
        · rw [row_short h1 hp h2] at h
          obtain ⟨k1, y, k2, k3⟩ := ih hb' ha2 h
          exact ⟨k1, y, by simp [k2], k3⟩
/-- Where the first row ends the others begin, as if the walk began anew. -/
theorem run_first {fr n : Int} {r : Rw} {rs : List Rw} (hr : 1 ≤ r.hours) (hrs : ∀ q ∈ rs, 1 ≤ q.hours) : ∀ {xs : List Sg} {b : Int}, (b = fr ∨ (fr < b ∧ ∀ x ∈ xs, b ≤ x.t)) → Asc xs → rowR fr r.hours r.p b xs = some n → runP b (r :: rs) xs = runP n rs xs := by
  intro xs
  induction xs with
  | nil => intro b _ _ h; cases h
  | cons x xs ih =>
    intro b hb ha h
    obtain ⟨ha1, ha2⟩ := List.pairwise_cons.1 ha
    have hb' : b = fr ∨ (fr < b ∧ ∀ x ∈ xs, b ≤ x.t) := by
      rcases hb with e | ⟨e, g⟩
      · exact .inl e
      · exact .inr ⟨e, fun y hy => g y (by simp [hy])⟩
    have hge := row_ge hb ha h
    by_cases h1 : x.t ≤ fr
    · rw [row_early h1] at h
      have hbf : b = fr := by
        rcases hb with e | ⟨e, g⟩
        · exact e
        · have := g x (by simp); omega
      rw [runP_cons, runP_cons, eat_skip (n := n) hrs (by omega), eat_skip (n := b) (rs := r :: rs) (fun q hq => by rcases List.mem_cons.1 hq with rfl | hq; exact hr; exact hrs q hq) (by omega)]
      exact ih hb' ha2 h
    · cases hp : r.p x.c with
      | false =>
        rw [row_no h1 hp] at h
        have hge2 := row_ge (.inr ⟨by omega, ha1⟩) ha2 h
        have hm : max b x.t = x.t := Int.max_eq_right (by
          rcases hb with e | ⟨e, g⟩
          · omega
          · exact g x (by simp))
        rw [runP_cons, runP_cons, eat_skip (n := n) hrs (by omega), eat_no hp, hm]
        exact ih (.inr ⟨by omega, ha1⟩) ha2 h
      | true =>
        by_cases h2 : r.hours ≤ x.t - b
        · rw [row_end h1 hp h2] at h
          cases h
          rw [runP_cons, runP_cons, eat_on hp (by omega)]
        · rw [row_short h1 hp h2] at h
          rw [runP_cons, runP_cons, eat_skip (n := n) hrs (by omega), eat_short hp (by omega)]
          exact ih hb' ha2 h
theorem run_none {fr : Int} {r : Rw} {rs : List Rw} (hr : 1 ≤ r.hours) : ∀ {xs : List Sg} {b : Int}, (b = fr ∨ (fr < b ∧ ∀ x ∈ xs, b ≤ x.t)) → Asc xs → rowR fr r.hours r.p b xs = none → (runP b (r :: rs) xs).2 = r :: rs := by
  intro xs
  induction xs with
  | nil => intro b _ _ _; rfl
  | cons x xs ih =>
    intro b hb ha h
    obtain ⟨ha1, ha2⟩ := List.pairwise_cons.1 ha
    have hb' : b = fr ∨ (fr < b ∧ ∀ x ∈ xs, b ≤ x.t) := by
      rcases hb with e | ⟨e, g⟩
      · exact .inl e
      · exact .inr ⟨e, fun y hy => g y (by simp [hy])⟩
    have hm : fr ≤ b := by rcases hb with e | ⟨e, -⟩ <;> omega
    by_cases h1 : x.t ≤ fr
    · rw [row_early h1] at h
      have hbf : b = fr := by
        rcases hb with e | ⟨e, g⟩
        · exact e
        · have := g x (by simp); omega
      rw [runP_cons]
      cases hp : r.p x.c with
      | false => rw [eat_no hp, Int.max_eq_left (by omega)]; exact ih hb' ha2 h
      | true => rw [eat_short hp (by omega)]; exact ih hb' ha2 h
    · cases hp : r.p x.c with
      | false =>
        rw [row_no h1 hp] at h
        have hm : max b x.t = x.t := Int.max_eq_right (by
          rcases hb with e | ⟨e, g⟩
          · omega
          · exact g x (by simp))
        rw [runP_cons, eat_no hp, hm]
        exact ih (.inr ⟨by omega, ha1⟩) ha2 h
      | true =>
        by_cases h2 : r.hours ≤ x.t - b
        · rw [row_end h1 hp h2] at h; cases h
        · rw [row_short h1 hp h2] at h
          rw [runP_cons, eat_short hp (by omega)]
          exact ih hb' ha2 h
theorem run_seq {xs : List Sg} (ha : Asc xs) : ∀ {rs : List Rw} {a : Int}, (∀ r ∈ rs, 1 ≤ r.hours) → (∀ n, seqR xs a rs = some n → runP a rs xs = (n, [])) ∧ (seqR xs a rs = none → (runP a rs xs).2 ≠ []) := by
  intro rs
  induction rs with
  | nil =>
    intro a _
    refine ⟨fun n h => ?_, fun h => (by cases h)⟩
    cases h
    exact runP_nil a xs
  | cons r rs ih =>
    intro a hr
    have h1 := hr r (by simp)
    have h2 : ∀ q ∈ rs, 1 ≤ q.hours := fun q hq => hr q (by simp [hq])
    unfold seqR
    cases h : rowR a r.hours r.p a xs with
    | none => exact ⟨fun n h => (by cases h), fun _ => (by rw [run_none h1 (.inl rfl) ha h]; simp)⟩
    | some n =>
      rw [run_first h1 h2 (.inl rfl) ha h]
      exact ih h2
/-- What is answered: the end of the last row, or that there is none. -/
def endE (xs : List Sg) (a : Int) (rs : List Rw) : Int := if (seqR xs a rs).isSome then 0 else 8
def endV (xs : List Sg) (a : Int) (rs : List Rw) : Int := (seqR xs a rs).getD 0
theorem end_done {xs : List Sg} (ha : Asc xs) {rs : List Rw} {a : Int} (hr : ∀ r ∈ rs, 1 ≤ r.hours) (h : (runP a rs xs).2 = []) : endE xs a rs = 0 ∧ endV xs a rs = (runP a rs xs).1 := by
  obtain ⟨h1, h2⟩ := run_seq ha hr (a := a)
  unfold endE endV
  cases hs : seqR xs a rs with
  | none => exact absurd h (h2 hs)
  | some n => rw [h1 n hs]; exact ⟨rfl, rfl⟩
theorem end_open {xs : List Sg} (ha : Asc xs) {rs : List Rw} {a : Int} (hr : ∀ r ∈ rs, 1 ≤ r.hours) (h : (runP a rs xs).2 ≠ []) : endE xs a rs = 8 ∧ endV xs a rs = 0 := by
  obtain ⟨h1, h2⟩ := run_seq ha hr (a := a)
  unfold endE endV
  cases hs : seqR xs a rs with
  | none => exact ⟨rfl, rfl⟩
  | some n => exact absurd (by rw [h1 n hs]) h
theorem strs_asc {l : List Rd} {e : Int} (h : Good l e) : Asc (strs l e l.length) := by
  unfold Asc strs
  rw [List.pairwise_map]
  refine List.Pairwise.imp_of_mem ?_ (List.pairwise_lt_range (n := l.length))
  intro i j hi hj hij
  rw [List.mem_range] at hi hj
  have h1 := sg_mono h (show i + 1 ≤ j by omega) hj
  rw [sg_next (by omega)] at h1
  have := (h.sg hj).1.2.1
  omega
end Go.Proofs.YteidabpflfkdcaaDoor.Cd
