/-
  Killed, by the program, at every rule; where its chills and thaws end, one after the other.
-/
import Derived.Test.YteidabpflfkdcaaDoorCdKilled
import Derived.Test.YteidabpflfkdcaaDoorCdRAt
namespace Go.Proofs.YteidabpflfkdcaaDoor.Cd
open Go Go.RowKit Go.Sort

def kilL (a b c d g : Int) : List Rw := killL a b d g (c.toNat - 1)
def kilE (a b c d g : Int) (l : List Rd) (e : Int) : Int := if ckE a b c d g l e [] = 0 then endE (strs l e l.length) (firstH l) (kilL a b c d g) else ckE a b c d g l e []
def kilV (a b c d g : Int) (l : List Rd) (e : Int) : Int := if ckE a b c d g l e [] = 0 then endV (strs l e l.length) (firstH l) (kilL a b c d g) else 0
theorem Killed_any (a b c d g : Int) (v : Value) (l : List Rd) (e : Int) (w : World) (hs : RS w v l) :
    Calls Tryd.prog 13 #[.agg #[.int .i64 a, .int .i64 b, .int .i64 c, .int .i64 d, .int .i64 g], v, .int .i64 e] w fun en w' => en = .returned (.tuple #[.int .i64 (kilV a b c d g l e), .int .i64 (kilE a b c d g l e)]) ∧ Below w.heap.size w w' := by
  by_cases h : ckE a b c d g l e [] = 0
  · have hc := (rule_iff.1 (ck_good h).1).2.2.2.2.1
    obtain ⟨n, hn⟩ : ∃ n : Nat, c = (n : Int) + 1 := ⟨c.toNat - 1, by omega⟩
    have e0 : kilL a b c d g = killL a b d g n := by unfold kilL; rw [hn]; congr 1
    have e1 : kilV a b c d g l e = endV (strs l e l.length) (firstH l) (killL a b d g n) := by unfold kilV; rw [if_pos h, e0]
    have e2 : kilE a b c d g l e = endE (strs l e l.length) (firstH l) (killL a b d g n) := by unfold kilE; rw [if_pos h, e0]
    rw [e1, e2]
    subst hn
    exact Killed_in a b d g n v l e w hs h
  · have e1 : kilV a b c d g l e = 0 := by unfold kilV; rw [if_neg h]
    have e2 : kilE a b c d g l e = ckE a b c d g l e [] := by unfold kilE; rw [if_neg h]
    rw [e1, e2]
    exact Killed_bad a b c d g v l e _ w hs rfl (by rw [bne_iff_ne]; exact h)
theorem end_some {xs : List Sg} {a n : Int} {rs : List Rw} (h : seqR xs a rs = some n) : endV xs a rs = n ∧ endE xs a rs = 0 := by unfold endV endE; rw [h]; exact ⟨rfl, rfl⟩
theorem end_none {xs : List Sg} {a : Int} {rs : List Rw} (h : seqR xs a rs = none) : endV xs a rs = 0 ∧ endE xs a rs = 8 := by unfold endV endE; rw [h]; exact ⟨rfl, rfl⟩
theorem end_zero {xs : List Sg} {a : Int} {rs : List Rw} (h : endE xs a rs = 0) : seqR xs a rs = some (endV xs a rs) := by
  cases hs : seqR xs a rs with
  | none => rw [(end_none hs).2] at h; cases h
  | some n => rw [(end_some hs).1]
/-- What is known where pests are killed. -/
theorem kil_good {a b c d g : Int} {l : List Rd} {e : Int} (h : kilE a b c d g l e = 0) : ruleB a b c d g = true ∧ Good l e ∧ seqR (strs l e l.length) (firstH l) (kilL a b c d g) = some (kilV a b c d g l e) := by
  unfold kilE at h
  by_cases h0 : ckE a b c d g l e [] = 0
  · rw [if_pos h0] at h
    obtain ⟨h1, h2, -⟩ := ck_good h0
    refine ⟨h1, h2, ?_⟩
    unfold kilV
    rw [if_pos h0]
    exact end_zero h
  · rw [if_neg h0] at h
    exact absurd h h0
theorem kil_of {a b c d g : Int} {l : List Rd} {e n : Int} (h1 : ruleB a b c d g = true) (h2 : Good l e) (h : seqR (strs l e l.length) (firstH l) (kilL a b c d g) = some n) : kilE a b c d g l e = 0 ∧ kilV a b c d g l e = n := by
  have h0 : ckE a b c d g l e [] = 0 := ck_zero h1 h2 rfl
  unfold kilE kilV
  rw [if_pos h0, if_pos h0]
  exact ⟨(end_some h).2, (end_some h).1⟩
theorem one_of {a b c d g : Int} {l : List Rd} {e fr n : Int} {rs : List Rw} (h1 : ruleB a b c d g = true) (h2 : Good l e) (h3 : firstH l ≤ fr ∧ fr ≤ e) (h : seqR (strs l e l.length) fr rs = some n) : oneV a b c d g l e fr rs = n ∧ oneE a b c d g l e fr rs = 0 := by
  have h0 : ckE a b c d g l e [fr] = 0 := ck_zero h1 h2 (by rw [allB1, in_iff]; exact h3)
  unfold oneE oneV
  rw [if_pos h0, if_pos h0]
  exact end_some h
theorem seq_le {xs : List Sg} {e : Int} (ha : Asc xs) (he : ∀ x ∈ xs, x.t ≤ e) : ∀ {rs : List Rw} {a n : Int}, seqR xs a rs = some n → a ≤ e → n ≤ e := by
  intro rs
  induction rs with
  | nil => intro a n h h1; cases h; exact h1
  | cons r rs ih =>
    intro a n h h1
    cases g : rowR a r.hours r.p a xs with
    | none => rw [seq_none g] at h; cases h
    | some m =>
      rw [seq_cons g] at h
      obtain ⟨-, x, hx, hm⟩ := row_ge (.inl rfl) ha g
      exact ih h (Int.le_trans hm (he x hx))
theorem strs_end {l : List Rd} {e : Int} (h : Good l e) : ∀ x ∈ strs l e l.length, x.t ≤ e := by
  intro x hx
  obtain ⟨i, hi, rfl⟩ := List.mem_map.1 hx
  have hi := List.mem_range.1 hi
  have hl := sg_mono h (show i ≤ l.length - 1 by omega) (by omega)
  by_cases hn : i + 1 < l.length
  · have h1 := sg_mono h (show i + 1 ≤ l.length - 1 by omega) (by omega)
    have h2 := (h.sg (show l.length - 1 < l.length by omega)).1
    have h3 := sg_last (l := l) (e := e) (i := l.length - 1) (by omega)
    rw [sg_next hn] at h1
    omega
  · have := sg_last (l := l) (e := e) (i := i) (by omega)
    omega
theorem first_end {l : List Rd} {e : Int} (h : Good l e) : firstH l ≤ e := by
  have hl := h.len
  exact (h.end_ (List.getElem?_eq_getElem (show 0 < l.length by omega))).1 |> fun hh => by
    have : firstH l = (l[0]).h := by unfold firstH; rw [List.getD_eq_getElem?_getD, List.getElem?_eq_getElem (by omega)]; rfl
    rw [this]; exact hh
theorem kill_some {l : List Rd} {e a b d g : Int} (h : Good l e) (hb : 1 ≤ b) (hd : 0 ≤ d) {k : Nat} : ∀ {n : Nat} {N : Int}, k ≤ n → seqR (strs l e l.length) (firstH l) (killL a b d g n) = some N → ∃ p, seqR (strs l e l.length) (firstH l) (killL a b d g k) = some p ∧ p ≤ N := by
  intro n
  induction n with
  | zero =>
    intro N hk hN
    have hk0 : k = 0 := by omega
    subst hk0
    exact ⟨N, hN, Int.le_refl _⟩
  | succ n ih =>
    intro N hk hN
    by_cases e1 : k = n + 1
    · subst e1; exact ⟨N, hN, Int.le_refl _⟩
    · obtain ⟨m, h1, h2⟩ := kill_less h hb hd hN
      obtain ⟨p, h3, h4⟩ := ih (by omega) h1
      exact ⟨p, h3, by omega⟩
/-- One thaw and one chill more. -/
theorem kill_step {l : List Rd} {e a b d g : Int} (h : Good l e) (hb : 1 ≤ b) (hd : 0 ≤ d) {k n : Nat} {N p : Int} (hk : k < n) (hN : seqR (strs l e l.length) (firstH l) (killL a b d g n) = some N) (hp : seqR (strs l e l.length) (firstH l) (killL a b d g k) = some p) :
    (firstH l ≤ p ∧ p ≤ e) ∧ ∃ q p', seqR (strs l e l.length) p (thL d g) = some q ∧ (firstH l ≤ q ∧ q ≤ e) ∧ seqR (strs l e l.length) q [chP a b] = some p' ∧ seqR (strs l e l.length) (firstH l) (killL a b d g (k + 1)) = some p' := by
  obtain ⟨p', h1, -⟩ := kill_some h hb hd (show k + 1 ≤ n by omega) hN
  have h1' := h1
  have c := chain_strs h
  have a1 := strs_asc h
  have e1 := strs_end h
  have g1 := seq_ge c (killL_hours hb hd k) (Int.le_refl _) hp
  have g2 := seq_le a1 e1 hp (first_end h)
  rw [killL, seq_append, hp, Option.bind_some, seq_append] at h1
  cases hq : seqR (strs l e l.length) p (thL d g) with
  | none => rw [hq] at h1; cases h1
  | some q =>
    rw [hq] at h1
    have g3 := seq_ge c (thL_hours hd) g1 hq
    have g4 := seq_le a1 e1 hq g2
    exact ⟨⟨g1, g2⟩, q, p', rfl, ⟨by omega, g4⟩, h1, h1'⟩
/-- The hour before is cold, and At says so. -/
theorem kill_at {l : List Rd} {e a b d g : Int} (h : Good l e) (hb : 1 ≤ b) (hd : 0 ≤ d) {n : Nat} {N : Int} (hN : seqR (strs l e l.length) (firstH l) (killL a b d g n) = some N) : atE l e (N - 1) = 0 ∧ atV l e (N - 1) ≤ a := by
  obtain ⟨i, hi, h1, h2, h3⟩ := hour_strs.1 (kill_cold h hb hd hN)
  obtain ⟨e1, e2⟩ := at_found h hi h1 h2
  refine ⟨e1, ?_⟩
  rw [e2]
  simpa using h3
/-- The cells of a rule and of a log that were boxed, in every later world. -/
theorem fl_cells {w X : World} {a b c d g e : Int} {s : Value} (h : Below (w.heap.size + 1 + 1) ((w.alloc (.cells #[.int .i64 a, .int .i64 b, .int .i64 c, .int .i64 d, .int .i64 g] 46)).alloc (.cells #[s, .int .i64 e] 49)) X) : X.cell? ⟨w.heap.size, 0, none⟩ = some (.int .i64 a) ∧ X.cell? ⟨w.heap.size, 1, none⟩ = some (.int .i64 b) ∧ X.cell? ⟨w.heap.size, 2, none⟩ = some (.int .i64 c) ∧ X.cell? ⟨w.heap.size, 3, none⟩ = some (.int .i64 d) ∧ X.cell? ⟨w.heap.size, 4, none⟩ = some (.int .i64 g) ∧
    X.cell? ⟨w.heap.size + 1, 0, none⟩ = some s ∧ X.cell? ⟨w.heap.size + 1, 1, none⟩ = some (.int .i64 e) ∧ w.heap.size + 1 < X.heap.size := by
  have hs := h.size
  rw [World.size_alloc, World.size_alloc] at hs
  exact ⟨(h.cell (p := ⟨w.heap.size, 0, none⟩) (by simp <;> omega)).trans (by go_simp), (h.cell (p := ⟨w.heap.size, 1, none⟩) (by simp <;> omega)).trans (by go_simp), (h.cell (p := ⟨w.heap.size, 2, none⟩) (by simp <;> omega)).trans (by go_simp), (h.cell (p := ⟨w.heap.size, 3, none⟩) (by simp <;> omega)).trans (by go_simp), (h.cell (p := ⟨w.heap.size, 4, none⟩) (by simp <;> omega)).trans (by go_simp), (h.cell (p := ⟨w.heap.size + 1, 0, none⟩) (by simp <;> omega)).trans (by go_simp), (h.cell (p := ⟨w.heap.size + 1, 1, none⟩) (by simp <;> omega)).trans (by go_simp), by omega⟩
theorem fl_below {w X : World} {o o' : Obj} (h : Below (w.heap.size + 1 + 1) ((w.alloc o).alloc o') X) : Below w.heap.size w X := (((Below.refl _ w).alloc (Nat.le_refl _) _).alloc (by simp) _).trans (h.mono (by omega))
end Go.Proofs.YteidabpflfkdcaaDoor.Cd
