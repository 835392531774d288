/-
  Readings that are appended to a row of the call's own.
-/
import Derived.Test.YtbbbnfodjkpiaaaCdKillP
namespace Go.Proofs.Ytbbbnfodjkpiaaa.Cd
open Go Go.RowKit Go.Sort

def cellsD : List Rd → List Value
  | [] => []
  | r :: rs => .int .i64 r.h :: .int .i64 r.t :: cellsD rs
theorem cellsD_append (a b : List Rd) : cellsD (a ++ b) = cellsD a ++ cellsD b := by
  induction a with
  | nil => rfl
  | cons q a ih => simp [cellsD, ih]
theorem cellsD_at {l : List Rd} {i : Nat} {s : Rd} (h : l[i]? = some s) : (cellsD l)[i * 2]? = some (.int .i64 s.h) ∧ (cellsD l)[i * 2 + 1]? = some (.int .i64 s.t) := by
  induction l generalizing i with
  | nil => cases h
  | cons q a ih =>
    cases i with
    | zero =>
      simp only [List.getElem?_cons_zero, Option.some.injEq] at h
      subst h
      exact ⟨rfl, rfl⟩
    | succ i =>
      rw [List.getElem?_cons_succ] at h
      have := ih h
      rw [show (i + 1) * 2 = i * 2 + 1 + 1 by omega]
      exact this
theorem cellsD_one (l : List Rd) : ∀ u ∈ cellsD l, u.oneCell' = true := by
  induction l with
  | nil => intro u h; cases h
  | cons q a ih =>
    intro u h
    simp only [cellsD, List.mem_cons] at h
    rcases h with rfl | rfl | h
    · rfl
    · rfl
    · exact ih u h
theorem newsD_one {W : World} {Y : Nat} {r : Rd} (h0 : W.cell? ⟨Y, 0, none⟩ = some (.int .i64 r.h)) (h1 : W.cell? ⟨Y, 1, none⟩ = some (.int .i64 r.t)) :
    ∀ j u, (cellsD [r])[j]? = some u → W.cell? ((⟨Y, 0, none⟩ : Addr).add j) = some u := by
  intro j u hu
  match j with
  | 0 => simp [cellsD] at hu; subst hu; exact h0
  | 1 => simp [cellsD] at hu; subst hu; exact h1
  | j + 2 => simp [cellsD] at hu
/-- A row of readings of the call's own. -/
def OwnD (W : World) (B0 : Nat) (v : Value) (l : List Rd) : Prop := W.ownsRow B0 59 2 v l.length (cellsD l)
theorem OwnD.rs {w : World} {base : Nat} {v : Value} {l : List Rd} (h : OwnD w base v l) : RS w v l := by
  rcases h.2 with ⟨hv, h0⟩ | ⟨g, cap, cur, hv, hgB, hh, hnc, hcm, hcs, htake⟩
  · have hq : l = [] := List.eq_nil_of_length_eq_zero h0
    subst hq
    exact ⟨none, 0, hv, Nat.le_refl _, fun i s hs => by simp at hs⟩
  · refine ⟨some ⟨g, 0, none⟩, cap, hv, hnc, fun i s hs => ?_⟩
    have hi := (List.getElem?_eq_some_iff.1 hs).1
    obtain ⟨h0, h1⟩ := cellsD_at hs
    rw [← htake, List.getElem?_take] at h0 h1
    rw [if_pos (by omega), Array.getElem?_toList] at h0 h1
    refine ⟨g, 0, rfl, (Array.getElem?_eq_some_iff.1 hh).1, ?_, ?_⟩
    · rw [Nat.zero_add]; simp only [World.cell?, hh]; simpa using h0
    · rw [Nat.zero_add]; simp only [World.cell?, hh]; simpa using h1
theorem OwnD.nil (w : World) (B0 : Nat) : OwnD w B0 (.slice none 0 0) [] := ⟨rfl, .inl ⟨rfl, rfl⟩⟩
theorem OwnD.on {w W : World} {B0 : Nat} {v : Value} {l : List Rd} (h : OwnD w B0 v l) (hb : Below w.heap.size w W) : OwnD W B0 v l := h.kept (grown_below hb none) (by cases hv : v.ownBlock <;> simp)
theorem OwnD.more {W : World} {B0 gb cap : Nat} {l : List Rd} {r : Rd} (h : W.ownsRow B0 59 2 (.slice (some ⟨gb, 0, none⟩) (l.length + 1) cap) (l.length + 1) (cellsD l ++ cellsD [r])) : OwnD W B0 (.slice (some ⟨gb, 0, none⟩) (l.length + 1) cap) (l ++ [r]) := by
  unfold OwnD
  rw [List.length_append, cellsD_append]
  exact h
theorem info_read : (Try.prog.info? 59).map (fun i => (i.zero, i.size, i.bytes)) = some (some (.agg #[.int .i64 0, .int .i64 0]), 2, 16) := by kernel_rfl

/-! ### Colder readings -/
def coolT (by_ : Int) (k : Nat) (x : Rd) : Rd := ⟨x.h, x.t - by_ * (1 + (k : Int) % 2)⟩
def coolU (by_ : Int) (l : List Rd) (k : Nat) : List Rd := (List.range k).map fun i => coolT by_ i (l.getD i ⟨0, 0⟩)
theorem coolU_len (by_ : Int) (l : List Rd) (k : Nat) : (coolU by_ l k).length = k := by simp [coolU]
theorem coolU_succ {by_ : Int} {l : List Rd} {k : Nat} {x : Rd} (hx : l[k]? = some x) : coolU by_ l (k + 1) = coolU by_ l k ++ [coolT by_ k x] := by
  unfold coolU
  rw [List.range_succ, List.map_append, List.map_cons, List.map_nil, List.getD_eq_getElem?_getD, hx]
  rfl
theorem cool_cooler {by_ : Int} {l : List Rd} (h : 0 ≤ by_) : Cooler l (coolU by_ l l.length) := by
  refine ⟨coolU_len _ _ _, fun i x y hx hy => ?_⟩
  have hi := (List.getElem?_eq_some_iff.1 hx).1
  unfold coolU at hy
  have e1 : l.getD i ⟨0, 0⟩ = x := by rw [List.getD_eq_getElem?_getD, hx]; rfl
  rw [List.getElem?_map, List.getElem?_range hi] at hy
  simp only [Option.map_some, e1, Option.some.injEq] at hy
  subst hy
  refine ⟨rfl, ?_⟩
  show x.t - by_ * (1 + (i : Int) % 2) ≤ x.t
  have h2 : (i : Int) % 2 = 0 ∨ (i : Int) % 2 = 1 := by omega
  rcases h2 with h2 | h2 <;> rw [h2] <;> omega
theorem cool_end {l l' : List Rd} (h : Cooler l l') (e : Int) (h1 : 1 ≤ l.length) : endB l' e = endB l e := by
  have hx : l[l.length - 1]? = some l[l.length - 1] := List.getElem?_eq_getElem (by omega)
  have hl := h.1
  have hy : l'[l.length - 1]? = some (l'[l.length - 1]'(by omega)) := List.getElem?_eq_getElem (by omega)
  unfold endB
  rw [hl, List.getD_eq_getElem?_getD, List.getD_eq_getElem?_getD, hx, hy]
  simp only [Option.getD_some]
  rw [(h.2 _ _ _ hx hy).1]
/-- Colder readings: they are no readings, or kill no later. -/
theorem kil_cooler {a b c g : Int} {l l' : List Rd} {e N : Int} (hc : Cooler l l') (h : kilE a b c 0 g l e = 0) (hN : kilV a b c 0 g l e = N) : kilE a b c 0 g l' e = 1 ∨ (kilE a b c 0 g l' e = 0 ∧ kilV a b c 0 g l' e ≤ N) := by
  obtain ⟨h1, h2, h3⟩ := kil_good h
  rw [hN] at h3
  cases hr : readB l' with
  | false =>
    have hc1 : chkE l' e [] = 1 := chk_no hr
    have hk : ckE a b c 0 g l' e [] = 1 := (ck_chk h1 (by rw [hc1]; decide)).trans hc1
    left
    unfold kilE
    rw [hk]; rfl
  | true =>
    have hg : Good l' e := ⟨hr, by rw [cool_end hc e h2.len.1]; exact h2.fin⟩
    have hb := (rule_iff.1 h1).2.2.2.1.1
    obtain ⟨m, k1, k2⟩ := kill_cooler h2 hg hc hb h3
    obtain ⟨k3, k4⟩ := kil_of h1 hg k1
    exact .inr ⟨k3, by rw [k4]; exact k2⟩
theorem kil_later {a b c d g : Int} {l : List Rd} {e e' N : Int} (he : e ≤ e') (he2 : e' ≤ 1000000) (h : kilE a b c d g l e = 0) (hN : kilV a b c d g l e = N) : kilE a b c d g l e' = 0 ∧ kilV a b c d g l e' ≤ N := by
  obtain ⟨h1, h2, h3⟩ := kil_good h
  rw [hN] at h3
  have hg : Good l e' := ⟨h2.read, by
    have := h2.fin
    unfold endB at this ⊢
    rw [in_iff] at this ⊢
    omega⟩
  have hr := rule_iff.1 h1
  obtain ⟨m, k1, k2⟩ := kill_later h2 hg he hr.2.2.2.1.1 hr.2.2.2.2.2.1 h3
  obtain ⟨k3, k4⟩ := kil_of h1 hg k1
  exact ⟨k3, by rw [k4]; exact k2⟩
end Go.Proofs.Ytbbbnfodjkpiaaa.Cd
