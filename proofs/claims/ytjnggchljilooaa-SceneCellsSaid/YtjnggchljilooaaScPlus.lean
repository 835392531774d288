/-
  PLAIN (layer 7, scene): what hides a point, where a ground is raised and where it is mounted.
-/
import Derived.Test.YtjnggchljilooaaScHideP
namespace Go.Proofs.Ytjnggchljilooaa.Sc

/-- The same cells are looked at, and the line goes under the same of them: the same hides. -/
theorem hid_same {wd wd2 : Int} {L M : List Int} {e f : Ey} {x : Int} {y : Nat} {h k : Int} (hc : ∀ r : Nat, r < y → colL f x y r = colL e x y r)
    (hu : ∀ r : Nat, r < y → ∀ c ∈ colL e x y r, undB f y k (gAt wd2 M c r) r = undB e y h (gAt wd L c r) r) : hid wd2 M f x y k = hid wd L e x y h := by
  unfold hid
  have : ∀ l : List Nat, (∀ r ∈ l, r < y) → l.findSome? (fun (r : Nat) => (hidC wd2 M f x y k r).map fun c => (c, (r : Int))) = l.findSome? (fun (r : Nat) => (hidC wd L e x y h r).map fun c => (c, (r : Int))) := by
    intro l
    induction l with
    | nil => intro _; rfl
    | cons a l ih =>
      intro hl
      rw [List.findSome?_cons, List.findSome?_cons, ih (fun r hr => hl r (List.mem_cons_of_mem _ hr))]
      have ha : hidC wd2 M f x y k a = hidC wd L e x y h a := by
        unfold hidC
        rw [hc a (hl a List.mem_cons_self)]
        have hm : ∀ m : List Int, (∀ c ∈ m, c ∈ colL e x y a) → m.find? (fun c => undB f y k (gAt wd2 M c a) a) = m.find? (fun c => undB e y h (gAt wd L c a) a) := by
          intro m
          induction m with
          | nil => intro _; rfl
          | cons c m im =>
            intro hm
            rw [List.find?_cons, List.find?_cons, hu a (hl a List.mem_cons_self) c (hm c List.mem_cons_self), im (fun z hz => hm z (List.mem_cons_of_mem _ hz))]
        exact hm _ (fun _ hz => hz)
      rw [ha]
  exact this _ (fun r hr => List.mem_range.1 hr)
theorem hid_none_iff {wd : Int} {L : List Int} {e : Ey} {x : Int} {y : Nat} {h : Int} : hid wd L e x y h = none ↔ ∀ r : Nat, r < y → ∀ c ∈ colL e x y r, undB e y h (gAt wd L c r) r = false := by
  unfold hid hidC
  rw [List.findSome?_eq_none_iff]
  constructor
  · intro hn r hr c hc
    have := hn r (List.mem_range.2 hr)
    rw [Option.map_eq_none_iff, List.find?_eq_none] at this
    simpa using this c hc
  · intro hn r hr
    rw [Option.map_eq_none_iff, List.find?_eq_none]
    intro c hc
    rw [hn r (List.mem_range.1 hr) c hc]
    simp
/-- A cell over which the line goes is one of the ground's. -/
theorem colL_in {wd dp : Int} {e : Ey} {x : Int} {y r : Nat} {c : Int} (hb : Bd e x y r) (h1 : e.x ≤ wd - 1) (h2 : x ≤ wd - 1) (hr : r < y) (hy : (y : Int) ≤ dp - 1) (hc : c ∈ colL e x y r) : (0 ≤ c ∧ c ≤ wd - 1) ∧ (c + wd * (r : Int)).toNat < (wd * dp).toNat := by
  obtain ⟨b1, b2, -⟩ := cross_bd hb
  have b3 := lst_lt hb h1 h2
  unfold colL at hc
  obtain ⟨i, hi, rfl⟩ := List.mem_map.1 hc
  have hi := List.mem_range.1 hi
  have hk : 0 ≤ fst e x y r + (i : Int) ∧ fst e x y r + (i : Int) ≤ wd - 1 := by omega
  refine ⟨hk, ?_⟩
  have hw : 0 ≤ wd * (r : Int) := Int.mul_nonneg (by omega) (by omega)
  have hm : wd * (r : Int) + wd ≤ wd * dp := by
    have : wd * ((r : Int) + 1) ≤ wd * dp := Int.mul_le_mul_of_nonneg_left (by omega) (by omega)
    rwa [Int.mul_add, Int.mul_one] at this
  omega
/-- Raising ground, eye and point by the same changes nothing that hides. -/
theorem hid_raised {wd dp : Int} {L : List Int} {e : Ey} {x : Int} {y : Nat} {h n : Int} (hl : (L.length : Int) = wd * dp) (hb : ∀ r : Nat, r < y → Bd e x y r) (h1 : e.x ≤ wd - 1) (h2 : x ≤ wd - 1) (hy : (y : Int) ≤ dp - 1) :
    hid wd (L.map (· + n)) ⟨e.x, e.b, e.h + n⟩ x y (h + n) = hid wd L e x y h := by
  refine hid_same (fun r _ => rfl) (fun r hr c hc => ?_)
  have hin := (colL_in (hb r hr) h1 h2 hr hy hc).2
  have hlt : (c + wd * (r : Int)).toNat < L.length := by omega
  have hg : gAt wd (L.map (· + n)) c r = gAt wd L c r + n := by
    unfold gAt
    rw [List.getD_eq_getElem?_getD, List.getD_eq_getElem?_getD, List.getElem?_map, List.getElem?_eq_getElem hlt]
    rfl
  rw [hg]
  unfold undB
  have a1 : h + n - (e.h + n) = h - e.h := by omega
  have a2 : gAt wd L c r + n - (e.h + n) = gAt wd L c r - e.h := by omega
  simp only [a1, a2]
/-- Where no height is less, nothing is seen that was not. -/
theorem hid_mount {wd : Int} {L M : List Int} {e : Ey} {x : Int} {y : Nat} {h : Int} (hb : 0 ≤ (y : Int) + e.b) (hm : ∀ i : Nat, L.getD i 0 ≤ M.getD i 0) (hn : hid wd M e x y h = none) : hid wd L e x y h = none := by
  rw [hid_none_iff] at hn ⊢
  intro r hr c hc
  have h0 := hn r hr c hc
  unfold undB at h0 ⊢
  rw [decide_eq_false_iff_not, Int.not_lt] at h0 ⊢
  have hg : gAt wd L c r - e.h ≤ gAt wd M c r - e.h := Int.sub_le_sub_right (hm _) _
  exact Int.le_trans (Int.mul_le_mul_of_nonneg_right hg hb) h0
end Go.Proofs.Ytjnggchljilooaa.Sc
