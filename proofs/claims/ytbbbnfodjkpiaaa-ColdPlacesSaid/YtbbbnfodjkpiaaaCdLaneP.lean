/-
  Lanes that are taken, as a map's datum: plain mathematics.
-/
import Derived.Test.YtbbbnfodjkpiaaaCdBoxP
import Derived.Maps.RangeWalk
import Derived.Maps.OwnSet
namespace Go.Proofs.Ytbbbnfodjkpiaaa.Cd
open Go Go.Maps

section
variable {H : Type}
/-- Lanes that are taken, each with the hour to which it is: how they read. -/
def enP (p : Int × Int) : Lit × DataW H := (.int .i64 p.1, .lit (.int .i64 p.2))
def numP : DataW H → Int
  | .lit (.int _ n) => n
  | _ => 0
def Rep (D : DataW H) (ts : List (Int × Int)) : Prop := ∃ es, D = .map es ∧ es.Perm (ts.map enP)
theorem rep_nil : Rep (.map [] : DataW H) [] := ⟨[], rfl, List.Perm.refl _⟩
/-- What is left of the lanes: those that are taken for longer, and those that are still to come. -/
def Fl (es0 : List (Lit × DataW H)) (f : Int) (left : Lit → Bool) : DataW H := .map (es0.filter fun p => decide (f < numP p.2) || left p.1)
theorem Fl_start {es0 : List (Lit × DataW H)} {f : Int} (hkeys : ∀ p ∈ es0, WideAt.IsKeyLit p.1) : Fl es0 f (Maps.has (.map es0)) = .map es0 := by
  unfold Fl
  rw [List.filter_eq_self.2 (fun p hp => by
    have : Maps.has (DataW.map es0) p.1 = true := List.any_eq_true.2 ⟨p, hp, WideAt.sameKey_self (hkeys p hp)⟩
    simp [this])]
theorem Fl_end {es0 : List (Lit × DataW H)} {f : Int} {left : Lit → Bool} (hl : ∀ kl, left kl = false) : Fl es0 f left = .map (es0.filter fun p => decide (f < numP p.2)) := by
  unfold Fl
  congr 1
  exact List.filter_congr (fun p _ => by simp [hl])
theorem Fl_came {es0 : List (Lit × DataW H)} {f : Int} {left : Lit → Bool} (hap : es0.Pairwise (fun p q => p.1 ≠ q.1)) {kl : Lit} (hk : WideAt.IsKeyLit kl) (hlk : left kl = true) {d : DataW H} (hat : ∀ zd, (Fl es0 f left).atKey kl zd = d) : ∀ p ∈ es0, p.1 = kl → p.2 = d := by
  intro p hp hpk
  have hm : (kl, p.2) ∈ es0.filter fun p => decide (f < numP p.2) || left p.1 := List.mem_filter.2 ⟨by rw [← hpk]; exact hp, by simp [hlk]⟩
  exact (WideAt.atKey_mem .nil hk (hap.filter _) hm).symm.trans (hat .nil)
theorem Fl_struck {es0 : List (Lit × DataW H)} {f : Int} {left : Lit → Bool} (hap : es0.Pairwise (fun p q => p.1 ≠ q.1)) {kl : Lit} (hk : WideAt.IsKeyLit kl) (hlk : left kl = true) {c : Int} (hc0 : c ≤ f) (hat : ∀ zd, (Fl es0 f left).atKey kl zd = .lit (.int .i64 c)) : (Fl es0 f left).del kl = Fl es0 f (fun z => left z && !z.sameKey kl) := by
  have hc := Fl_came hap hk hlk hat
  show DataW.map ((es0.filter fun p => decide (f < numP p.2) || left p.1).filter fun p => !p.1.sameKey kl) = _
  unfold Fl
  rw [List.filter_filter]
  congr 1
  refine List.filter_congr (fun p hp => ?_)
  cases hs : p.1.sameKey kl
  · simp [hs]
  · have hv : numP p.2 = c := by rw [hc p hp (WideAt.sameKey_eq hs)]; rfl
    simp [hs, hv, hc0]
theorem Fl_stays {es0 : List (Lit × DataW H)} {f : Int} {left : Lit → Bool} (hap : es0.Pairwise (fun p q => p.1 ≠ q.1)) {kl : Lit} (hk : WideAt.IsKeyLit kl) (hlk : left kl = true) {c : Int} (hc0 : ¬ c ≤ f) (hat : ∀ zd, (Fl es0 f left).atKey kl zd = .lit (.int .i64 c)) : Fl es0 f left = Fl es0 f (fun z => left z && !z.sameKey kl) := by
  have hc := Fl_came hap hk hlk hat
  unfold Fl
  congr 1
  refine List.filter_congr (fun p hp => ?_)
  cases hs : p.1.sameKey kl
  · simp [hs]
  · have hv : numP p.2 = c := by rw [hc p hp (WideAt.sameKey_eq hs)]; rfl
    have hd : decide (f < c) = true := decide_eq_true (by omega)
    simp [hs, hv, hd]
theorem rep_filter {es0 : List (Lit × DataW H)} {ts : List (Int × Int)} (h : es0.Perm (ts.map enP)) (f : Int) : Rep (.map (es0.filter fun p => decide (f < numP p.2)) : DataW H) (ts.filter fun p => decide (f < p.2)) := by
  refine ⟨_, rfl, ?_⟩
  have h1 := h.filter (fun p => decide (f < numP p.2))
  rw [List.filter_map] at h1
  exact h1
theorem rep_has {D : DataW H} {ts : List (Int × Int)} (h : Rep D ts) (k : Int) : Maps.has D (.int .i64 k) = ts.any (fun p => p.1 == k) := by
  obtain ⟨es, rfl, hp⟩ := h
  rw [has_eq, hp.any_eq, List.any_map]
  congr 1
  funext p
  show Lit.sameKey (.int .i64 p.1) (.int .i64 k) = (p.1 == k)
  simp [Lit.sameKey]
  rfl
theorem rep_size {D : DataW H} {ts : List (Int × Int)} (h : Rep D ts) : Maps.size D = ts.length := by
  obtain ⟨es, rfl, hp⟩ := h
  rw [size_eq, hp.length_eq, List.length_map]
theorem rep_put {D : DataW H} {ts : List (Int × Int)} (h : Rep D ts) (k v : Int) : Rep (D.put (.int .i64 k) (.lit (.int .i64 v))) ((k, v) :: ts.filter fun p => !(p.1 == k)) := by
  obtain ⟨es, rfl, hp⟩ := h
  refine ⟨_, rfl, ?_⟩
  refine (WideShapes.insert_perm _ _).trans ?_
  rw [List.map_cons]
  refine List.Perm.cons _ ?_
  have h1 := hp.filter (fun p => !p.1.sameKey (.int .i64 k))
  rw [List.filter_map] at h1
  refine h1.trans ?_
  rw [List.filter_congr (q := fun p => !(p.1 == k))]
  intro p _
  show (!Lit.sameKey (.int .i64 p.1) (.int .i64 k)) = _
  simp [Lit.sameKey]
  rfl

/-- The least lane that is not taken. -/
def freeL (ts : List (Int × Int)) : Int := (((List.range ts.length).find? fun (k : Nat) => !(ts.any fun p => p.1 == (k : Int))).getD ts.length : Nat)
theorem free_yes {ts : List (Int × Int)} {k : Nat} (hk : k < ts.length) (hb : ∀ j, j < k → (ts.any fun p => p.1 == (j : Int)) = true) (h : (ts.any fun p => p.1 == (k : Int)) = false) : freeL ts = (k : Int) := by
  unfold freeL
  have : (List.range ts.length).find? (fun (k : Nat) => !(ts.any fun p => p.1 == (k : Int))) = some k := by
    rw [List.find?_range_eq_some]
    exact ⟨by rw [h]; rfl, List.mem_range.2 hk, fun j hj => by rw [hb j hj]; rfl⟩
  rw [this]; rfl
theorem free_all {ts : List (Int × Int)} (hb : ∀ j, j < ts.length → (ts.any fun p => p.1 == (j : Int)) = true) : freeL ts = (ts.length : Int) := by
  unfold freeL
  have : (List.range ts.length).find? (fun (k : Nat) => !(ts.any fun p => p.1 == (k : Int))) = none := by
    rw [List.find?_eq_none]
    intro j hj
    rw [hb j (List.mem_range.1 hj)]; decide
  rw [this]; rfl
theorem free_bd (ts : List (Int × Int)) : 0 ≤ freeL ts ∧ freeL ts ≤ ts.length := by
  unfold freeL
  cases h : (List.range ts.length).find? (fun (k : Nat) => !(ts.any fun p => p.1 == (k : Int))) with
  | none => simp
  | some k =>
    have := List.mem_range.1 (List.mem_of_find?_eq_some h)
    simp only [Option.getD_some]
    omega
end
end Go.Proofs.Ytbbbnfodjkpiaaa.Cd
