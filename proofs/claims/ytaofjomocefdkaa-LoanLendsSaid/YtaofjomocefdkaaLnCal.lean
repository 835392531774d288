/-
  WALKS (layer 9, loan): the calendar: a map whose elements are rows of spans of the call's own.
-/
import Derived.Test.YtaofjomocefdkaaLnValid
import Derived.Maps.AppendAt
import Derived.Maps.OwnSet
import Derived.Maps.Views
import Derived.Deep.AppendLies
import Derived.Laws.OwnMore
namespace Go.Proofs.Ytaofjomocefdkaa.Ln
open Go Go.RowKit Go.ChangeMaps Go.MapKept Go.ChangeShapes
open Go.WideElems (Fit rd rg pl rd_val)
open Go.Maps (Keyed)

def flatS : List (Int × Int) → List Value
  | [] => []
  | x :: xs => .int .i64 x.1 :: .int .i64 x.2 :: flatS xs
theorem flatS_append (a b : List (Int × Int)) : flatS (a ++ b) = flatS a ++ flatS b := by
  induction a with
  | nil => rfl
  | cons q a ih => simp [flatS, ih]
theorem flatS_at : ∀ {l : List (Int × Int)} {i : Nat} {x : Int × Int}, l[i]? = some x → (flatS l)[i * 2]? = some (.int .i64 x.1) ∧ (flatS l)[i * 2 + 1]? = some (.int .i64 x.2)
  | [], i, x, h => by simp at h
  | q :: l, 0, x, h => by
    simp at h
    subst h
    exact ⟨rfl, rfl⟩
  | q :: l, i + 1, x, h => by
    have h2 : l[i]? = some x := by simpa using h
    obtain ⟨a, b⟩ := flatS_at h2
    rw [show (i + 1) * 2 = i * 2 + 1 + 1 by omega]
    exact ⟨a, by rw [show i * 2 + 1 + 1 + 1 = (i * 2 + 1) + 1 + 1 by omega]; exact b⟩
theorem flatS_one (l : List (Int × Int)) : ∀ u ∈ flatS l, u.oneCell' = true := by
  induction l with
  | nil => intro u h; cases h
  | cons q a ih =>
    intro u h
    simp only [flatS, List.mem_cons] at h
    rcases h with rfl | rfl | h
    · rfl
    · rfl
    · exact ih u h
/-- A row of spans of the call's own. -/
def OwnS (W : World) (B0 : Nat) (v : Value) (l : List (Int × Int)) : Prop := W.ownsRow B0 86 2 v l.length (flatS l)
theorem OwnS.nil (w : World) (B0 : Nat) : OwnS w B0 (.slice none 0 0) [] := ⟨rfl, .inl ⟨rfl, rfl⟩⟩
theorem OwnS.on {w W : World} {B0 : Nat} {v : Value} {l : List (Int × Int)} (h : OwnS w B0 v l) (hb : Below w.heap.size w W) : OwnS W B0 v l := h.kept (grown_below hb none) (by cases hv : v.ownBlock <;> simp)
theorem OwnS.at {w : World} {B0 : Nat} {v : Value} {l : List (Int × Int)} (h : OwnS w B0 v l) : ∃ g c, v = .slice g l.length c ∧ ∀ i x, l[i]? = some x → ∃ b, g = some ⟨b, 0, none⟩ ∧ w.cell? ⟨b, i * 2, none⟩ = some (.int .i64 x.1) ∧ w.cell? ⟨b, i * 2 + 1, none⟩ = some (.int .i64 x.2) := by
  rcases h.2 with ⟨hv, h0⟩ | ⟨g, cap, cur, hv, hgB, hh, hnc, hcm, hcs, htake⟩
  · have hq : l = [] := List.eq_nil_of_length_eq_zero h0
    subst hq
    exact ⟨none, 0, hv, fun i s hs => by simp at hs⟩
  · refine ⟨some ⟨g, 0, none⟩, cap, hv, fun i s hs => ?_⟩
    have hi := (List.getElem?_eq_some_iff.1 hs).1
    obtain ⟨h0, h1⟩ := flatS_at hs
    rw [← htake, List.getElem?_take] at h0 h1
    rw [if_pos (by omega), Array.getElem?_toList] at h0 h1
    refine ⟨g, rfl, ?_, ?_⟩
    · simp only [World.cell?, hh]; simpa using h0
    · simp only [World.cell?, hh]; simpa using h1
theorem OwnS.shape {w : World} {B0 : Nat} {v : Value} {l : List (Int × Int)} (h : OwnS w B0 v l) : ∃ g c, v = .slice g l.length c := by
  obtain ⟨g, c, e, -⟩ := h.at; exact ⟨g, c, e⟩
theorem info_sp : (Try.prog.info? 86).map (fun i => (i.zero, i.size, i.bytes)) = some (some (.agg #[.int .i64 0, .int .i64 0]), 2, 16) := by kernel_rfl
theorem info_parts {e : TypeId} {z : Value} {s b : Nat} (h : (Try.prog.info? e).map (fun i => (i.zero, i.size, i.bytes)) = some (some z, s, b)) : ∃ i, Try.prog.info? e = some i ∧ i.zero = some z ∧ i.size = s ∧ i.bytes = b := by
  obtain ⟨i, hi, hzz⟩ := Option.map_eq_some_iff.1 h
  simp only [Prod.mk.injEq] at hzz
  exact ⟨i, hi, hzz⟩
theorem newsS_one {W : World} {Y : Nat} {r : Int × Int} (h0 : W.cell? ⟨Y, 0, none⟩ = some (.int .i64 r.1)) (h1 : W.cell? ⟨Y, 1, none⟩ = some (.int .i64 r.2)) : ∀ j u, (flatS [r])[j]? = some u → W.cell? ((⟨Y, 0, none⟩ : Addr).add j) = some u := by
  intro j u hu
  match j with
  | 0 => simp [flatS] at hu; subst hu; exact h0
  | 1 => simp [flatS] at hu; subst hu; exact h1
  | j + 2 => simp [flatS] at hu
/-- One span more: the run of the append, with what it leaves. -/
theorem OwnS.next {w : World} {base Y : Nat} {v : Value} {l : List (Int × Int)} {x : Int × Int} (h : OwnS w base v l) (h0 : w.cell? ⟨Y, 0, none⟩ = some (.int .i64 x.1)) (h1 : w.cell? ⟨Y, 1, none⟩ = some (.int .i64 x.2)) (hn : l.length ≤ 100000) (hb : base ≤ w.heap.size) :
    ∃ g c w', (Builtin.append_ #[90, 90] 90 #[v, .slice (some ⟨Y, 0, none⟩) 1 1]).run Try.prog w = .ok (.slice g (l.length + 1) c) w' ∧ OwnS w' base (.slice g (l.length + 1) c) (l ++ [x]) ∧ w.grownBy w' v.ownBlock ∧ ((Value.slice g (l.length + 1) c).ownBlock = v.ownBlock ∨ (Value.slice g (l.length + 1) c).ownBlock = some w.heap.size) := by
  obtain ⟨i0, hi, hz0, hz1, hz2⟩ := info_parts info_sp
  obtain ⟨v', w', hrun, hown, hg, -, hat⟩ := run_append_own_at (P := Try.prog) (w := w) base 90 90 86 i0 (.agg #[.int .i64 0, .int .i64 0]) 2 16 Try.underlying90 hi hz0 hz1 hz2 rfl (by decide)
    v l.length (flatS l) h ⟨Y, 0, none⟩ 1 1 (flatS [x]) rfl (newsS_one h0 h1) (flatS_one _) (by unfold maxLen; omega) (by omega) hb
  have ho : OwnS w' base v' (l ++ [x]) := by
    unfold OwnS
    rw [List.length_append, flatS_append]
    exact hown
  obtain ⟨g, c, hv⟩ := ho.shape
  rw [List.length_append, List.length_singleton] at hv
  subst hv
  exact ⟨g, c, w', hrun, ho, hg, hat⟩

/-! ### The calendar -/
/-- How an element is read: not at all; what it owns is said beside it. -/
def rd0 (_ : Value) : Option (DataW Unit × List MemPlace) := some (.nil, [])
abbrev yes0 : DataW Unit := .lit (.bool true)
theorem keyedS : Keyed Try.prog 9 := Go.Maps.string_keyed Try.underlying9
theorem keyS {s : ByteArray} (h : s.size ≤ maxLen) : ∃ kl, keyOf Try.prog 9 (.string s) = some kl := ⟨_, Go.WideMaps.keyOf_string_mk Try.underlying9 h⟩
theorem zeroS (w : World) : (zeroValue 90).run Try.prog w = .ok (.slice none 0 0) w := by kernel_rfl
/-- Block b is a calendar: each piece's days; each row lies from base on, no two in one block. -/
def Cal (w : World) (b base n : Nat) (C : ByteArray → List (Int × Int)) : Prop :=
  ∃ es clock, w.heap[b]? = some (.map es clock) ∧ Fit Try.prog 9 rd0 es clock ∧ es.size ≤ n ∧ b < base ∧
    (∀ x ∈ es.toList, ∃ s, s.size ≤ maxLen ∧ x.key = .string s ∧ OwnS w base x.val (C s)) ∧
    (∀ s kl, s.size ≤ maxLen → keyOf Try.prog 9 (.string s) = some kl → (DataW.map ((es.toList.map (rg Try.prog 9 rd0)).foldr DataW.insert [])).atKey kl yes0 = yes0 → C s = []) ∧
    (∀ x ∈ es.toList, ∀ y ∈ es.toList, x.key ≠ y.key → x.val.ownBlock = none ∨ x.val.ownBlock ≠ y.val.ownBlock)
theorem Cal.made (w : World) : Cal (w.alloc (.map #[] 0)) w.heap.size (w.heap.size + 1) 0 (fun _ => []) :=
  ⟨#[], 0, (MapKept.heap_alloc w _).1, ⟨by simp, stamped_empty 0, by simp⟩, Nat.le_refl _, Nat.lt_succ_self _, by simp, fun _ _ _ _ _ => rfl, by simp⟩
theorem Cal.lt {w : World} {b base n : Nat} {C : ByteArray → List (Int × Int)} (h : Cal w b base n C) : b < w.heap.size := by
  obtain ⟨es, clock, hb, -⟩ := h
  exact (Array.getElem?_eq_some_iff.1 hb).1
theorem Cal.on {w W : World} {b base n : Nat} {C : ByteArray → List (Int × Int)} (h : Cal w b base n C) (hb : Below w.heap.size w W) : Cal W b base n C := by
  have hl := h.lt
  obtain ⟨es, clock, h1, h2, h3, h4, h5, h6, h7⟩ := h
  exact ⟨es, clock, (hb.block b hl).trans h1, h2, h3, h4, fun x hx => (h5 x hx).imp fun s hs => ⟨hs.1, hs.2.1, hs.2.2.on hb⟩, h6, h7⟩
/-- What a look-up gives, and the way back. -/
theorem Cal.at {w : World} {b base n : Nat} {C : ByteArray → List (Int × Int)} (h : Cal w b base n C) {s : ByteArray} (hs : s.size ≤ maxLen) (hn : n < maxLen) :
    ∃ v, (Instr.lookup 66 (.map (some b)) (.string s) false).run Try.prog w = .ok v w ∧ OwnS w base v (C s) ∧
      (∀ (w1 : World) (v' : Value) (l' : List (Int × Int)) (C' : ByteArray → List (Int × Int)), w.grownBy w1 v.ownBlock → OwnS w1 base v' l' → (v'.ownBlock = v.ownBlock ∨ ∃ g, v'.ownBlock = some g ∧ w.heap.size ≤ g) → C' s = l' → (∀ t, t ≠ s → C' t = C t) →
        ∃ w2, (Instr.mapUpdate 66 (.map (some b)) (.string s) v').run Try.prog w1 = .ok () w2 ∧ Cal w2 b base (n + 1) C' ∧ w1.grownBy w2 (some b)) := by
  obtain ⟨es, clock, hb, F, hsz, hbb, hown, habs, hap⟩ := h
  obtain ⟨kl, hkey⟩ := keyS hs
  have hblt : b < w.heap.size := (Array.getElem?_eq_some_iff.1 hb).1
  have own_lt : ∀ {W : World} {u : Value} {ys : List (Int × Int)} {g : Nat}, OwnS W base u ys → u.ownBlock = some g → base ≤ g ∧ g < W.heap.size := fun ho hu => World.ownsRow.lt ho _ hu
  have back : ∀ v : Value, (∀ x ∈ es.toList, x.key ≠ .string s → x.val.ownBlock = none ∨ x.val.ownBlock ≠ v.ownBlock) → v.ownBlock ≠ some b →
      (∀ (w1 : World) (v' : Value) (l' : List (Int × Int)) (C' : ByteArray → List (Int × Int)), w.grownBy w1 v.ownBlock → OwnS w1 base v' l' → (v'.ownBlock = v.ownBlock ∨ ∃ g, v'.ownBlock = some g ∧ w.heap.size ≤ g) → C' s = l' → (∀ t, t ≠ s → C' t = C t) →
        ∃ w2, (Instr.mapUpdate 66 (.map (some b)) (.string s) v').run Try.prog w1 = .ok () w2 ∧ Cal w2 b base (n + 1) C' ∧ w1.grownBy w2 (some b)) := by
    intro v hv hvb w1 v' l' C' hg hown' hloc hC1 hC2
    have hb1 : w1.heap[b]? = some (.map es clock) := (hg.block b hblt (fun e1 => hvb e1.symm)).trans hb
    obtain ⟨es', clock', hrun, F', hput, -, -, hwho⟩ := Maps.fit_store (R := rd0) (R' := rd0) keyedS Try.underlying66 hb1 F (Nat.lt_of_le_of_lt hsz hn) (fun x _ _ z hz => hz) hkey (show rd0 v' = some (.nil, []) from rfl)
    have hg2 : w1.grownBy (setBlock w1 b (.map es' clock')) (some b) := ⟨rfl, rfl, rfl, by simp [setBlock], fun i _ hi => heap_setBlock_other hb1 _ (fun e1 => hi (by rw [e1]))⟩
    have own_ne : ∀ {u : Value} {ys : List (Int × Int)}, OwnS w1 base u ys → u.ownBlock = none ∨ u.ownBlock ≠ some b := fun {u ys} ho => by
      cases hu : u.ownBlock with
      | none => exact Or.inl rfl
      | some g =>
        refine Or.inr (fun e1 => ?_)
        have := (own_lt ho hu).1
        cases e1
        omega
    have old_new : ∀ x ∈ es.toList, x.key ≠ .string s → x.val.ownBlock = none ∨ x.val.ownBlock ≠ v'.ownBlock := by
      intro x hx hne
      rcases hloc with h1 | ⟨g, h1, h2⟩
      · rw [h1]
        exact hv x hx hne
      · cases hx' : x.val.ownBlock with
        | none => exact Or.inl rfl
        | some gx =>
          obtain ⟨t, -, -, ho⟩ := hown x hx
          have := (own_lt ho hx').2
          refine Or.inr (fun e1 => ?_)
          rw [h1] at e1
          cases e1
          omega
    refine ⟨_, hrun, ⟨es', clock', heap_setBlock_same hb1 _, F', ?_, hbb, ?_, ?_, ?_⟩, hg2⟩
    · have e1 : es'.size = ((es'.toList.map (rg Try.prog 9 rd0)).foldr DataW.insert []).length := by rw [length_sorted]; simp
      rw [e1, hput]
      unfold putKey
      rw [length_insert]
      have e2 := List.length_filter_le (notKey kl) ((es.toList.map (rg Try.prog 9 rd0)).foldr DataW.insert [])
      rw [length_sorted] at e2
      simp at e2
      omega
    · intro x hx
      rcases hwho x hx with ⟨hx0, hne⟩ | ⟨hk, hval⟩
      · obtain ⟨t, ht, hkt, ho⟩ := hown x hx0
        have hts : t ≠ s := fun e => hne (by rw [hkt, e])
        refine ⟨t, ht, hkt, ?_⟩
        rw [hC2 t hts]
        exact World.ownsRow.kept (World.ownsRow.kept ho hg (hv x hx0 hne)) hg2 (own_ne (World.ownsRow.kept ho hg (hv x hx0 hne)))
      · refine ⟨s, hs, hk, ?_⟩
        rw [hC1, hval]
        exact World.ownsRow.kept hown' hg2 (own_ne hown')
    · intro t kt ht hkt hat
      rw [hput, ← DataW.put_eq] at hat
      by_cases e : t = s
      · subst e
        rw [hkey] at hkt
        cases hkt
        rw [Maps.atKey_put_same ⟨_, rfl⟩ (keyedS.key hkey)] at hat
        cases hat
      · have hne : kt ≠ kl := fun e2 => e (by
          subst e2
          have := keyedS.inj hkt hkey
          simpa using this)
        rw [Maps.atKey_put_other hne] at hat
        rw [hC2 t e]
        exact habs t kt ht hkt hat
    · intro x hx y hy hne
      rcases hwho x hx with ⟨hx0, hxk⟩ | ⟨hxk, hxv⟩ <;> rcases hwho y hy with ⟨hy0, hyk⟩ | ⟨hyk, hyv⟩
      · exact hap x hx0 y hy0 hne
      · rw [hyv]
        exact old_new x hx0 hxk
      · rw [hxv]
        cases hv' : v'.ownBlock with
        | none => exact Or.inl rfl
        | some g =>
          refine Or.inr (fun e1 => ?_)
          rcases old_new y hy0 hyk with h | h
          · rw [h] at e1
            cases e1
          · exact h (by rw [hv', e1])
      · exact absurd (hxk.trans hyk.symm) hne
  rcases Maps.fit_look (R := rd0) false keyedS Try.underlying66 (zeroS w) hb F hkey with ⟨hrun, -, hat⟩ | ⟨e0, y, hm0, h3, hrun, -, -, -⟩
  · refine ⟨.slice none 0 0, hrun, ?_, back _ (fun x _ _ => ?_) (by simp [Value.ownBlock])⟩
    · rw [habs s kl hs hkey (hat _)]
      exact OwnS.nil _ _
    · cases x.val.ownBlock <;> simp [Value.ownBlock]
  · obtain ⟨t, -, hkt, ho⟩ := hown e0 hm0
    have hts : t = s := by
      rw [hkt] at h3
      simpa using h3
    subst hts
    refine ⟨e0.val, hrun, ho, back _ (fun x hx hne => hap x hx e0 hm0 (by rw [h3]; exact hne)) (fun e1 => ?_)⟩
    have := (own_lt ho e1).1
    omega
end Go.Proofs.Ytaofjomocefdkaa.Ln
