/-
  THE WALK of common: the fields that two labels share, in a slice of the call's own.
-/
import Derived.Test.YtknggeofilfiaaaGreatDoorMkClash
import Derived.Deep.AppendLies
import Derived.OwnWalk
namespace Go.Proofs.YtknggeofilfiaaaGreatDoor.Mk
open Go Go.RowKit Go.Maps

theorem info_field : (Tryz.prog.info? 27).map (fun i => (i.zero, i.size, i.bytes)) = some (some (.agg #[.string ⟨#[]⟩, .string ⟨#[]⟩]), 2, 32) := by kernel_rfl
/-- The cells of a label. -/
def cellsL : List FB → List Value
  | [] => []
  | f :: L => .string f.1 :: .string f.2 :: cellsL L
theorem cellsL_append (L M : List FB) : cellsL (L ++ M) = cellsL L ++ cellsL M := by
  induction L with
  | nil => rfl
  | cons f L ih => simp [cellsL, ih]
theorem cellsL_at : ∀ (L : List FB) (i : Nat) (f : FB), L[i]? = some f → (cellsL L)[i * 2]? = some (.string f.1) ∧ (cellsL L)[i * 2 + 1]? = some (.string f.2)
  | [], i, f, h => by simp at h
  | x :: L, 0, f, h => by
    simp only [List.getElem?_cons_zero, Option.some.injEq] at h
    subst h
    exact ⟨rfl, rfl⟩
  | x :: L, i + 1, f, h => by
    simp only [List.getElem?_cons_succ] at h
    obtain ⟨h1, h2⟩ := cellsL_at L i f h
    rw [show (i + 1) * 2 = i * 2 + 1 + 1 by omega, show i * 2 + 1 + 1 + 1 = (i * 2 + 1) + 1 + 1 by omega]
    exact ⟨h1, h2⟩
/-- A label in a row of the call's own. -/
structure RowF (B : Nat) (w wr : World) (v : Value) (L : List FB) : Prop where
  own : wr.ownsRow B 27 2 v L.length (cellsL L)
  bel : Below B w wr
theorem RowF.rl {B : Nat} {w wr : World} {v : Value} {L : List FB} (h : RowF B w wr v L) : RL wr v L := by
  rcases h.own.2 with ⟨hv, h0⟩ | ⟨g, cap, cur, hv, hgB, hh, hnc, hcm, hcs, htake⟩
  · exact ⟨none, 0, by rw [hv, h0], fun i f hf => by
      have : L = [] := List.eq_nil_of_length_eq_zero h0
      subst this
      simp at hf⟩
  · refine ⟨some ⟨g, 0, none⟩, cap, hv, fun i f hf => ⟨g, 0, rfl, (Array.getElem?_eq_some_iff.1 hh).1, ?_⟩⟩
    have hil : i < L.length := (List.getElem?_eq_some_iff.1 hf).1
    have hown := h.own
    rw [hv] at hown
    obtain ⟨h1, h2⟩ := cellsL_at L i f hf
    rw [Nat.zero_add]
    exact ⟨(hown.cellAt (i * 2) (by omega)).trans h1, (hown.cellAt (i * 2 + 1) (by omega)).trans h2⟩
theorem RowF.next {B : Nat} {w wr w' : World} {v : Value} {L : List FB} (h : RowF B w wr v L) (hb : Below wr.heap.size wr w') (hB : B ≤ wr.heap.size) : RowF B w w' v L :=
  ⟨h.own.kept (row := none) ⟨hb.os, hb.tape, hb.output, hb.size, fun k hk _ => hb.block k hk⟩ (by cases v.ownBlock <;> simp), h.bel.trans (hb.mono hB)⟩
/-- The fields of the second label that the first one has. -/
def commonL (A : List FB) : List FB → List FB
  | [] => []
  | f :: L => if lookL A f.1 = some f.2 then f :: commonL A L else commonL A L
theorem commonL_append (A L M : List FB) : commonL A (L ++ M) = commonL A L ++ commonL A M := by
  induction L with
  | nil => rfl
  | cons f L ih =>
    simp only [List.cons_append, commonL]
    split
    · rw [ih]; rfl
    · exact ih
theorem commonL_len (A L : List FB) : (commonL A L).length ≤ L.length := by
  induction L with
  | nil => exact Nat.le_refl _
  | cons f L ih =>
    simp only [commonL]
    split
    · simpa using ih
    · simp only [List.length_cons]; omega
set_option maxRecDepth 10000 in
set_option maxHeartbeats 1000000 in
theorem common_any (va vb : Value) (A L : List FB) (w : World) (ha : RL w va A) (h : RL w vb L) (hsA : Kq (∀ f ∈ A, f.1.size ≤ maxLen ∧ f.2.size ≤ maxLen)) (hs : Kq (∀ f ∈ L, f.1.size ≤ maxLen ∧ f.2.size ≤ maxLen)) (hnA : A.length ≤ 1000000) (hn : L.length ≤ 1000000) :
    Calls Tryz.prog 19 #[va, vb] w fun e w' => (∃ v, e = .returned v ∧ RL w' v (commonL A L)) ∧ Below w.heap.size w w' := by
  have hva := values_any va A w ha hsA hnA
  obtain ⟨g, cap, rfl, hc⟩ := h
  have HC := Lib.hid hc
  have HVA := Lib.hid hva
  clear hc hva ha
  obtain ⟨i0, hi, hz0, hz1, hz2⟩ := info_parts info_field
  have HI := Lib.hid hi
  have HZ0 := Lib.hid hz0
  have HZ1 := Lib.hid hz1
  have HZ2 := Lib.hid hz2
  clear hi hz0 hz1 hz2
  go_enter Tryz.func19, Tryz.ntmps19
  go_wp2_with fail
  refine HVA.out.mono ?_
  rintro e w0 ⟨⟨B, rfl, hB, hm⟩, hb0⟩
  have HB0 := Lib.hid hb0
  have hz0 := hb0.size
  clear hb0 HVA
  go_wp2
  go_loopw [15, 6] (fun i v wr => ∃ k : Nat, k ≤ L.length ∧ i = .int .i64 (k : Int) ∧ RowF w0.heap.size w0 wr v (commonL A (L.take k))) (fun i _ _ => L.length - (intOf i).toNat)
  case atStart => exact ⟨0, Nat.zero_le _, rfl, ⟨World.ownsRow_nil _ _ _ _, Below.refl _ _⟩⟩
  case round =>
    obtain ⟨k, hk, rfl, hrow⟩ := hrel
    have HROW := Lib.hid hrow
    have hz := hrow.bel.size
    have hm2 := hm.below hrow.bel
    clear hrow
    by_cases hlt : k < L.length
    · obtain ⟨f, hf⟩ : ∃ f, L[k]? = some f := ⟨L[k], List.getElem?_eq_getElem hlt⟩
      obtain ⟨b, o, hg, hbl, hb1, hb2⟩ := HC.out k f hf
      subst hg
      have c1 : wr.cell? ⟨b, o + k * 2, none⟩ = some (.string f.1) := (HROW.out.bel.cell (p := ⟨b, _, none⟩) (Nat.lt_of_lt_of_le hbl hz0)).trans ((HB0.out.cell (p := ⟨b, _, none⟩) hbl).trans hb1)
      have c2 : wr.cell? ⟨b, o + k * 2 + 1, none⟩ = some (.string f.2) := (HROW.out.bel.cell (p := ⟨b, _, none⟩) (Nat.lt_of_lt_of_le hbl hz0)).trans ((HB0.out.cell (p := ⟨b, _, none⟩) hbl).trans hb2)
      have hsz := hs.out f (List.mem_of_getElem? hf)
      have htk := take_next hf
      have hm3 : MapOf (wr.alloc (Obj.cells #[Value.string f.1, Value.string f.2] 27)) B A.length (vals A) := ⟨hm2.own.alloc _⟩
      have hlk := look_any hm3 f.1 hsz.1
      have hrow2 : RowF w0.heap.size w0 (wr.alloc (Obj.cells #[Value.string f.1, Value.string f.2] 27)) u6 (commonL A (L.take k)) := HROW.out.next ((Below.refl _ wr).alloc (Nat.le_refl _) _) hz
      have HROW2 := Lib.hid hrow2
      have hno : lookL A f.1 ≠ some f.2 → Kq (commonL A (L.take (k + 1)) = commonL A (L.take k)) := fun hne => ⟨by rw [htk, commonL_append]; simp [commonL, hne]⟩
      have hyes : lookL A f.1 = some f.2 → Kq (commonL A (L.take (k + 1)) = commonL A (L.take k) ++ [f]) := fun he => ⟨by rw [htk, commonL_append]; simp [commonL, he]⟩
      have HNO : Kq (lookL A f.1 ≠ some f.2 → Kq (commonL A (L.take (k + 1)) = commonL A (L.take k))) := ⟨hno⟩
      have HYES : Kq (lookL A f.1 = some f.2 → Kq (commonL A (L.take (k + 1)) = commonL A (L.take k) ++ [f])) := ⟨hyes⟩
      clear hb1 hb2 hf hsz hm3 hm2 htk hrow2 hno hyes HROW
      cases hl : lookL A f.1 with
      | none =>
        have hstep := HNO.out (by rw [hl]; simp)
        rw [hl] at hlk
        unfold found at hlk
        clear hl
        go_wp2
        go_roundw
        case rel => exact ⟨k + 1, by omega, by go_num, by rw [hstep.out]; exact HROW2.out⟩
        case measure => simp [intOf]; omega
      | some u =>
        by_cases hu : u = f.2
        · have hstep := HYES.out (by rw [hl, hu])
          have t1 : (u.toList == f.2.toList) = true := toList_eq.2 hu
          have hlen : (commonL A (L.take k)).length ≤ 1000000 := Nat.le_trans (commonL_len A _) (by rw [List.length_take]; omega)
          have hc3 : (commonL A (L.take k)).length + 1 ≤ maxLen := by unfold maxLen; omega
          have hc4 : ((commonL A (L.take k)).length + 1) * 32 ≤ 140737488355328 := by omega
          have hnew : Kq (((wr.alloc (Obj.cells #[Value.string f.1, Value.string f.2] 27)).alloc (Obj.cells #[Value.string f.1, Value.string f.2] 27)).heap[wr.heap.size + 1]? = some (Obj.cells #[Value.string f.1, Value.string f.2] 27)) := ⟨by
            have := heap_alloc_new (wr.alloc (Obj.cells #[Value.string f.1, Value.string f.2] 27)) (Obj.cells #[Value.string f.1, Value.string f.2] 27)
            simpa using this⟩
          have hown := HROW2.out.own
          have hbel2 := HROW2.out.bel
          rw [hl] at hlk
          unfold found at hlk
          clear hl hu
          go_wp2_with (at_builtin; refine wpList_append_own _ rfl _ _ 22 rfl w0.heap.size 27 i0 (.agg #[.string ⟨#[]⟩, .string ⟨#[]⟩]) 2 32 Tryz.underlying22 HI.out HZ0.out HZ1.out HZ2.out rfl (by decide) _ _ _ rfl (hown.alloc _) ⟨wr.heap.size + 1, 0, none⟩ 1 1 [.string f.1, .string f.2] rfl rfl (World.news_of_block (cs := #[.string f.1, .string f.2]) hnew.out) (by simp [Value.oneCell']) hc3 hc4 (by simp; omega) ?_; intro v' w4 hown' hgrow' _hnil)
          have hlt2 := hown.lt
          have hrow4 : RowF w0.heap.size w0 w4 v' (commonL A (L.take (k + 1))) := ⟨by rw [hstep.out, cellsL_append]; simpa [cellsL] using hown', (hbel2.alloc (by simp; omega) _).grown hgrow' (by simp; omega) (fun j e => (hlt2 j e).1)⟩
          clear hown' hgrow' hown hlt2 _hnil hbel2
          go_wp2
          go_roundw
          case rel => exact ⟨k + 1, by omega, by go_num, hrow4⟩
          case measure => simp [intOf]; omega
        · have hstep := HNO.out (by rw [hl]; simpa using hu)
          have t1 : (u.toList == f.2.toList) = false := toList_ne hu
          rw [hl] at hlk
          unfold found at hlk
          clear hl hu
          go_wp2
          go_roundw
          case rel => exact ⟨k + 1, by omega, by go_num, by rw [hstep.out]; exact HROW2.out⟩
          case measure => simp [intOf]; omega
    · have hkl : k = L.length := by omega
      have hrl : Kq (RL wr u6 (commonL A L)) := ⟨by
        have h1 := HROW.out.rl
        rw [hkl, List.take_of_length_le (Nat.le_refl _)] at h1
        exact h1⟩
      clear hkl
      go_wp2
      go_ret
      exact ⟨⟨_, rfl, hrl.out⟩, HB0.out.trans (HROW.out.bel.mono hz0)⟩
end Go.Proofs.YtknggeofilfiaaaGreatDoor.Mk
