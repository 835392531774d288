/-
  THE WALK of the program's Valid at any parts.
-/
import Derived.Test.YtjdcdakedoljbaaDoorMkPtA
namespace Go.Proofs.YtjdcdakedoljbaaDoor.Mk
open Go Go.RowKit Go.Maps Go.Sort

theorem made_hintB (n : Int) (w : World) : (Instr.makeMap 81 (some (.int .i64 n))).run Tryd.prog w = .ok (.map (some w.heap.size)) (w.alloc (.map #[] 0)) := by
  simp [Instr.makeMap, run_underlying Tryd.underlying81]
  rfl
def yes : DataW Unit := .lit (.bool true)
/-- The signs that were met. -/
def metD (S : List ByteArray) : DataW Unit := S.foldl (fun D s => D.put (keyL s) yes) (.map [])
theorem metD_snoc (S : List ByteArray) (s : ByteArray) : metD (S ++ [s]) = (metD S).put (keyL s) yes := by
  unfold metD
  rw [List.foldl_append]
  rfl
structure MetOf (w : World) (B n : Nat) (D : DataW Unit) : Prop where
  own : w.ownsMap Tryd.prog 9 (plainElem Tryd.prog 4) B n D
theorem MetOf.below {w w' : World} {B n : Nat} {D : DataW Unit} (h : MetOf w B n D) (hb : Below w.heap.size w w') : MetOf w' B n D :=
  ⟨h.own.kept (row := none) ⟨hb.os, hb.tape, hb.output, hb.size, fun k hk _ => hb.block k hk⟩ (by simp)⟩
/-- Is a text among others? -/
def inL (S : List ByteArray) (k : ByteArray) : Bool := S.any fun s => decide (k = s)
theorem metD_at (k : ByteArray) : ∀ (S : List ByteArray) (D : DataW Unit) (b : Bool), IsMap D → (∀ z, D.atKey (keyL k) z = if b then yes else z) →
    ∀ z, (S.foldl (fun D s => D.put (keyL s) yes) D).atKey (keyL k) z = if (b || inL S k) then yes else z
  | [], D, b, _, h => fun z => by
    have := h z
    simpa [inL] using this
  | s :: S, D, b, hD, h => fun z => by
    have h1 := metD_at k S (D.put (keyL s) yes) (b || decide (k = s)) (hD.put _ _) (fun z => by
      by_cases e : k = s
      · rw [e, atKey_put_same hD (isKey s)]
        simp
      · rw [atKey_put_other (fun h2 => e (keyL_inj h2)), h z]
        simp [e]) z
    rw [List.foldl_cons, h1]
    have e : (b || decide (k = s) || inL S k) = (b || inL (s :: S) k) := by
      rw [Bool.or_assoc]
      rfl
    rw [e]
theorem metD_look (S : List ByteArray) (k : ByteArray) (z : DataW Unit) : (metD S).atKey (keyL k) z = if inL S k then yes else z := by
  have := metD_at k S (.map []) false isMap_empty (fun _ => rfl) z
  rw [Bool.false_or] at this
  exact this
set_option maxRecDepth 10000 in
theorem zeroBool (w : World) : (zeroValue 4).run Tryd.prog w = .ok (.bool false) w := by kernel_rfl
set_option maxRecDepth 10000 in
theorem plainElem_bool_inv {v : Value} {z : DataW Unit × List MemPlace} (h : plainElem Tryd.prog 4 v = some z) : ∃ b, v = .bool b ∧ z = (.lit (.bool b), []) := by
  unfold plainElem at h
  rw [Tryd.underlying4] at h
  cases v <;> simp at h
  exact ⟨_, rfl, h.symm⟩
set_option maxRecDepth 10000 in
theorem look_met {w : World} {B n : Nat} {S : List ByteArray} (h : MetOf w B n (metD S)) (k : ByteArray) (hk : k.size ≤ maxLen) :
    (Instr.lookup 81 (.map (some B)) (.string k) false).run Tryd.prog w = .ok (.bool (inL S k)) w := by
  obtain ⟨es, clock, hb, F, hn, hD⟩ := h.own
  have hat := metD_look S k
  rw [hD] at hat
  rcases fit_look false keyed Tryd.underlying81 (zeroBool w) hb F (WideMaps.keyOf_string_mk Tryd.underlying9 hk) with ⟨h1, _, h3⟩ | ⟨e0, y, _, _, h1, h2, h3, _⟩
  · rw [h1]
    have h4 := (h3 .nil).symm.trans (hat .nil)
    cases hc : inL S k with
    | false => rfl
    | true => rw [hc] at h4; cases h4
  · rw [h1]
    obtain ⟨b, hb1, hb2⟩ := plainElem_bool_inv h2
    have h4 := (h3 .nil).symm.trans (hat .nil)
    rw [hb2] at h4
    cases hc : inL S k with
    | false => rw [hc] at h4; cases h4
    | true =>
      rw [hc] at h4
      have h5 : (DataW.lit (.bool b) : DataW Unit) = .lit (.bool true) := h4
      injection h5 with h5
      injection h5 with h5
      rw [hb1, h5]
      rfl
def signsP (p : List PB) : List ByteArray := p.map (·.sign)
theorem take_nextP {p : List PB} {k : Nat} {x : PB} (hx : p[k]? = some x) : p.take (k + 1) = p.take k ++ [x] := by
  obtain ⟨h, e⟩ := List.getElem?_eq_some_iff.1 hx
  rw [List.take_succ_eq_append_getElem h, e]
theorem okP_met {p : List PB} {k : Nat} {x : PB} (hx : p[k]? = some x) : okP p k = (fitsB x k && !inL (signsP (p.take k)) x.sign) := by
  unfold okP
  rw [hx]
  simp only
  congr 1
  rw [Bool.eq_iff_iff, List.all_eq_true]
  constructor
  · intro h
    rw [Bool.not_eq_true']
    unfold inL signsP
    rw [List.any_eq_false]
    intro s hs2
    obtain ⟨y, hy, rfl⟩ := List.mem_map.1 hs2
    have := h y hy
    simp only [decide_eq_true_eq] at this ⊢
    exact fun e => this e.symm
  · intro h y hy
    rw [Bool.not_eq_true'] at h
    unfold inL signsP at h
    rw [List.any_eq_false] at h
    have := h y.sign (List.mem_map.2 ⟨y, hy, rfl⟩)
    simp only [decide_eq_true_eq] at this ⊢
    exact fun e => this e.symm
set_option maxRecDepth 10000 in
set_option maxHeartbeats 2000000 in
theorem Valid_any (v : Value) (p : List PB) (w : World) (h : RP w v p) (hs : FitsP p) (hn : p.length ≤ maxLen) :
    Calls Tryd.prog 37 #[v] w fun e w' => e = .returned (.bool (validP p)) ∧ Below w.heap.size w w' := by
  unfold maxLen at hn
  obtain ⟨g, cap, rfl, _, hc⟩ := h
  have HC := Lib.hid hc
  clear hc
  by_cases h1 : 1 ≤ p.length ∧ p.length ≤ 100
  · obtain ⟨X, hX⟩ : ∃ X, validP p = X := ⟨_, rfl⟩
    have HBAD : Kq (∀ k, k < p.length → okP p k = false → X = false) := ⟨fun k hk h => by rw [← hX]; exact validP_bad hk h⟩
    have HYES : Kq ((List.range p.length).all (okP p) = true → X = true) := ⟨fun h => by rw [← hX]; exact validP_yes h1 h⟩
    rw [hX]
    obtain ⟨h2, h3⟩ := h1
    have t1 : ((p.length : Int) == 0) = false := by rw [beq_eq_false_iff_ne]; omega
    have hmm := made_hintB
    clear hX
    go_enter Tryd.func37, Tryd.ntmps37
    go_wp2
    clear hmm t1
    go_loopw [19] (fun i wr => ∃ k : Nat, k ≤ p.length ∧ i = .int .i64 (k : Int) ∧ MetOf wr w.heap.size k (metD (signsP (p.take k))) ∧ Kq ((List.range k).all (okP p) = true) ∧ Below w.heap.size w wr) (fun i _ => p.length - (intOf i).toNat)
    case atStart => exact ⟨0, Nat.zero_le _, rfl, ⟨World.ownsMap_made _ _ _ _⟩, ⟨rfl⟩, (Below.refl _ w).alloc (Nat.le_refl _) _⟩
    case round =>
      obtain ⟨k, hk, rfl, hown, HALL, hb⟩ := hrel
      have HB := Lib.hid hb
      have hz := hb.size
      clear hb
      by_cases hlt : k < p.length
      · obtain ⟨x, hx⟩ : ∃ x, p[k]? = some x := ⟨p[k], List.getElem?_eq_getElem hlt⟩
        obtain ⟨b, o, lv, hg, hbl, hb1, hb2, hb3, hlab⟩ := HC.out k x hx
        subst hg
        have hfit := hs.out x (List.mem_of_getElem? hx)
        have c1 : wr.cell? ⟨b, o + k * 3, none⟩ = some (.string x.sign) := (HB.out.cell (p := ⟨b, _, none⟩) hbl).trans hb1
        have c2 : wr.cell? ⟨b, o + k * 3 + 1, none⟩ = some (.int .i64 x.from_) := (HB.out.cell (p := ⟨b, _, none⟩) hbl).trans hb2
        have c3 : wr.cell? ⟨b, o + k * 3 + 2, none⟩ = some lv := (HB.out.cell (p := ⟨b, _, none⟩) hbl).trans hb3
        have hok := okP_met hx
        have HS : Kq (signsP (p.take (k + 1)) = signsP (p.take k) ++ [x.sign]) := ⟨by rw [take_nextP hx]; simp [signsP]⟩
        obtain ⟨W, hW⟩ : ∃ W, wr.alloc (Obj.cells #[Value.string x.sign, .int .i64 x.from_, lv] 52) = W := ⟨_, rfl⟩
        have b1 : W.cell? ⟨wr.heap.size, 0, none⟩ = some (.string x.sign) := by rw [← hW]; simp [go_sem]
        have b2 : W.cell? ⟨wr.heap.size, 1, none⟩ = some (.int .i64 x.from_) := by rw [← hW]; simp [go_sem]
        have b3 : W.cell? ⟨wr.heap.size, 2, none⟩ = some lv := by rw [← hW]; simp [go_sem]
        have HBW : Kq (Below w.heap.size w W) := ⟨by rw [← hW]; exact HB.out.alloc hz _⟩
        have hmet : MetOf W w.heap.size k (metD (signsP (p.take k))) := ⟨by rw [← hW]; exact hown.own.alloc _⟩
        have hlk := look_met hmet x.sign hfit.sign
        have HF : Kq _ := ⟨fits_any x.sign x.from_ lv x.label k W (hlab.below HBW.out) hfit.sign hfit.label⟩
        have hkey : Kq (keyOf Tryd.prog 9 (.string x.sign) = some (keyL x.sign)) := ⟨WideMaps.keyOf_string_mk Tryd.underlying9 hfit.sign⟩
        obtain ⟨g2, cl2, rfl⟩ := hlab.shape
        obtain ⟨C, hC⟩ : ∃ C, inL (signsP (p.take k)) x.sign = C := ⟨_, rfl⟩
        obtain ⟨Y, hY⟩ : ∃ Y, fitsB x k = Y := ⟨_, rfl⟩
        rw [hC] at hlk hok
        rw [hY] at hok HF
        have HMET : Kq (MetOf W w.heap.size k (metD (signsP (p.take k)))) := ⟨hmet⟩
        have HOK : Kq (okP p k = (Y && !C)) := ⟨hok⟩
        clear hb1 hb2 hb3 hx hfit hown hlab hmet hC hY hok
        cases C with
        | true =>
          have hX := HBAD.out k hlt (by rw [HOK.out]; simp)
          subst hX
          go_wp2
          go_ret
          exact ⟨rfl, HBW.out⟩
        | false =>
          go_wp2_with fail
          refine Calls.mono HF.out ?_
          rintro e w1 ⟨rfl, hb1⟩
          have HB1 : Kq (Below w.heap.size w w1) := ⟨HBW.out.trans (hb1.mono HBW.out.size)⟩
          have HM1 : Kq (MetOf w1 w.heap.size k (metD (signsP (p.take k)))) := ⟨HMET.out.below hb1⟩
          have d1 : w1.cell? ⟨wr.heap.size, 0, none⟩ = some (.string x.sign) := (hb1.cell (p := ⟨wr.heap.size, 0, none⟩) (by rw [← hW]; simp)).trans b1
          clear hb1 HF b1 b2 b3 hlk
          cases Y with
          | false =>
            have hX := HBAD.out k hlt (by rw [HOK.out]; rfl)
            subst hX
            go_wp2
            go_ret
            exact ⟨rfl, HB1.out⟩
          | true =>
            have HALL2 : Kq ((List.range (k + 1)).all (okP p) = true) := ⟨rangeP HALL.out (by rw [HOK.out]; rfl)⟩
            have hown1 := HM1.out.own
            have hkm : k < maxLen := by unfold maxLen; omega
            go_wp2_with (at_mapUpdate; refine wpList_mapUpdate_own _ rfl _ _ _ 81 rfl 9 4 keyed Tryd.underlying81 (plainElem Tryd.prog 4) w.heap.size k _ rfl hown1 hkm _ _ (keyL x.sign) rfl rfl hkey.out yes [] (plainElem_bool Tryd.underlying4 true) ?_; intro w2 hown2 hgrow2)
            have HB2 : Kq (Below w.heap.size w w2) := ⟨HB1.out.grown hgrow2 HB1.out.size (fun j e => by cases e; exact Nat.le_refl _)⟩
            have HM2 : Kq (MetOf w2 w.heap.size (k + 1) (metD (signsP (p.take (k + 1))))) := ⟨⟨by rw [HS.out, metD_snoc]; exact hown2⟩⟩
            clear hown2 hgrow2 hown1
            go_wp2
            go_roundw
            case rel => exact ⟨k + 1, by omega, by go_num, HM2.out, HALL2, HB2.out⟩
            case measure => simp [intOf]; omega
      · have hkl : k = p.length := by omega
        have hX := HYES.out (by have := HALL.out; rw [hkl] at this; exact this)
        subst hX
        clear hkl hown
        go_wp2
        go_ret
        exact ⟨rfl, HB.out⟩
  · have hv := validP_len h1
    obtain ⟨X, hX⟩ : ∃ X, validP p = X := ⟨_, rfl⟩
    rw [hX] at hv ⊢
    subst hv
    clear hX HC hs
    go_enter Tryd.func37, Tryd.ntmps37
    by_cases h2 : p.length = 0
    · have t1 : ((p.length : Int) == 0) = true := by simp [h2]
      clear h1 h2
      go_wp2
      go_ret
      exact ⟨rfl, Below.refl _ _⟩
    · have t1 : ((p.length : Int) == 0) = false := by rw [beq_eq_false_iff_ne]; omega
      have t2 : (100 : Int) < (p.length : Int) := by omega
      clear h1 h2
      go_wp2
      go_ret
      exact ⟨rfl, Below.refl _ _⟩
end Go.Proofs.YtjdcdakedoljbaaDoor.Mk
