/-
  THE WALKS of among and SameParts; what MarkNever says, in plain words; THE WALK of the law.
-/
import Derived.Test.YtjdcdakedoljbaaDoorMkDataP
import Derived.Test.YtjdcdakedoljbaaDoorMkSameL
import Derived.Lib.QuietBelow
import Derived.Deep.QuietTactic
import Derived.BigQuiet
import Derived.Test.YtjdcdakedoljbaaDoorMkPtLaw
import Derived.Test.YtjdcdakedoljbaaDoorMkNevP
namespace Go.Proofs.YtjdcdakedoljbaaDoor.Mk
open Go Go.RowKit Go.Maps Go.Sort

theorem mem_take_succ {A : List FB} {j : Nat} {f g : FB} (hg : A[j]? = some g) : f ∈ A.take (j + 1) ↔ f ∈ A.take j ∨ f = g := by
  obtain ⟨hj, e⟩ := List.getElem?_eq_some_iff.1 hg
  rw [List.take_succ_eq_append_getElem hj, e, List.mem_append, List.mem_singleton]
theorem no_more {P Q R : Prop} (h : Q ↔ P ∨ R) (h1 : ¬ P) (h2 : ¬ R) : false = true ↔ Q :=
  ⟨fun e => absurd e (by decide), fun q => absurd (h.1 q) fun hh => hh.elim h1 h2⟩
set_option maxRecDepth 100000 in
set_option maxHeartbeats 4000000 in
theorem among_yes (va vb : Value) (A L : List FB) (w : World) (ha : RL w va A) (hb : RL w vb L) (hA : A.length ≤ 1000) (hL : L.length ≤ 1000) (hall : ∀ f ∈ L, f ∈ A) :
    Calls Tryd.prog 43 #[va, vb] w fun e w' => e = .returned (.bool true) ∧ Below w.heap.size w w' := by
  obtain ⟨ga, ca, rfl, h1⟩ := ha
  obtain ⟨gb, cb, rfl, h2⟩ := hb
  have HA := Lib.hid h1
  have HB0 := Lib.hid h2
  have HALL := Kq.mk hall
  clear h1 h2 hall
  go_enter Tryd.func43, Tryd.ntmps43
  go_wp2
  go_loopw [12] (fun i wr => ∃ k : Nat, k ≤ L.length ∧ i = .int .i64 (k : Int) ∧ Below w.heap.size w wr) (fun i _ => L.length - (intOf i).toNat)
  case atStart => exact ⟨0, Nat.zero_le _, rfl, Below.refl _ _⟩
  case round =>
    obtain ⟨k, hk, rfl, hb⟩ := hrel
    have HB : Kq (Below w.heap.size w wr) := ⟨hb⟩
    have hz := hb.size
    clear hb
    obtain ⟨W0, rfl⟩ : ∃ W0, W0 = wr := ⟨_, rfl⟩
    by_cases hlt : k < L.length
    · obtain ⟨f, hf⟩ : ∃ f, L[k]? = some f := ⟨L[k], List.getElem?_eq_getElem hlt⟩
      have HF : Kq (f ∈ A) := ⟨HALL.out f (List.mem_of_getElem? hf)⟩
      obtain ⟨b, o, hg, hbl, hb1, hb2⟩ := HB0.out k f hf
      subst hg
      have c1 : W0.cell? ⟨b, o + k * 2, none⟩ = some (.string f.1) := (HB.out.cell (p := ⟨b, _, none⟩) hbl).trans hb1
      have c2 : W0.cell? ⟨b, o + k * 2 + 1, none⟩ = some (.string f.2) := (HB.out.cell (p := ⟨b, _, none⟩) hbl).trans hb2
      obtain ⟨W, hW⟩ : ∃ W, W0.alloc (Obj.cells #[Value.string f.1, .string f.2] 70) = W := ⟨_, rfl⟩
      have HBW : Kq (Below w.heap.size w W) := ⟨by rw [← hW]; exact HB.out.alloc hz _⟩
      have d1 : W.cell? ⟨W0.heap.size, 0, none⟩ = some (.string f.1) := by rw [← hW]; simp [go_sem]
      have d2 : W.cell? ⟨W0.heap.size, 1, none⟩ = some (.string f.2) := by rw [← hW]; simp [go_sem]
      clear hf hb1 hb2
      go_wp2_with fail
      clear hW c1 c2
      go_loopw [18, 7] (fun a v wr => ∃ (j : Nat) (ib : Bool), j ≤ A.length ∧ a = .int .i64 (j : Int) ∧ v = .bool ib ∧ Kq (ib = true ↔ f ∈ A.take j) ∧ Below w.heap.size w wr ∧ wr.cell? ⟨W0.heap.size, 0, none⟩ = some (.string f.1) ∧ wr.cell? ⟨W0.heap.size, 1, none⟩ = some (.string f.2)) (fun a _ _ => A.length - (intOf a).toNat)
      case atStart => exact ⟨0, false, Nat.zero_le _, rfl, rfl, ⟨by simp⟩, HBW.out, d1, d2⟩
      case round =>
        obtain ⟨j, ib, hj, rfl, rfl, HIB, hb3, e1, e2⟩ := hrel
        have HB3 : Kq (Below w.heap.size w wr) := ⟨hb3⟩
        have hz3 := hb3.size
        clear hb3 d1 d2
        by_cases hlj : j < A.length
        · obtain ⟨g, hg⟩ : ∃ g, A[j]? = some g := ⟨A[j], List.getElem?_eq_getElem hlj⟩
          obtain ⟨b', o', hg', hbl', hb1', hb2'⟩ := HA.out j g hg
          subst hg'
          have q1 : wr.cell? ⟨b', o' + j * 2, none⟩ = some (.string g.1) := (HB3.out.cell (p := ⟨b', _, none⟩) hbl').trans hb1'
          have q2 : wr.cell? ⟨b', o' + j * 2 + 1, none⟩ = some (.string g.2) := (HB3.out.cell (p := ⟨b', _, none⟩) hbl').trans hb2'
          have e1' : (wr.alloc (Obj.cells #[Value.string g.1, .string g.2] 70)).cell? ⟨W0.heap.size, 0, none⟩ = some (.string f.1) := Lib.cell?_alloc_some _ e1
          have e2' : (wr.alloc (Obj.cells #[Value.string g.1, .string g.2] 70)).cell? ⟨W0.heap.size, 1, none⟩ = some (.string f.2) := Lib.cell?_alloc_some _ e2
          have HB4 : Kq (Below w.heap.size w (wr.alloc (Obj.cells #[Value.string g.1, .string g.2] 70))) := ⟨HB3.out.alloc hz3 _⟩
          have HST : Kq (f ∈ A.take (j + 1) ↔ f ∈ A.take j ∨ f = g) := ⟨mem_take_succ hg⟩
          have HFG : Kq (f = g ↔ f.1 = g.1 ∧ f.2 = g.2) := ⟨Prod.ext_iff⟩
          clear hg hb1' hb2' e1 e2
          cases ib with
          | true =>
            have HN : Kq (true = true ↔ f ∈ A.take (j + 1)) := ⟨⟨fun _ => HST.out.2 (.inl (HIB.out.1 (by trivial))), fun _ => by trivial⟩⟩
            go_wp2
            go_roundw
            case rel => exact ⟨j + 1, true, by omega, by go_num, rfl, HN, HB4.out, e1', e2'⟩
            case measure => simp [intOf]; omega
          | false =>
            have HNI : Kq (f ∉ A.take j) := ⟨fun h => absurd (HIB.out.2 h) (by decide)⟩
            by_cases h1 : f.1 = g.1
            · have t1 : (f.1.toList == g.1.toList) = true := toList_eq.2 h1
              by_cases h2 : f.2 = g.2
              · have t2 : (f.2.toList == g.2.toList) = true := toList_eq.2 h2
                have HN : Kq (true = true ↔ f ∈ A.take (j + 1)) := ⟨⟨fun _ => HST.out.2 (.inr (HFG.out.2 ⟨h1, h2⟩)), fun _ => by trivial⟩⟩
                clear h1 h2
                go_wp2
                go_roundw
                case rel => exact ⟨j + 1, true, by omega, by go_num, rfl, HN, HB4.out, e1', e2'⟩
                case measure => simp [intOf]; omega
              · have t2 : (f.2.toList == g.2.toList) = false := toList_ne h2
                have HN : Kq (false = true ↔ f ∈ A.take (j + 1)) := ⟨no_more HST.out HNI.out fun h3 => h2 (HFG.out.1 h3).2⟩
                clear h1 h2
                go_wp2
                go_roundw
                case rel => exact ⟨j + 1, false, by omega, by go_num, rfl, HN, HB4.out, e1', e2'⟩
                case measure => simp [intOf]; omega
            · have t1 : (f.1.toList == g.1.toList) = false := toList_ne h1
              have HN : Kq (false = true ↔ f ∈ A.take (j + 1)) := ⟨no_more HST.out HNI.out fun h3 => h1 (HFG.out.1 h3).1⟩
              clear h1
              go_wp2
              go_roundw
              case rel => exact ⟨j + 1, false, by omega, by go_num, rfl, HN, HB4.out, e1', e2'⟩
              case measure => simp [intOf]; omega
        · have hin : ib = true := HIB.out.2 (by
            rw [List.take_of_length_le (by omega)]
            exact HF.out)
          subst hin
          go_wp2
          go_roundw
          case rel => exact ⟨k + 1, by omega, by go_num, HB3.out⟩
          case measure => simp [intOf]; omega
    · have hkl : k = L.length := by omega
      have HK := Lib.hid hkl
      clear hkl
      go_wp2
      go_ret
      exact ⟨rfl, HB.out⟩

set_option maxRecDepth 100000 in
set_option maxHeartbeats 4000000 in
theorem sameP_yes (v u : Value) (p : List PB) (w : World) (hn : p.length ≤ 1000) (hl : ∀ x ∈ p, x.label.length ≤ 1000) (h1 : RP w v p) (h2 : RP w u p) :
    Calls Tryd.prog 45 #[v, u] w fun e w' => e = .returned (.bool true) ∧ Below w.heap.size w w' := by
  obtain ⟨g, cap, rfl, _, hc1⟩ := h1
  obtain ⟨g', cap', rfl, _, hc2⟩ := h2
  have H1 := Lib.hid hc1
  have H2 := Lib.hid hc2
  have HLN := Kq.mk hl
  clear hc1 hc2 hl
  have hlen : ((p.length : Int) != (p.length : Int)) = false := by simp
  go_enter Tryd.func45, Tryd.ntmps45
  go_wp2
  go_loopw [13] (fun i wr => ∃ k : Nat, k ≤ p.length ∧ i = .int .i64 (k : Int) ∧ Below w.heap.size w wr) (fun i _ => p.length - (intOf i).toNat)
  case atStart => exact ⟨0, Nat.zero_le _, rfl, Below.refl _ _⟩
  case round =>
    obtain ⟨k, hk, rfl, hb⟩ := hrel
    have HB : Kq (Below w.heap.size w wr) := ⟨hb⟩
    have hz := hb.size
    clear hb
    by_cases hlt : k < p.length
    · obtain ⟨x, hx⟩ : ∃ x, p[k]? = some x := ⟨p[k], List.getElem?_eq_getElem hlt⟩
      obtain ⟨b, o, lv, hg, hbl, hb1, hb2, hb3, hlab⟩ := H1.out k x hx
      obtain ⟨b', o', lv', hg', hbl', hb1', hb2', hb3', hlab'⟩ := H2.out k x hx
      subst hg
      subst hg'
      have HS : Kq (∀ W, Below wr.heap.size wr W → _) := ⟨fun W hW => sameL_yes lv lv' x.label W (HLN.out x (List.mem_of_getElem? hx)) (hlab.below (HB.out.trans (hW.mono hz))) (hlab'.below (HB.out.trans (hW.mono hz)))⟩
      obtain ⟨g1, l1, rfl⟩ := hlab.shape
      obtain ⟨g2, l2, rfl⟩ := hlab'.shape
      have c1 : wr.cell? ⟨b, o + k * 3, none⟩ = some (.string x.sign) := (HB.out.cell (p := ⟨b, _, none⟩) hbl).trans hb1
      have c2 : wr.cell? ⟨b, o + k * 3 + 1, none⟩ = some (.int .i64 x.from_) := (HB.out.cell (p := ⟨b, _, none⟩) hbl).trans hb2
      have c3 : wr.cell? ⟨b, o + k * 3 + 2, none⟩ = some (.slice g1 x.label.length l1) := (HB.out.cell (p := ⟨b, _, none⟩) hbl).trans hb3
      have c4 : wr.cell? ⟨b', o' + k * 3, none⟩ = some (.string x.sign) := (HB.out.cell (p := ⟨b', _, none⟩) hbl').trans hb1'
      have c5 : wr.cell? ⟨b', o' + k * 3 + 1, none⟩ = some (.int .i64 x.from_) := (HB.out.cell (p := ⟨b', _, none⟩) hbl').trans hb2'
      have c6 : wr.cell? ⟨b', o' + k * 3 + 2, none⟩ = some (.slice g2 x.label.length l2) := (HB.out.cell (p := ⟨b', _, none⟩) hbl').trans hb3'
      have t1 : (x.sign.toList == x.sign.toList) = true := by simp
      have t2 : (x.from_ != x.from_) = false := by simp
      have o1 : (k : Int) < (p.length : Int) := by omega
      have HSG : Kq (∀ d os, _) := ⟨fun d os => HS.out (grow (redrawn wr d) os) (below_regrown wr d os)⟩
      clear hx hb1 hb2 hb3 hb1' hb2' hb3' hlab hlab' HS
      have q1 := fun d os => cell_regrown c1 d os
      have q2 := fun d os => cell_regrown c2 d os
      have q3 := fun d os => cell_regrown c3 d os
      have q4 := fun d os => cell_regrown c4 d os
      have q5 := fun d os => cell_regrown c5 d os
      have q6 := fun d os => cell_regrown c6 d os
      go_wp2_with fail
      refine wp_region_quiet_below (by kernel_rfl) (by kernel_rfl) ?_
      repeat (any_goals (first | go_big_quiet_step (with_reducible exact Calls.regrown_of (HSG.out _ _)) | quiet_step (with_reducible exact Calls.regrown_of (HSG.out _ _))))
      refine wpQuiet_nil ?_
      intro _ hw'
      obtain ⟨⟨dq, osq⟩, hw''⟩ := hw'
      subst hw''
      go_wp2
      go_roundw
      case rel => exact ⟨k + 1, by omega, by go_num, HB.out.trans ((below_regrown wr dq osq).mono hz)⟩
      case measure => simp [intOf]; omega
    · have hkl : k = p.length := by omega
      have HK := Lib.hid hkl
      clear hkl
      go_wp2
      go_ret
      exact ⟨rfl, HB.out⟩

theorem snoc_at {p : List PB} {n : PB} {k : Nat} (hk : k < p.length) : (p ++ [n])[k]? = p[k]? := List.getElem?_append_left hk
theorem snoc_end (p : List PB) (n : PB) : (p ++ [n])[p.length]? = some n := by simp
theorem okP_snoc {p : List PB} {n : PB} {k : Nat} (hk : k < p.length) : okP (p ++ [n]) k = okP p k := by
  unfold okP
  rw [snoc_at hk, List.take_append_of_le_length (by omega)]
theorem validP_snoc {p : List PB} {n : PB} (hv : validP p = true) (h100 : p.length < 100) (hf : fitsB n p.length = true) (hs : ∀ y ∈ p, y.sign ≠ n.sign) : validP (p ++ [n]) = true := by
  have h1 := validP_size hv
  refine validP_yes (by simp; omega) ?_
  rw [List.length_append, List.length_singleton]
  refine rangeP ?_ ?_
  · rw [List.all_eq_true]
    intro k hk
    have hk' := List.mem_range.1 hk
    rw [okP_snoc hk']
    unfold validP at hv
    rw [Bool.and_eq_true, List.all_eq_true] at hv
    exact hv.2 k hk
  · unfold okP
    rw [snoc_end, List.take_append_of_le_length (Nat.le_refl _), List.take_length]
    simp only [hf, Bool.true_and, List.all_eq_true, decide_eq_true_eq]
    exact hs
theorem par_snoc {p : List PB} {n : PB} {k : Nat} (hk : k < p.length) : par (p ++ [n]) k = par p k := by
  unfold par
  rw [snoc_at hk]
theorem under_snoc {p : List PB} {n : PB} (hv : validP p = true) (i : Nat) : ∀ (m k : Nat), k < p.length → under (p ++ [n]) i m k = under p i m k
  | 0, _, _ => rfl
  | m + 1, k, hk => by
    simp only [under]
    by_cases h : i < k
    · rw [if_pos h, if_pos h, par_snoc hk]
      have := (par_lt hv hk (by omega)).1
      exact under_snoc hv i m (par p k) (by omega)
    · rw [if_neg h, if_neg h]
theorem underB_snoc {p : List PB} {n : PB} (hv : validP p = true) {i k : Nat} (hk : k < p.length) : underB (p ++ [n]) i k = underB p i k := under_snoc hv i k k hk
theorem relB_snoc {p : List PB} {n : PB} (hv : validP p = true) {i k : Nat} (hi : i < p.length) (hk : k < p.length) : relB (p ++ [n]) i k = relB p i k := by
  unfold relB
  rw [underB_snoc hv hk, underB_snoc hv hi]
theorem relB_end {p : List PB} {n : PB} {k0 : Nat} (hv : validP p = true) (hvt : validP (p ++ [n]) = true) (hf : n.from_ = (k0 : Int)) (hk0 : k0 < p.length) {i : Nat} (hi : i < p.length) : relB (p ++ [n]) i p.length = underB p i k0 := by
  unfold relB
  rw [underB_low (i := p.length) (k := i) (by omega), decide_eq_false (show ¬ i = p.length by omega), Bool.or_false, underB_step hvt (by simp) hi]
  have : par (p ++ [n]) p.length = k0 := by
    unfold par
    rw [snoc_end]
    simp [hf]
  rw [this, underB_snoc hv hk0]
theorem dataOf_snoc {p : List PB} {n x0 : PB} {k0 : Nat} (hv : validP p = true) (hvt : validP (p ++ [n]) = true) (hf : n.from_ = (k0 : Int)) (hx0 : p[k0]? = some x0) (hl : n.label = x0.label) {i : Nat} (hi : i < p.length) (f : FB) :
    DataOf (p ++ [n]) i (p ++ [n]).length f ↔ DataOf p i p.length f := by
  have hk0 := (List.getElem?_eq_some_iff.1 hx0).1
  constructor
  · rintro ⟨j, x, hj, hx, hr, hfx⟩
    rw [List.length_append, List.length_singleton] at hj
    by_cases h : j < p.length
    · rw [snoc_at h] at hx
      rw [relB_snoc hv hi h] at hr
      exact ⟨j, x, h, hx, hr, hfx⟩
    · obtain rfl : j = p.length := by omega
      rw [snoc_end] at hx
      simp only [Option.some.injEq] at hx
      rw [relB_end hv hvt hf hk0 hi] at hr
      refine ⟨k0, x0, hk0, hx0, ?_, ?_⟩
      · unfold relB
        rw [hr]
        rfl
      · rw [← hl, hx]
        exact hfx
  · rintro ⟨j, x, hj, hx, hr, hfx⟩
    exact ⟨j, x, by simp; omega, by rw [snoc_at hj]; exact hx, by rw [relB_snoc hv hi hj]; exact hr, hfx⟩
theorem dataRes_snoc {p : List PB} {n x0 : PB} {k0 : Nat} (hv : validP p = true) (hvt : validP (p ++ [n]) = true) (hf : n.from_ = (k0 : Int)) (hx0 : p[k0]? = some x0) (hl : n.label = x0.label) {i : Nat} (hi : i < p.length) {O : List FB} (h : DataRes p i (some O)) : DataRes (p ++ [n]) i (some O) :=
  ⟨h.1, fun f => by rw [h.2 f, dataOf_snoc hv hvt hf hx0 hl hi]⟩
/-- What Data without an error says. -/
theorem dataSum_ok {p : List PB} {i : Int} {L : List FB} (h : DataSum p i L 0) : askE p i = 0 ∧ DataRes p i.toNat (some L) := by
  unfold DataSum at h
  by_cases h0 : askE p i = 0
  · rw [if_pos h0] at h
    obtain ⟨r, h1, h2, h3⟩ := h
    cases r with
    | none => simp [errData] at h3
    | some O =>
      simp only [encData] at h2
      rw [h2]
      exact ⟨h0, h1⟩
  · rw [if_neg h0] at h
    exact absurd h.2.symm h0
theorem dataSum_mk {p : List PB} {k : Nat} {L : List FB} (hv : validP p = true) (hk : k < p.length) (h : DataRes p k (some L)) : DataSum p (k : Int) L 0 := by
  unfold DataSum
  have h0 : askE p (k : Int) = 0 := by
    unfold askE
    rw [hv, if_pos rfl, if_pos ⟨by omega, by omega⟩]
  rw [if_pos h0]
  exact ⟨some L, by simpa using h, rfl, rfl⟩
theorem dataSum_snoc {p : List PB} {n x0 : PB} {k0 : Nat} (hv : validP p = true) (hvt : validP (p ++ [n]) = true) (hf : n.from_ = (k0 : Int)) (hx0 : p[k0]? = some x0) (hl : n.label = x0.label) {i : Int} {L : List FB} (h : DataSum p i L 0) : DataSum (p ++ [n]) i L 0 := by
  obtain ⟨h1, h2⟩ := dataSum_ok h
  obtain ⟨_, k, rfl, hk⟩ := askE_zero h1
  rw [Int.toNat_natCast] at h2
  exact dataSum_mk hvt (by simp; omega) (dataRes_snoc hv hvt hf hx0 hl hk h2)
theorem underB_zero {p : List PB} (hv : validP p = true) : ∀ (m k : Nat), k ≤ m → k < p.length → underB p 0 k = true
  | m, 0, _, _ => by
    rw [underB_low (Nat.lt_irrefl _)]
    rfl
  | 0, k + 1, h, _ => by omega
  | m + 1, k + 1, h, hk => by
    have hp := (par_lt hv hk (by omega)).1
    rw [underB_step hv hk (by omega)]
    exact underB_zero hv m (par p (k + 1)) (by omega) (by omega)
/-- Data of a part are among those of the whole. -/
theorem data_whole {p : List PB} {i : Int} {D W : List FB} (h : DataSum p i D 0) (h2 : DataSum p 0 W 0) : ∀ f ∈ D, f ∈ W := by
  obtain ⟨h1, h3⟩ := dataSum_ok h
  obtain ⟨_, h4⟩ := dataSum_ok h2
  obtain ⟨hv, _⟩ := askE_zero h1
  intro f hf
  obtain ⟨k, x, hk, hx, _, hfx⟩ := (h3.2 f).1 hf
  refine (h4.2 f).2 ⟨k, x, hk, hx, ?_, hfx⟩
  unfold relB
  rw [show (0 : Int).toNat = 0 from rfl, underB_zero hv k k (Nat.le_refl _) hk]
  rfl
/-- Each label is among its part's data. -/
theorem data_label {p : List PB} {k : Nat} {x : PB} {D : List FB} (h : DataSum p (k : Int) D 0) (hx : p[k]? = some x) : ∀ f ∈ x.label, f ∈ D := by
  obtain ⟨_, h3⟩ := dataSum_ok h
  rw [Int.toNat_natCast] at h3
  intro f hf
  refine (h3.2 f).2 ⟨k, x, (List.getElem?_eq_some_iff.1 hx).1, hx, ?_, hf⟩
  unfold relB
  rw [underB_low (Nat.lt_irrefl _)]
  simp

/-- What is known of the parts with one more. -/
structure More (p : List PB) (n : PB) (u : Value) (lv : Value) (g c : Nat) (W : World) : Prop where
  val : u = .slice (some ⟨g, 0, none⟩) (p.length + 1) c
  rp : RP W u (p ++ [n])
  init : RP W (.slice (some ⟨g, 0, none⟩) p.length c) p
  from_ : W.cell? ⟨g, p.length * 3 + 1, none⟩ = some (.int .i64 n.from_)
  lab : W.cell? ⟨g, p.length * 3 + 2, none⟩ = some lv
  rl : RL W lv n.label
theorem more_of {B : Nat} {w W : World} {u lv : Value} {p : List PB} {q : List (PB × Value)} {n : PB} (h : RowP B w W u (q ++ [(n, lv)])) (hq : q.map Prod.fst = p) : ∃ g c, More p n u lv g c W := by
  have hl : q.length = p.length := by rw [← hq, List.length_map]
  have ht : (q ++ [(n, lv)]).map Prod.fst = p ++ [n] := by rw [List.map_append, hq]; rfl
  have hrp := h.rp
  rw [ht] at hrp
  obtain ⟨g, c, hu, _, _⟩ := h.own.form (by simp)
  have hu' : u = .slice (some ⟨g, 0, none⟩) (p.length + 1) c := by rw [hu, List.length_append, hl]; rfl
  have hrl : RL W lv n.label := RowF.rl (w := W) ⟨h.labs (n, lv) (by simp), ⟨rfl, rfl, rfl, Nat.le_refl _, fun _ _ => rfl⟩⟩
  obtain ⟨g', cap, hv, hcap, hat⟩ := hrp
  rw [hu'] at hv
  simp only [Value.slice.injEq] at hv
  obtain ⟨rfl, _, rfl⟩ := hv
  rw [List.length_append, List.length_singleton] at hcap
  have hcells := cellsP_at (q ++ [(n, lv)]) q.length (n, lv) (by simp)
  have hown := h.own
  rw [hu] at hown
  have hc : ∀ j x, (cellsP (q ++ [(n, lv)]))[j]? = some x → j < (q ++ [(n, lv)]).length * 3 → W.cell? ⟨g, j, none⟩ = some x := fun j x hx hj => by
    refine (hown.cellAt j hj).trans ?_
    simp [hx]
  refine ⟨g, c, hu', ⟨some ⟨g, 0, none⟩, c, by rw [hu', List.length_append]; rfl, by simpa using hcap, hat⟩, ⟨some ⟨g, 0, none⟩, c, rfl, by omega, fun i x hx => hat i x (by rw [snoc_at (List.getElem?_eq_some_iff.1 hx).1]; exact hx)⟩, ?_, ?_, hrl⟩
  · rw [← hl]
    exact hc _ _ hcells.2.1 (by simp; omega)
  · rw [← hl]
    exact hc _ _ hcells.2.2 (by simp; omega)
set_option maxRecDepth 100000 in
set_option maxHeartbeats 4000000 in
theorem never_law (v : Value) (p : List PB) (i k : Int) (s : ByteArray) (w : World) (h : RP w v p) (hs : FitsP p) (hn : p.length ≤ maxLen) (hss : s.size ≤ maxLen) (ht : Tab w) :
    Calls Tryd.prog 8 #[v, .int .i64 i, .int .i64 k, .string s] w (fun e w' => e = .returned (.bool true) ∧ Below w.heap.size w w') := by
  have HT := Lib.hid ht
  have hs1 : (s.size : Int) ≤ 9223372036854775807 := by unfold maxLen at hss; omega
  have H0 : Kq _ := ⟨few_any v p w h hs hn⟩
  have D1 : Kq (∀ W, Below w.heap.size w W → _) := ⟨fun W hW => Data_any v p i W (h.below hW) hs hn⟩
  have O1 : Kq (∀ W, Below w.heap.size w W → _) := ⟨fun W hW => Whole_any v p W (h.below hW) hs hn⟩
  have T1 : Kq (∀ W, Below w.heap.size w W → _) := ⟨fun W hW => Taken_any v p i s W (h.below hW) hs hn hss⟩
  have D2 : Kq (∀ W, Below w.heap.size w W → _) := ⟨fun W hW => Data_any v p k W (h.below hW) hs hn⟩
  have HRP : Kq (RP w v p) := ⟨h⟩
  have HFP : Kq (FitsP p ∧ s.size ≤ maxLen) := ⟨hs, hss⟩
  obtain ⟨g, cap, rfl, hcap, hc⟩ := h
  have HC := Lib.hid hc
  clear hs hn ht hss hc
  go_enter Tryd.func8, Tryd.ntmps8
  go_wp2_with fail
  refine H0.out.mono ?_
  rintro e w1 ⟨⟨sm, rfl⟩, hb1⟩
  have HB1 : Kq (Below w.heap.size w w1) := ⟨hb1⟩
  clear hb1 H0
  have AW : ∀ W, Below w.heap.size w W → Calls Tryd.prog 10 #[] W fun e w' => e = .returned (.bool true) ∧ Below w.heap.size w w' := fun W hW =>
    (awake_any _ (HT.out.below hW)).mono fun e w' ⟨h1, h2⟩ => ⟨h1, hW.trans (h2.mono hW.size)⟩
  have AWK := Kq.mk AW
  clear AW
  cases sm with
  | false =>
    go_wp2_with fail
    refine Calls.mono (AWK.out _ HB1.out) ?_
    rintro e w2 ⟨rfl, hb2⟩
    have HB2 := Kq.mk hb2
    clear hb2
    go_wp2
    go_ret
    exact ⟨rfl, HB2.out⟩
  | true =>
    by_cases hl : (1000 : Int) < (s.size : Int)
    · go_wp2_with fail
      refine Calls.mono (AWK.out _ HB1.out) ?_
      rintro e w2 ⟨rfl, hb2⟩
      have HB2 := Kq.mk hb2
      clear hb2
      go_wp2
      go_ret
      exact ⟨rfl, HB2.out⟩
    · go_wp2_with fail
      refine Calls.mono (D1.out w1 HB1.out) ?_
      rintro e w2 ⟨hp, hb2⟩
      have HB2 : Kq (Below w.heap.size w w2) := ⟨HB1.out.trans (hb2.mono HB1.out.size)⟩
      obtain ⟨u1, L1, F1, rfl, hr1, hl1, hd1⟩ := dataSum_of hp
      have HD1 : Kq (RL w2 u1 L1 ∧ L1.length ≤ 1000 ∧ DataSum p i L1 F1) := ⟨hr1, hl1, hd1⟩
      obtain ⟨gu1, cu1, rfl⟩ := hr1.shape
      clear hr1 hl1 hd1 hp hb2
      go_wp2_with fail
      refine Calls.mono (O1.out w2 HB2.out) ?_
      rintro e w3 ⟨hp, hb3⟩
      have HB3 : Kq (Below w.heap.size w w3) := ⟨HB2.out.trans (hb3.mono HB2.out.size)⟩
      obtain ⟨u2, L2, F2, rfl, hr2, hl2, hd2⟩ := hp
      have HD2 : Kq (RL w3 u2 L2 ∧ L2.length ≤ 1000 ∧ DataSum p 0 L2 F2) := ⟨hr2, hl2, hd2⟩
      have HR1 : Kq (RL w3 (.slice gu1 L1.length cu1) L1) := ⟨HD1.out.1.below hb3⟩
      obtain ⟨gu2, cu2, rfl⟩ := hr2.shape
      clear hr2 hl2 hd2 hb3
      by_cases h1 : F1 = 0
      · by_cases h2 : F2 = 0
        · subst h1
          subst h2
          obtain ⟨hv, k0, rfl, hk0⟩ := askE_zero (dataSum_ok HD1.out.2.2).1
          have HV : Kq (validP p = true) := ⟨hv⟩
          have hl100 := (validP_size hv).2
          obtain ⟨x0, hx0⟩ : ∃ x, p[k0]? = some x := ⟨p[k0], List.getElem?_eq_getElem hk0⟩
          have HX : Kq (p[k0]? = some x0) := ⟨hx0⟩
          obtain ⟨b, o, lv0, hg, hbl, hb1, hb2, hb3, hlab⟩ := HC.out k0 x0 hx0
          subst hg
          have HL0 : Kq (RL w lv0 x0.label ∧ x0.label.length ≤ 1000) := ⟨hlab, by have := valid_len (validP_at hv hx0).1; omega⟩
          obtain ⟨g0, c0, rfl⟩ := hlab.shape
          have CELL : Kq (∀ W, Below w.heap.size w W → W.cell? ⟨b, o + k0 * 3 + 2, none⟩ = some (.slice g0 x0.label.length c0)) := ⟨fun W hW => (hW.cell (p := ⟨b, _, none⟩) hbl).trans hb3⟩
          have o1 : (k0 : Int) < (p.length : Int) := by omega
          have o2 : (0 : Int) ≤ (k0 : Int) := by omega
          have N1 : Kq _ := ⟨among_yes _ _ L2 L1 w3 HD2.out.1 HR1.out HD2.out.2.1 HD1.out.2.1 (data_whole HD1.out.2.2 HD2.out.2.2)⟩
          clear hv hx0 hb1 hb2 hb3 hlab
          go_wp2_with fail
          refine Calls.mono N1.out ?_
          rintro e w4 ⟨rfl, hb4⟩
          have HB4 : Kq (Below w.heap.size w w4) := ⟨HB3.out.trans (hb4.mono HB3.out.size)⟩
          have N2 : Kq _ := ⟨among_yes _ _ L1 x0.label w4 (HR1.out.below hb4) (HL0.out.1.below HB4.out) HD1.out.2.1 HL0.out.2 (data_label HD1.out.2.2 HX.out)⟩
          have c4 := CELL.out w4 HB4.out
          clear hb4 N1
          go_wp2_with fail
          refine Calls.mono N2.out ?_
          rintro e w5 ⟨rfl, hb5⟩
          have HB5 : Kq (Below w.heap.size w w5) := ⟨HB4.out.trans (hb5.mono HB4.out.size)⟩
          clear hb5 N2 c4
          go_wp2_with fail
          refine Calls.mono (T1.out w5 HB5.out) ?_
          rintro e w6 ⟨hp, hb6⟩
          have HB6 : Kq (Below w.heap.size w w6) := ⟨HB5.out.trans (hb6.mono HB5.out.size)⟩
          clear hb6
          rcases hp with ⟨E, hE, rfl⟩ | ⟨k1, x1, u, q, lv, _, hwd, hns, h99, hk1, hx1, rfl, hrow, hq⟩
          · have t1 : (E == 0) = false := by simpa using hE
            have t2 : (E != 0) = true := by simpa using hE
            clear hE
            go_wp2_with fail
            refine Calls.mono (AWK.out _ HB6.out) ?_
            rintro e w7 ⟨rfl, hb7⟩
            have HB7 := Kq.mk hb7
            clear hb7
            go_wp2
            go_ret
            exact ⟨rfl, HB7.out⟩
          · obtain rfl : k1 = k0 := by omega
            obtain rfl : x1 = x0 := by
              have h1 := HX.out
              rw [hx1] at h1
              simpa using h1
            obtain ⟨g5, c5, hm⟩ := more_of hrow hq
            obtain rfl := hm.val
            have HM := Kq.mk hm
            have hvx := validP_at HV.out HX.out
            have hvt : validP (p ++ [⟨s, (k1 : Int), x1.label⟩]) = true := validP_snoc HV.out h99 (by
              unfold fitsB
              rw [decide_eq_true (show (0 : Int) ≤ (k1 : Int) ∧ (k1 : Int) < (p.length : Int) from ⟨o2, o1⟩), hwd, hvx.1]
              simp) hns
            have HVT := Kq.mk hvt
            have hft : FitsP (p ++ [⟨s, (k1 : Int), x1.label⟩]) := ⟨fun y hy => by
              rcases List.mem_append.1 hy with h1 | h1
              · exact HFP.out.1.out y h1
              · simp only [List.mem_singleton] at h1
                rw [h1]
                have := HFP.out.1.out x1 (List.mem_of_getElem? HX.out)
                exact ⟨HFP.out.2, this.label, this.len⟩⟩
            have DT : Kq (∀ W, Below w6.heap.size w6 W → _) := ⟨fun W hW => Data_any (.slice (some ⟨g5, 0, none⟩) (p.length + 1) c5) _ k W (hm.rp.below hW) hft (by simp; unfold maxLen; omega)⟩
            have hcap5 : (p.length : Int) ≤ (c5 : Int) := by
              obtain ⟨_, _, e, hle, _⟩ := hm.init
              simp only [Value.slice.injEq] at e
              omega
            have hlx : ∀ x ∈ p, x.label.length ≤ 1000 := fun x hx => by
              obtain ⟨j, hj⟩ := List.getElem?_of_mem hx
              have := valid_len (validP_at HV.out hj).1
              omega
            have S1 : Kq (∀ d os, _) := ⟨fun d os => sameP_yes (.slice (some ⟨g5, 0, none⟩) p.length c5) (.slice (some ⟨b, o, none⟩) p.length cap) p (grow (redrawn w6 d) os) (by omega) hlx (hm.init.below (below_regrown w6 d os)) (HRP.out.below (HB6.out.trans ((below_regrown w6 d os).mono HB6.out.size)))⟩
            obtain ⟨gv, cv, rfl⟩ := hm.rl.shape
            have S2 : Kq (∀ d os, _) := ⟨fun d os => sameL_yes (.slice gv x1.label.length cv) (.slice g0 x1.label.length c0) x1.label (grow (redrawn w6 d) os) HL0.out.2 (hm.rl.below (below_regrown w6 d os)) (HL0.out.1.below (HB6.out.trans ((below_regrown w6 d os).mono HB6.out.size)))⟩
            have c7 := hm.from_
            have c8 := hm.lab
            have c9 := CELL.out w6 HB6.out
            have q7 := fun d os => cell_regrown c7 d os
            have q8 := fun d os => cell_regrown c8 d os
            have q9 := fun d os => cell_regrown c9 d os
            have hN : ((p.length + 1 : Nat) : Int) = (p.length : Int) + 1 := by omega
            have hwr : IntKind.i64.wrap ((p.length : Int) + 1) = (p.length : Int) + 1 := IntWalk.i64_in _ (by omega)
            have tk : ((k1 : Int) != (k1 : Int)) = false := by simp
            have o3 : (p.length : Int) < (p.length : Int) + 1 := by omega
            clear hrow hq hm hvx hvt hft hlx hns hwd hx1 h99
            go_wp2_with fail
            refine wp_region_quiet_below (by kernel_rfl) (by kernel_rfl) ?_
            repeat (any_goals (first | go_big_quiet_step (first | (with_reducible exact Calls.regrown_of (S1.out _ _)) | (with_reducible exact Calls.regrown_of (S2.out _ _))) | quiet_step (first | (with_reducible exact Calls.regrown_of (S1.out _ _)) | (with_reducible exact Calls.regrown_of (S2.out _ _)))))
            refine wpQuiet_nil ?_
            intro _ hw'
            obtain ⟨⟨dq, osq⟩, hw''⟩ := hw'
            subst hw''
            obtain ⟨W7, hW7⟩ : ∃ W7, grow (redrawn w6 dq) osq = W7 := ⟨_, rfl⟩
            have H67 : Kq (Below w6.heap.size w6 W7) := ⟨by rw [← hW7]; exact below_regrown w6 dq osq⟩
            have HB7 : Kq (Below w.heap.size w W7) := ⟨HB6.out.trans (H67.out.mono HB6.out.size)⟩
            rw [hW7]
            clear hW7 q7 q8 q9 c7 c8 c9 S1 S2 T1 D1 O1 tk
            go_wp2_with fail
            refine Calls.mono (D2.out W7 HB7.out) ?_
            rintro e w8 ⟨hp, hb8⟩
            have HB8 : Kq (Below w.heap.size w w8) := ⟨HB7.out.trans (hb8.mono HB7.out.size)⟩
            have H68 : Kq (Below w6.heap.size w6 w8) := ⟨H67.out.trans (hb8.mono H67.out.size)⟩
            obtain ⟨u3, L3, F3, rfl, hr3, hl3, hd3⟩ := dataSum_of hp
            have HD3 : Kq (RL w8 u3 L3 ∧ L3.length ≤ 1000 ∧ DataSum p k L3 F3) := ⟨hr3, hl3, hd3⟩
            obtain ⟨gu3, cu3, rfl⟩ := hr3.shape
            clear hr3 hl3 hd3 hp hb8
            go_wp2_with fail
            refine Calls.mono (DT.out w8 H68.out) ?_
            rintro e w9 ⟨hp, hb9⟩
            have HB9 : Kq (Below w.heap.size w w9) := ⟨HB8.out.trans (hb9.mono HB8.out.size)⟩
            obtain ⟨u4, L4, F4, rfl, hr4, hl4, hd4⟩ := dataSum_of hp
            by_cases h3 : F3 = 0
            · subst h3
              obtain ⟨rfl, rfl⟩ := dataSum_unique (dataSum_snoc HV.out HVT.out rfl HX.out rfl HD3.out.2.2) hd4
              have SL : Kq _ := ⟨sameL_yes (.slice gu3 L4.length cu3) u4 L4 w9 HD3.out.2.1 (HD3.out.1.below hb9) hr4⟩
              obtain ⟨gu4, cu4, rfl⟩ := hr4.shape
              clear hr4 hl4 hd4 hp hb9
              go_wp2_with fail
              refine Calls.mono SL.out ?_
              rintro e w10 ⟨rfl, hb10⟩
              have HB10 : Kq (Below w.heap.size w w10) := ⟨HB9.out.trans (hb10.mono HB9.out.size)⟩
              clear hb10
              go_wp2_with fail
              refine Calls.mono (AWK.out _ HB10.out) ?_
              rintro e w11 ⟨rfl, hb11⟩
              have HB11 := Kq.mk hb11
              clear hb11
              go_wp2
              go_ret
              exact ⟨rfl, HB11.out⟩
            · have t3 : (F3 != 0) = true := by simpa using h3
              obtain ⟨gu4, cu4, rfl⟩ := hr4.shape
              clear hr4 hl4 hd4 hp hb9 h3
              go_wp2_with fail
              refine Calls.mono (AWK.out _ HB9.out) ?_
              rintro e w11 ⟨rfl, hb11⟩
              have HB11 := Kq.mk hb11
              clear hb11
              go_wp2
              go_ret
              exact ⟨rfl, HB11.out⟩
        · have t1 : (F2 != 0) = true := by simpa using h2
          have t0 : (F1 != 0) = false := by simpa using h1
          clear h1 h2
          go_wp2_with fail
          refine Calls.mono (AWK.out _ HB3.out) ?_
          rintro e w4 ⟨rfl, hb4⟩
          have HB4 := Kq.mk hb4
          clear hb4
          go_wp2
          go_ret
          exact ⟨rfl, HB4.out⟩
      · have t1 : (F1 != 0) = true := by simpa using h1
        clear h1
        go_wp2_with fail
        refine Calls.mono (AWK.out _ HB3.out) ?_
        rintro e w4 ⟨rfl, hb4⟩
        have HB4 := Kq.mk hb4
        clear hb4
        go_wp2
        go_ret
        exact ⟨rfl, HB4.out⟩
end Go.Proofs.YtjdcdakedoljbaaDoor.Mk
