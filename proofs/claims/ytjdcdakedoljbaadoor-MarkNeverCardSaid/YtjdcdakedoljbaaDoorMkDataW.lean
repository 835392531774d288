/-
  THE WALK of the program's Data.
-/
import Derived.Test.YtjdcdakedoljbaaDoorMkDataP
import Derived.Stop.RegionWithIn
import Derived.Deep.RegionWith
import Derived.Deep.RegionHeld3
import Derived.Sort.CutIn
namespace Go.Proofs.YtjdcdakedoljbaaDoor.Mk
open Go Go.RowKit Go.Maps Go.Sort Go.Shelf
attribute [local go_sem] Oper.semAt_some
attribute [-go_sem] Builtin.append_
/-- A label behind the turn of a block that is no cells. -/
theorem rl_put {w : World} {v : Value} {L : List FB} (h : RL w v L) {l : Nat} {o : Obj} (o' : Obj) (hl : w.heap[l]? = some o) (hc : o.isCells = false) : RL (w.putObj l o') v L := by
  obtain ⟨g, cap, hv, hat⟩ := h
  have hne : ∀ k j u, w.cell? ⟨k, j, none⟩ = some u → k ≠ l := fun k j u hu e => by
    rw [e, cell_none_of hl hc] at hu
    cases hu
  have keep : ∀ k j u, w.cell? ⟨k, j, none⟩ = some u → (w.putObj l o').cell? ⟨k, j, none⟩ = some u := fun k j u hu =>
    (World.cell?_of_block (w := w) (World.putObj_heap_other (hne k j u hu))).trans hu
  refine ⟨g, cap, hv, fun i f hf => ?_⟩
  obtain ⟨b, o2, h1, h2, h3, h4⟩ := hat i f hf
  exact ⟨b, o2, h1, by simpa using h2, keep _ _ _ h3, keep _ _ _ h4⟩
theorem below_put {B : Nat} {a w : World} (h : Below B a w) (l : Nat) (o : Obj) (hl : B ≤ l) (hB : B ≤ w.heap.size) : Below B a (w.putObj l o) :=
  h.grown (grownBy_putObj' w l o) hB (fun k e => by cases e; exact hl)
set_option maxRecDepth 100000 in
set_option maxHeartbeats 4000000 in
theorem Data_any (v : Value) (p : List PB) (i : Int) (w : World) (h : RP w v p) (hs : FitsP p) (hn : p.length ≤ maxLen) :
    Calls Tryd.prog 39 #[v, .int .i64 i] w fun e w' => DataPost p i (askE p i) e w' ∧ Below w.heap.size w w' := by
  have H1 : Kq (∀ W, Below w.heap.size w W → _) := ⟨fun W hW => wrong_any v p i W (h.below hW) hs hn⟩
  have HZ : Kq (askE p i = 0 → validP p = true ∧ ∃ k : Nat, i = (k : Int) ∧ k < p.length) := ⟨askE_zero⟩
  obtain ⟨g, cap, rfl, hcap, hc⟩ := h
  have HC := Lib.hid hc
  obtain ⟨E, hE⟩ : ∃ E, askE p i = E := ⟨_, rfl⟩
  rw [hE] at H1 HZ ⊢
  have HB0 : Kq (Below w.heap.size w (w.alloc (.cells #[.slice g p.length cap] 44))) := ⟨(Below.refl _ w).alloc (Nat.le_refl _) _⟩
  clear hc hE
  refine (callsIn_wide (n := 6)).1 ?_
  refine callsIn_of_wp_marks Tryd.func39 rfl trivial ?_ rfl
  simp only [Tryd.ntmps39, List.size_toArray, List.length_cons, List.length_nil, Nat.reduceAdd, Nat.reduceSub, Array.replicate_succ, Array.replicate_zero, List.push_toArray, List.append_toArray, List.nil_append, List.cons_append]
  gi_wp2_with fail
  refine ⟨trivial, (callsIn_wide.2 (H1.out _ HB0.out)).mono ?_⟩
  rintro e w1 ⟨rfl, hb1⟩
  have HB1 : Kq (Below w.heap.size w w1) := ⟨HB0.out.trans (hb1.mono HB0.out.size)⟩
  have d0 : w1.cell? ⟨w.heap.size, 0, none⟩ = some (.slice g p.length cap) := (hb1.cell (p := ⟨w.heap.size, 0, none⟩) (by simp)).trans (by simp [go_sem])
  have HZ1 : Kq (w.heap.size < w1.heap.size) := ⟨by have := hb1.size; simp at this; omega⟩
  clear hb1
  by_cases hE : E = 0
  · subst hE
    obtain ⟨hv, k0, rfl, hk0⟩ := HZ.out rfl
    have HV : Kq (validP p = true) := ⟨hv⟩
    have hl100 := (validP_size hv).2
    obtain ⟨x0, hx0⟩ : ∃ x, p[k0]? = some x := ⟨p[k0], List.getElem?_eq_getElem hk0⟩
    obtain ⟨b, o, lv0, hg, hbl, hb1, hb2, hb3, hlab⟩ := HC.out k0 x0 hx0
    subst hg
    have HL0 : Kq (RL w lv0 x0.label) := ⟨hlab⟩
    obtain ⟨g0, cl0, rfl⟩ := hlab.shape
    have c3 : w1.cell? ⟨b, o + k0 * 3 + 2, none⟩ = some (.slice g0 x0.label.length cl0) := (HB1.out.cell (p := ⟨b, _, none⟩) hbl).trans hb3
    have o1 : (k0 : Int) < (p.length : Int) := by omega
    have HX0 : Kq (p[k0]? = some x0) := ⟨hx0⟩
    have HC0 : Kq (w.cell? ⟨b, o + k0 * 3 + 2, none⟩ = some (.slice g0 x0.label.length cl0)) := ⟨hb3⟩
    clear hv HZ hb1 hb2 hb3 hlab hx0
    gi_wp2_with fail
    obtain ⟨W2, hW2⟩ : ∃ W2, ((w1.alloc (Obj.cells #[Value.slice g0 x0.label.length cl0] 35)).alloc (Obj.cells #[Value.slice (some ⟨w1.heap.size, 0, none⟩) 1 1] 68)) = W2 := ⟨_, rfl⟩
    have e0 : W2.cell? ⟨w.heap.size, 0, none⟩ = some (.slice (some ⟨b, o, none⟩) p.length cap) := by
      rw [← hW2]
      exact Lib.cell?_alloc_some _ (Lib.cell?_alloc_some _ d0)
    have hz2 : W2.heap.size = w1.heap.size + 2 := by rw [← hW2]; simp
    have n1 : ¬ (w.heap.size = W2.heap.size) := by have := HZ1.out; omega
    have n2 : ¬ (w.heap.size = W2.heap.size + 1) := by have := HZ1.out; omega
    have n3 : ¬ (W2.heap.size = w.heap.size) := by have := HZ1.out; omega
    have n4 : ¬ (W2.heap.size + 1 = w.heap.size) := by have := HZ1.out; omega
    have e1 : ∀ o1 o2, ((W2.drew.alloc o1).alloc o2).cell? ⟨w.heap.size, 0, none⟩ = some (.slice (some ⟨b, o, none⟩) p.length cap) := fun o1 o2 => Lib.cell?_alloc_some _ (Lib.cell?_alloc_some _ e0)
    rw [hW2]
    clear hz2
    refine wpIn_wide.2 ?_
    refine wp_region_noPanic ?_
    go_region_held3 (fun w' => w'.cell? ⟨w.heap.size, 0, none⟩ = some (.slice (some ⟨b, o, none⟩) p.length cap)) (repeat (first | assumption | refine cell_drew_some ?_ | refine Lib.cell?_alloc_some _ ?_))
      (first | (go_at_call 71; refine (above_any _ _ _ _ _ _ rfl).mono ?_; rintro e w' ⟨rfl, rfl⟩) | (go_at_call 72; refine (below_any _ _ _ _ _ _ rfl).mono ?_; rintro e w' ⟨rfl, rfl⟩))
    refine NoPanic.normal ?_
    obtain ⟨A, hA⟩ : ∃ A, W2.heap.size = A := ⟨_, rfl⟩
    rw [hA]
    obtain ⟨W3, hW3⟩ : ∃ W3, (((((W2.alloc (Obj.cells #[Value.slice (some ⟨b, o, none⟩) p.length cap] 44)).alloc (Obj.cells #[Value.int .i64 (k0 : Int)] 3)).alloc (Obj.cells #[Value.slice (some ⟨b, o, none⟩) p.length cap] 44)).alloc (Obj.cells #[Value.int .i64 (k0 : Int)] 3)).alloc
        (Obj.cells #[Value.func (Fn.func 94) #[] #[Value.pointer (some ⟨A, 0, none⟩), Value.pointer (some ⟨A + 1, 0, none⟩)], Value.func (Fn.func 95) #[] #[Value.pointer (some ⟨A + 1 + 1, 0, none⟩), Value.pointer (some ⟨A + 1 + 1 + 1, 0, none⟩)]] 85)).drew = W3 := ⟨_, rfl⟩
    have p1 : W3.cell? ⟨A, 0, none⟩ = some (.slice (some ⟨b, o, none⟩) p.length cap) := by rw [← hW3, ← hA]; simp [go_sem]
    have p2 : W3.cell? ⟨A + 1, 0, none⟩ = some (.int .i64 (k0 : Int)) := by rw [← hW3, ← hA]; simp [go_sem]
    have p3 : W3.cell? ⟨A + 1 + 1, 0, none⟩ = some (.slice (some ⟨b, o, none⟩) p.length cap) := by rw [← hW3, ← hA]; simp [go_sem]
    have p4 : W3.cell? ⟨A + 1 + 1 + 1, 0, none⟩ = some (.int .i64 (k0 : Int)) := by rw [← hW3, ← hA]; simp [go_sem]
    have p5 : W3.cell? ⟨A + 1 + 1 + 1 + 1, 0, none⟩ = some (.func (.func 94) #[] #[.pointer (some ⟨A, 0, none⟩), .pointer (some ⟨A + 1, 0, none⟩)]) := by rw [← hW3, ← hA]; simp [go_sem]
    have p6 : W3.cell? ⟨A + 1 + 1 + 1 + 1, 1, none⟩ = some (.func (.func 95) #[] #[.pointer (some ⟨A + 1 + 1, 0, none⟩), .pointer (some ⟨A + 1 + 1 + 1, 0, none⟩)]) := by rw [← hW3, ← hA]; simp [go_sem]
    have hz3 : W3.heap.size = A + 5 := by rw [← hW3, ← hA]; simp [World.drew]
    have hb23 : Below W2.heap.size W2 W3 := by
      rw [← hW3]
      exact ((((((Below.refl _ W2).alloc (Nat.le_refl _) _).alloc (by simp) _).alloc (by simp; omega) _).alloc (by simp; omega) _).alloc (by simp; omega) _).drew
    have hbx2 : Boxed W2 (w1.heap.size + 1) 68 (.slice (some ⟨w1.heap.size, 0, none⟩) 1 1) := by
      rw [← hW2]
      have := Boxed.new (w1.alloc (Obj.cells #[Value.slice g0 x0.label.length cl0] 35)) 68 (.slice (some ⟨w1.heap.size, 0, none⟩) 1 1)
      simpa using this
    have hown2 : W2.ownsRow (w.heap.size + 1) 35 1 (.slice (some ⟨w1.heap.size, 0, none⟩) 1 1) 1 [.slice g0 x0.label.length cl0] := by
      rw [← hW2]
      exact (World.ownsRow_lit w1 #[.slice g0 x0.label.length cl0] 1 (by have := HZ1.out; omega) (by unfold maxLen; omega) rfl).kept (World.grownBy_alloc _ _ none) (.inr (by simp [Value.ownBlock]))
    have hz2 : W2.heap.size = w1.heap.size + 2 := by rw [← hW2]; simp
    have hg23 : W2.grownBy W3 none := ⟨hb23.os, hb23.tape, hb23.output, hb23.size, fun k hk _ => hb23.block k hk⟩
    have hbw2 : Below w.heap.size w W2 := by
      rw [← hW2]
      exact (HB1.out.alloc HB1.out.size _).alloc (by have := HB1.out.size; simp; omega) _
    have hbw3 : Below w.heap.size w W3 := hbw2.trans (hb23.mono hbw2.size)
    obtain ⟨Bx, hBx⟩ : ∃ Bx, w1.heap.size + 1 = Bx := ⟨_, rfl⟩
    have hw1 := HZ1.out
    have HI0 : Kq (LabI w Bx (.slice (some ⟨b, o, none⟩) p.length cap) [.slice g0 x0.label.length cl0] 0 A W3 W3) := ⟨⟨⟨w1.heap.size, 1, by rw [← hBx]; exact hbx2.kept hg23 (by simp), hown2.kept hg23 (.inr (by simp [Value.ownBlock])), by omega, .inl (by omega)⟩, fun k _ _ => rfl, by omega, hbw3, by rw [← hW3]; exact cell_drew_some (Lib.cell?_alloc_some _ (Lib.cell?_alloc_some _ (Lib.cell?_alloc_some _ (Lib.cell?_alloc_some _ (Lib.cell?_alloc_some _ e0)))))⟩⟩
    have HOB : Kq (∀ v j, W3.cell? ⟨Bx, 0, none⟩ = some v → v.ownBlock = some j → w.heap.size + 1 ≤ j ∧ j < A) := ⟨fun v j hv1 hj => by
      have h1 := (hbx2.kept hg23 (by simp)).cell
      rw [hBx, hv1] at h1
      simp only [Option.some.injEq] at h1
      rw [h1] at hj
      simp [Value.ownBlock] at hj
      omega⟩
    have HBx3 : Kq (Bx < A ∧ w.heap.size < A ∧ W3.heap.size = A + 5) := ⟨by omega, by omega, hz3⟩
    rw [hBx]
    clear hb23 hbx2 hown2 hz2 hg23 hbw2 hW2 hA hz3 n1 n2 n3 n4 e0 e1 d0 c3
    have HNO : Kq (∀ k, k ≠ Bx → (k < w.heap.size + 1 ∨ A ≤ k) → NotOwn Bx W3 k) := ⟨fun k h1 h2 => ⟨h1, fun v hv1 e => by
      have := HOB.out v k hv1 e
      omega⟩⟩
    have HFR : Kq (∀ k x, p[k]? = some x → W3.cell? ⟨b, o + k * 3 + 1, none⟩ = some (.int .i64 x.from_)) := ⟨fun k x hx => by
      obtain ⟨b', o', lv', hg', hbl', _, hb2', _, _⟩ := HC.out k x hx
      simp only [Option.some.injEq, Addr.mk.injEq, and_true] at hg'
      obtain ⟨rfl, rfl⟩ := hg'
      exact (hbw3.cell (p := ⟨b, _, none⟩) hbl').trans hb2'⟩
    have HLV0 : ∃ lvF : Nat → Value, LabV w b o p lvF := by
      have each : ∀ k, k < p.length → ∃ lv : Value, w.cell? ⟨b, o + k * 3 + 2, none⟩ = some lv ∧ ∀ x, p[k]? = some x → RL w lv x.label := by
        intro k hk
        obtain ⟨b', o', lv', hg', _, _, _, hb3', hl'⟩ := HC.out k p[k] (List.getElem?_eq_getElem hk)
        simp only [Option.some.injEq, Addr.mk.injEq, and_true] at hg'
        obtain ⟨rfl, rfl⟩ := hg'
        exact ⟨lv', hb3', fun x hx => by
          rw [List.getElem?_eq_getElem hk] at hx
          simp only [Option.some.injEq] at hx
          rw [← hx]
          exact hl'⟩
      haveI : Inhabited Value := ⟨undef⟩
      obtain ⟨f, hf⟩ := Deep.choose_lt each
      exact ⟨f, ⟨fun k x hx => ⟨(hf k (List.getElem?_eq_some_iff.1 hx).1).1, (hf k (List.getElem?_eq_some_iff.1 hx).1).2 x hx⟩⟩⟩
    obtain ⟨lvF, HLVF⟩ := HLV0
    have HLV : Kq (LabV w b o p lvF) := ⟨HLVF⟩
    have hlv0 : Value.slice g0 x0.label.length cl0 = lvF k0 := by
      obtain ⟨b', o', lv', hg', _, _, _, hb3', _⟩ := HC.out k0 x0 HX0.out
      simp only [Option.some.injEq, Addr.mk.injEq, and_true] at hg'
      obtain ⟨rfl, rfl⟩ := hg'
      have h1 := (HLVF.at_ k0 x0 HX0.out).1
      rw [HC0.out] at h1
      simpa using h1
    rw [hlv0] at HI0
    have hbb : b < w.heap.size := hbl
    have HR1 : Kq (Reads Bx A b o cap p W3) := ⟨⟨p1, HFR.out, HNO.out b (by have := HBx3.out; omega) (.inl (by omega)), HNO.out A (by have := HBx3.out; omega) (.inr (Nat.le_refl _))⟩⟩
    have HR2 : Kq (Reads Bx (A + 1 + 1) b o cap p W3) := ⟨⟨p3, HFR.out, HNO.out b (by have := HBx3.out; omega) (.inl (by omega)), HNO.out (A + 1 + 1) (by have := HBx3.out; omega) (.inr (by omega))⟩⟩
    clear HLVF
    gi_wp2
    refine wpIn_loop_rounds 3 ?_
    rw [roundsIn_succ]
    gi_wp2
    refine wpIn_yields (own := false) rfl (by omega) (gf := 94) (lb := #[.pointer (some ⟨A, 0, none⟩), .pointer (some ⟨A + 1, 0, none⟩)]) rfl trivial (enters_of Tryd.func94 (by kernel_rfl) rfl)
      (above_yields Fence.wide 5 trivial rfl (by omega) Bx A (A + 1) b o cap p k0 W3 HV.out hk0 HR1.out p2 (by have := HBx3.out; omega)) Keep.trans (fun W l o o' _ h1 h2 h3 => Keep.putObj Bx W l o o' h1 h2 h3)
      (fun pre W => LabI w Bx (.slice (some ⟨b, o, none⟩) p.length cap) (lvF k0 :: pre.map lvF) 0 A W3 W)
      (fun s A' B' row h hg hr => labI_abide (own := false) (fun h => by cases h) (by have := HBx3.out; omega) (by have := HBx3.out; omega) (by have := HBx3.out; omega) h hg hr) HI0.out ?a1 ?assign ?body ?done
    case assign =>
      intro l x W K hK
      gi_wp2
      exact hK
    case body =>
      rintro l pre x W hI hpre _
      have hxa : x ∈ ancs p k0 := hpre.mem (by simp)
      have hxl : x < p.length := Nat.lt_trans (mem_ancs HV.out hk0 hxa) hk0
      have hpl : pre.length ≤ k0 := Nat.le_trans (Nat.le_trans (by simp) hpre.length_le) (ancs_len HV.out k0 k0 (Nat.le_refl _) hk0)
      obtain ⟨xx, hxx⟩ : ∃ y, p[x]? = some y := ⟨p[x], List.getElem?_eq_getElem hxl⟩
      have hlc := (HLV.out.at_ x xx hxx).1
      have c1 : W.cell? ⟨b, o + x * 3 + 2, none⟩ = some (lvF x) := (hI.bel.cell (p := ⟨b, _, none⟩) hbl).trans hlc
      obtain ⟨gx, cx, hgx⟩ := (HLV.out.at_ x xx hxx).2.shape
      have hl100' := (validP_size HV.out).2
      obtain ⟨g, cp, g', cp', w1', hb1, hrun, hb2, hko, hkp, hI2⟩ := labI_step hI (by simp; omega) (by have := HBx3.out; omega) (by have := HBx3.out; omega) (Nat.zero_le _) gx xx.label.length cx
      rw [hgx] at c1
      obtain ⟨LN, hLN⟩ : ∃ LN, (lvF k0 :: pre.map lvF).length = LN := ⟨_, rfl⟩
      rw [hLN] at hb1 hrun hb2 hko hkp hI2
      have hrun2 : (Builtin.append_ #[68, 68] 68 #[.slice (some ⟨g, 0, none⟩) LN cp, .slice (some ⟨W.heap.size, 0, none⟩) 1 1]).run Tryd.prog (W.alloc (.cells #[.slice gx xx.label.length cx] 35)).drew = .ok (.slice (some ⟨g', 0, none⟩) (LN + 1) cp') w1' := hrun
      clear hrun
      have HKO : Kq (KeepsOthers W (w1'.setCell ⟨Bx, 0, none⟩ (.slice (some ⟨g', 0, none⟩) (LN + 1) cp'))) := ⟨hko⟩
      have HKP : Kq (Keep Bx W (w1'.setCell ⟨Bx, 0, none⟩ (.slice (some ⟨g', 0, none⟩) (LN + 1) cp'))) := ⟨hkp⟩
      have HI2 : Kq (LabI w Bx (.slice (some ⟨b, o, none⟩) p.length cap) (lvF k0 :: (pre ++ [x]).map lvF) 0 A W3 (w1'.setCell ⟨Bx, 0, none⟩ (.slice (some ⟨g', 0, none⟩) (LN + 1) cp'))) := ⟨by
        rw [← hgx] at hI2
        simpa using hI2⟩
      have c2 := hb1.cell
      have c2' : (W.alloc (.cells #[.slice gx xx.label.length cx] 35)).cell? ⟨Bx, 0, none⟩ = some (.slice (some ⟨g, 0, none⟩) LN cp) := Lib.cell?_alloc_some _ c2
      have c3 := hb2.cell
      have f3 := hb2.frozen
      have c4 := hI.par
      have o2 : (x : Int) < (p.length : Int) := by omega
      clear hI hpre hxa hpl hxx hlc hgx hl100' hb1 hb2 hko hkp hI2 hLN
      gi_wp2_with fail
      gi_region
      all_goals exact ⟨HKO.out.from _, HKP.out, HI2.out⟩
    case done =>
      intro D1 W4 hD1 hI4 hdef4
      have q5 : W4.cell? ⟨A + 1 + 1 + 1 + 1, 0, none⟩ = some (.func (.func 94) #[] #[.pointer (some ⟨A, 0, none⟩), .pointer (some ⟨A + 1, 0, none⟩)]) := (World.cell?_of_block (w := W3) (hI4.kept (A + 1 + 1 + 1 + 1) (by omega) (by omega))).trans p5
      have q6 : W4.cell? ⟨A + 1 + 1 + 1 + 1, 1, none⟩ = some (.func (.func 95) #[] #[.pointer (some ⟨A + 1 + 1, 0, none⟩), .pointer (some ⟨A + 1 + 1 + 1, 0, none⟩)]) := (World.cell?_of_block (w := W3) (hI4.kept (A + 1 + 1 + 1 + 1) (by omega) (by omega))).trans p6
      have HI4 := Kq.mk hI4
      clear hI4
      gi_wp2
      rw [roundsIn_succ]
      gi_wp2
      have NO4 : Kq (∀ k, k ≠ Bx → (k < w.heap.size + 1 ∨ (A ≤ k ∧ k < A + 5)) → NotOwn Bx W4 k) := ⟨fun k h1 h2 => labI_not HI4.out h1 h2⟩
      have hz4 := HI4.out.big
      have HB3 := HBx3.out
      have hD1l := (Array.getElem?_eq_some_iff.1 hdef4).1
      have keep3 : ∀ k j v, A ≤ k → k < A + 5 → W3.cell? ⟨k, j, none⟩ = some v → W4.cell? ⟨k, j, none⟩ = some v := fun k j v h1 h2 h3 => (World.cell?_of_block (w := W3) (HI4.out.kept k h1 h2)).trans h3
      have HFR4 : ∀ k x, p[k]? = some x → W4.cell? ⟨b, o + k * 3 + 1, none⟩ = some (.int .i64 x.from_) := fun k x hx => by
        obtain ⟨b', o', lv', hg', hbl', _, hb2', _, _⟩ := HC.out k x hx
        simp only [Option.some.injEq, Addr.mk.injEq, and_true] at hg'
        obtain ⟨rfl, rfl⟩ := hg'
        exact (HI4.out.bel.cell (p := ⟨b, _, none⟩) hbl').trans hb2'
      have HR4 : Kq (Reads Bx (A + 1 + 1) b o cap p W4) := ⟨⟨keep3 _ _ _ (by omega) (by omega) HR2.out.box, HFR4, NO4.out b (by omega) (.inl (by omega)), NO4.out (A + 1 + 1) (by omega) (.inr (by omega))⟩⟩
      have r4 : W4.cell? ⟨A + 1 + 1 + 1, 0, none⟩ = some (.int .i64 (k0 : Int)) := keep3 _ _ _ (by omega) (by omega) p4
      refine wpIn_yields (own := true) rfl (by omega) (gf := 95) (lb := #[.pointer (some ⟨A + 1 + 1, 0, none⟩), .pointer (some ⟨A + 1 + 1 + 1, 0, none⟩)]) rfl trivial (enters_of Tryd.func95 (by kernel_rfl) rfl)
        (below_yields Fence.wide 5 trivial rfl (by omega) Bx (A + 1 + 1) (A + 1 + 1 + 1) b o cap p k0 W4 HV.out hk0 HR4.out r4 (NO4.out (A + 1 + 1 + 1) (by omega) (.inr (by omega))) (by omega) (fun v j h1 h2 => (labI_ob HI4.out v j h1 h2).2.1)) Keep.trans (fun W l o o' _ h1 h2 h3 => Keep.putObj Bx W l o o' h1 h2 h3)
        (fun pre W => LabI w Bx (.slice (some ⟨b, o, none⟩) p.length cap) (lvF k0 :: (ancs p k0 ++ pre).map lvF) (W4.heap.size + 2) A W3 W ∧ W.heap[D1]? = some (.deferred (some [])))
        (fun s A' B' row h hg hr => ⟨labI_abide (own := true) (fun _ => rfl) (by omega) (by omega) (by omega) h.1 hg hr, (hg.block D1 (Array.getElem?_eq_some_iff.1 h.2).1 (fun e => by
          rcases hr D1 e.symm with ⟨_, h2⟩ | ⟨h2, _⟩ <;> omega)).trans h.2⟩) ⟨by rw [List.append_nil]; exact labI_U HI4.out (by omega), hdef4⟩ ?b1 ?assign2 ?body2 ?done2
      case assign2 =>
        intro l x W K hK
        gi_wp2
        exact hK
      case body2 =>
        rintro l pre x W ⟨hI, hdI⟩ hpre hUl
        have hxa : x ∈ bels p k0 p.length := hpre.mem (by simp)
        have hxl : x < p.length := (mem_bels hxa).1
        have hpl : pre.length ≤ p.length := Nat.le_trans (Nat.le_trans (by simp) hpre.length_le) (bels_len p k0 p.length)
        have hal : (ancs p k0).length ≤ k0 := ancs_len HV.out k0 k0 (Nat.le_refl _) hk0
        obtain ⟨xx, hxx⟩ : ∃ y, p[x]? = some y := ⟨p[x], List.getElem?_eq_getElem hxl⟩
        have hlc := (HLV.out.at_ x xx hxx).1
        have c1 : W.cell? ⟨b, o + x * 3 + 2, none⟩ = some (lvF x) := (hI.bel.cell (p := ⟨b, _, none⟩) hbl).trans hlc
        obtain ⟨gx, cx, hgx⟩ := (HLV.out.at_ x xx hxx).2.shape
        have hl100' := (validP_size HV.out).2
        obtain ⟨g, cp, g', cp', w1', hb1, hrun, hb2, hko, hkp, hI2⟩ := labI_step hI (by simp; omega) (by have := HBx3.out; omega) (by have := HBx3.out; omega) (by have := hUl rfl; omega) gx xx.label.length cx
        rw [hgx] at c1
        obtain ⟨LN, hLN⟩ : ∃ LN, (lvF k0 :: (ancs p k0 ++ pre).map lvF).length = LN := ⟨_, rfl⟩
        rw [hLN] at hb1 hrun hb2 hko hkp hI2
        have hrun2 : (Builtin.append_ #[68, 68] 68 #[.slice (some ⟨g, 0, none⟩) LN cp, .slice (some ⟨W.heap.size, 0, none⟩) 1 1]).run Tryd.prog (W.alloc (.cells #[.slice gx xx.label.length cx] 35)).drew = .ok (.slice (some ⟨g', 0, none⟩) (LN + 1) cp') w1' := hrun
        clear hrun
        have HKO : Kq (KeepsOthers W (w1'.setCell ⟨Bx, 0, none⟩ (.slice (some ⟨g', 0, none⟩) (LN + 1) cp'))) := ⟨hko⟩
        have HKP : Kq (Keep Bx W (w1'.setCell ⟨Bx, 0, none⟩ (.slice (some ⟨g', 0, none⟩) (LN + 1) cp'))) := ⟨hkp⟩
        have HI2 : Kq (LabI w Bx (.slice (some ⟨b, o, none⟩) p.length cap) (lvF k0 :: (ancs p k0 ++ (pre ++ [x])).map lvF) (W4.heap.size + 2) A W3 (w1'.setCell ⟨Bx, 0, none⟩ (.slice (some ⟨g', 0, none⟩) (LN + 1) cp'))) := ⟨by
          rw [← hgx] at hI2
          simpa using hI2⟩
        have c2 := hb1.cell
        have c2' : (W.alloc (.cells #[.slice gx xx.label.length cx] 35)).cell? ⟨Bx, 0, none⟩ = some (.slice (some ⟨g, 0, none⟩) LN cp) := Lib.cell?_alloc_some _ c2
        have c3 := hb2.cell
        have f3 := hb2.frozen
        have c4 := hI.par
        have o2 : (x : Int) < (p.length : Int) := by omega
        clear hI hpre hxa hpl hal hUl hxx hlc hgx hl100' hb1 hb2 hko hkp hI2 hLN
        gi_wp2_with fail
        gi_region
        all_goals exact ⟨HKO.out.from _, HKP.out, HI2.out, HKO.out.same D1 _ hdI rfl⟩
      case done2 =>
        rintro D2 W5 hD2 ⟨hI5, hd15⟩ hdef5
        have hI5' : LabI w Bx (.slice (some ⟨b, o, none⟩) p.length cap) ((kin p k0).map lvF) (W4.heap.size + 2) A W3 W5 := hI5
        obtain ⟨gL, cL, hcB, hLB⟩ := labI_labels hI5' HLV.out (fun k hk => ((mem_kin HV.out hk0 k).1 hk).1)
        have HG5 := gathered_any (some ⟨gL, 0, none⟩) cL _ W5 hLB (kin_fits HV.out hs hk0) (kin_flat HV.out hk0) (by rw [List.length_map]; have := kin_len HV.out hk0; omega)
        have HRES := kin_res HV.out hs hk0
        have HB5 : Kq (Below w.heap.size w W5) := ⟨hI5.bel⟩
        have HD5 : Kq (W5.heap[D1]? = some (.deferred (some [])) ∧ W5.heap[D2]? = some (.deferred (some [])) ∧ D1 < D2 ∧ w.heap.size ≤ D1) := ⟨hd15, hdef5, by omega, by omega⟩
        rw [List.length_map] at HG5
        obtain ⟨Q, hQ⟩ : ∃ Q, gat [] ((kin p k0).map (labAt p)) = Q := ⟨_, rfl⟩
        obtain ⟨NK, hNK⟩ : ∃ NK, (kin p k0).length = NK := ⟨_, rfl⟩
        rw [hQ, hNK] at HG5
        rw [hQ] at HRES
        rw [hNK] at hcB
        have HGQ := Kq.mk HG5
        have HRQ := Kq.mk HRES
        clear HG5 HRES hQ hNK hI5 hI5' hLB hd15 hdef5 hdef4 NO4 HB3 hD1l HI4 keep3 HFR4 HR4 r4 q5 q6
        gi_wp2
        rw [roundsIn_succ]
        gi_wp2_with fail
        refine ⟨trivial, (callsIn_wide.2 HGQ.out).mono ?_⟩
        rintro e W6 ⟨hp, hb6⟩
        have HB6 : Kq (Below w.heap.size w W6) := ⟨HB5.out.trans (hb6.mono HB5.out.size)⟩
        have HD6 : Kq (W6.heap[D1]? = some (.deferred (some [])) ∧ W6.heap[D2]? = some (.deferred (some [])) ∧ D1 < D2 ∧ w.heap.size ≤ D1) := ⟨by
          obtain ⟨h1, h2, h3, h4⟩ := HD5.out
          exact ⟨(hb6.block D1 (Array.getElem?_eq_some_iff.1 h1).1).trans h1, (hb6.block D2 (Array.getElem?_eq_some_iff.1 h2).1).trans h2, h3, h4⟩⟩
        have hK2 := HD6.out.2.1
        have hK1 : (W6.putObj D2 (.deferred none)).heap[D1]? = some (.deferred (some [])) := (World.putObj_heap_other (by have := HD6.out.2.2.1; omega)).trans HD6.out.1
        have HBF : Kq (Below w.heap.size w ((W6.putObj D2 (.deferred none)).putObj D1 (.deferred none))) := ⟨by
          have h1 := HD6.out.2.2
          have h2 := HB6.out.size
          exact below_put (below_put HB6.out D2 _ (by omega) h2) D1 _ h1.2 (by simp; exact h2)⟩
        clear hb6
        cases Q with
        | none =>
          have hp' : e = .returned (.tuple #[.slice none 0 0, .bool false]) := hp
          subst hp'
          have HRN : Kq (DataRes p k0 none) := ⟨HRQ.out⟩
          clear hp HGQ HRQ
          gi_wp2
          refine ⟨by simp, .inl ⟨_, _, rfl, run_takeDeferred hK2, ?_⟩⟩
          refine ⟨by simp, .inl ⟨_, _, rfl, run_takeDeferred hK1, ?_⟩⟩
          exact ⟨_, results_tmp2 rfl _ _ _, dataPost_ok HRN.out rfl (RL.nil _), HBF.out⟩
        | some F =>
          obtain ⟨u, ss, rfl, hperm, hrl⟩ := hp
          have HRS : Kq (DataRes p k0 (some (sortedFB ss F))) := ⟨HRQ.out ss hperm⟩
          have HRL6 : Kq (RL ((W6.putObj D2 (.deferred none)).putObj D1 (.deferred none)) u (sortedFB ss F)) := ⟨rl_put (rl_put hrl _ hK2 rfl) _ hK1 rfl⟩
          obtain ⟨gu, cu, rfl⟩ := hrl.shape
          clear hrl hperm HGQ HRQ
          gi_wp2
          refine ⟨by simp, .inl ⟨_, _, rfl, run_takeDeferred hK2, ?_⟩⟩
          refine ⟨by simp, .inl ⟨_, _, rfl, run_takeDeferred hK1, ?_⟩⟩
          exact ⟨_, results_tmp2 rfl _ _ _, dataPost_ok HRS.out rfl HRL6.out, HBF.out⟩
  · have HE : Kq (E ≠ 0) := ⟨hE⟩
    have t1 : (E == 0) = false := by simpa using hE
    have t2 : (E != 0) = true := by simpa using hE
    clear hE HZ
    gi_wp2
    exact ⟨_, results_tmp2 rfl _ _ _, dataPost_no HE.out rfl, HB1.out⟩
end Go.Proofs.YtjdcdakedoljbaaDoor.Mk
