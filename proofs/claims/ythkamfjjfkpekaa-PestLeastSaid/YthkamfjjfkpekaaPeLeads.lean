/-
  WALKS (layer 8, pest): the search for a way from a room on.
-/
import Derived.Test.YthkamfjjfkpekaaPeGrowP
namespace Go.Proofs.Ythkamfjjfkpekaa.Pe
open Go Go.RowKit Go.Proofs Go.Sort

theorem cnt_mono {n S T : Nat} (h : ∀ i, S.testBit i = true → T.testBit i = true) : cnt n S ≤ cnt n T := List.countP_mono_left fun i _ hi => h i hi
theorem scan_at {ds : List Dr} {much : Int} {f : List Int → Nat → Nat → Bool × List Int × Nat} {room k : Nat} {fl : List Int} {t : Nat} {d : Dr} (hd : ds[k]? = some d) :
    scan ds much f room (ds.length - k) fl t = if t.testBit (beyd d room).1.toNat || decide (d.c - (beyd d room).2 * fl.getD k 0 < much) then scan ds much f room (ds.length - (k + 1)) fl t else
      match f fl t (beyd d room).1.toNat with
      | (true, fl2, t2) => (true, fl2.set k (fl2.getD k 0 + (beyd d room).2 * much), t2)
      | (false, fl2, t2) => scan ds much f room (ds.length - (k + 1)) fl2 t2 := by
  have hk := (List.getElem?_eq_some_iff.1 hd).1
  have hxd : ds.getD k default = d := by rw [List.getD_eq_getElem?_getD, hd]; rfl
  obtain ⟨n, hn⟩ : ∃ n, ds.length - k = n + 1 := ⟨ds.length - k - 1, by omega⟩
  have hn2 : ds.length - (k + 1) = n := by omega
  have hn3 : ds.length - (n + 1) = k := by omega
  rw [hn, hn2]
  conv => lhs; unfold scan
  simp only [hn3, hxd]
  rfl
theorem lt_of_pow {t R : Nat} (h : t < 2 ^ R) (hR : R ≤ 12) : t < 4611686018427387904 := by
  have := Nat.pow_le_pow_right (n := 2) (by omega) hR
  omega
/-- The captured places of the search. -/
def caps (Z : Nat) : Array Value := #[.pointer (some ⟨Z, 0, none⟩), .pointer (some ⟨Z + 3, 0, none⟩), .pointer (some ⟨Z + 1, 0, none⟩), .pointer (some ⟨Z + 2, 0, none⟩), .pointer (some ⟨Z + 4, 0, none⟩)]
/-- What lies while ways are searched for: the house, the flow, how much, the rooms tried, the search itself. -/
structure GV (w : World) (Z F : Nat) (v : Value) (R I K : Nat) (much : Int) (fl : List Int) (t : Nat) (W : World) : Prop where
  grown : w.grownBy W (some F)
  fr : Row 83 W F fl
  h0 : W.cell? ⟨Z, 0, none⟩ = some (.int .i64 (R : Nat))
  h1 : W.cell? ⟨Z, 1, none⟩ = some v
  h2 : W.cell? ⟨Z, 2, none⟩ = some (.int .i64 (I : Nat))
  h3 : W.cell? ⟨Z, 3, none⟩ = some (.int .i64 (K : Nat))
  p : W.cell? ⟨Z + 1, 0, none⟩ = some (.pointer (some ⟨F, 0, none⟩))
  m : W.cell? ⟨Z + 2, 0, none⟩ = some (.int .i64 much)
  t : W.cell? ⟨Z + 3, 0, none⟩ = some (.int .i64 (t : Nat))
  tz : W.frozen? ⟨Z + 3, 0, none⟩ = false
  s : W.cell? ⟨Z + 4, 0, none⟩ = some (.func (.func 108) #[] (caps Z))
theorem GV.same {w W V : World} {Z F : Nat} {v : Value} {R I K : Nat} {much : Int} {fl : List Int} {t : Nat} (h : GV w Z F v R I K much fl t W) (hg : w.grownBy V (some F)) (hF : V.heap[F]? = W.heap[F]?) (hb : ∀ j, j ≤ 4 → V.heap[Z + j]? = W.heap[Z + j]?) : GV w Z F v R I K much fl t V :=
  ⟨hg, h.fr.same hF, (World.cell?_of_block (a := ⟨Z, 0, none⟩) (hb 0 (by omega))).trans h.h0, (World.cell?_of_block (a := ⟨Z, 1, none⟩) (hb 0 (by omega))).trans h.h1, (World.cell?_of_block (a := ⟨Z, 2, none⟩) (hb 0 (by omega))).trans h.h2, (World.cell?_of_block (a := ⟨Z, 3, none⟩) (hb 0 (by omega))).trans h.h3, (World.cell?_of_block (a := ⟨Z + 1, 0, none⟩) (hb 1 (by omega))).trans h.p, (World.cell?_of_block (a := ⟨Z + 2, 0, none⟩) (hb 2 (by omega))).trans h.m, (World.cell?_of_block (a := ⟨Z + 3, 0, none⟩) (hb 3 (by omega))).trans h.t, (World.frozen?_of_block (a := ⟨Z + 3, 0, none⟩) (hb 3 (by omega))).trans h.tz, (World.cell?_of_block (a := ⟨Z + 4, 0, none⟩) (hb 4 (by omega))).trans h.s⟩
theorem GV.lt {w W : World} {Z F : Nat} {v : Value} {R I K : Nat} {much : Int} {fl : List Int} {t : Nat} (h : GV w Z F v R I K much fl t W) : Z + 4 < W.heap.size := World.block_lt_of_cell? _ _ h.s
theorem GV.on {w W V : World} {Z F : Nat} {v : Value} {R I K : Nat} {much : Int} {fl : List Int} {t : Nat} (h : GV w Z F v R I K much fl t W) (hb : Below W.heap.size W V) : GV w Z F v R I K much fl t V :=
  h.same (grown_trans h.grown (grown_below hb _)) (hb.block _ h.fr.lt) fun j hj => hb.block _ (by have := h.lt; omega)
theorem GV.putT {w W : World} {Z F : Nat} {v : Value} {R I K : Nat} {much : Int} {fl : List Int} {t : Nat} (h : GV w Z F v R I K much fl t W) (hZ : w.heap.size = Z) (hF : F < Z) (t2 : Nat) : GV w Z F v R I K much fl t2 (W.setCell ⟨Z + 3, 0, none⟩ (.int .i64 (t2 : Nat))) := by
  have hg : w.grownBy (W.setCell ⟨Z + 3, 0, none⟩ (.int .i64 (t2 : Nat))) (some F) :=
    ⟨h.grown.os, h.grown.tape, h.grown.output, by simp [World.setCell]; exact h.grown.size, fun j hj hr => (Below.heap_setCell W ⟨Z + 3, 0, none⟩ _ j (by simp only; omega)).trans (h.grown.block j hj hr)⟩
  have ho : ∀ j, j ≠ Z + 3 → (W.setCell ⟨Z + 3, 0, none⟩ (.int .i64 (t2 : Nat))).heap[j]? = W.heap[j]? := fun j hj => Below.heap_setCell W ⟨Z + 3, 0, none⟩ _ j hj
  have hc := h.t
  have hz := h.tz
  exact ⟨hg, h.fr.same (ho F (by omega)), (World.cell?_of_block (a := ⟨Z, 0, none⟩) (ho (Z) (by omega))).trans h.h0, (World.cell?_of_block (a := ⟨Z, 1, none⟩) (ho (Z) (by omega))).trans h.h1, (World.cell?_of_block (a := ⟨Z, 2, none⟩) (ho (Z) (by omega))).trans h.h2, (World.cell?_of_block (a := ⟨Z, 3, none⟩) (ho (Z) (by omega))).trans h.h3, (World.cell?_of_block (a := ⟨Z + 1, 0, none⟩) (ho (Z + 1) (by omega))).trans h.p, (World.cell?_of_block (a := ⟨Z + 2, 0, none⟩) (ho (Z + 2) (by omega))).trans h.m, by simp [go_sem, hc], by simp [go_sem, hz], (World.cell?_of_block (a := ⟨Z + 4, 0, none⟩) (ho (Z + 4) (by omega))).trans h.s⟩
theorem GV.putF {w W : World} {Z F : Nat} {v : Value} {R I K : Nat} {much : Int} {fl : List Int} {t i : Nat} (h : GV w Z F v R I K much fl t W) (hF : F < Z) (x : Int) : GV w Z F v R I K much (fl.set i x) t (W.setCell ⟨F, i, none⟩ (.int .i64 x)) := by
  have ho : ∀ j, j ≠ F → (W.setCell ⟨F, i, none⟩ (.int .i64 x)).heap[j]? = W.heap[j]? := fun j hj => Below.heap_setCell W ⟨F, i, none⟩ _ j hj
  have hg : w.grownBy (W.setCell ⟨F, i, none⟩ (.int .i64 x)) (some F) := grown_trans h.grown (setCell_grown W F i _)
  exact ⟨hg, h.fr.put x, (World.cell?_of_block (a := ⟨Z, 0, none⟩) (ho (Z) (by omega))).trans h.h0, (World.cell?_of_block (a := ⟨Z, 1, none⟩) (ho (Z) (by omega))).trans h.h1, (World.cell?_of_block (a := ⟨Z, 2, none⟩) (ho (Z) (by omega))).trans h.h2, (World.cell?_of_block (a := ⟨Z, 3, none⟩) (ho (Z) (by omega))).trans h.h3, (World.cell?_of_block (a := ⟨Z + 1, 0, none⟩) (ho (Z + 1) (by omega))).trans h.p, (World.cell?_of_block (a := ⟨Z + 2, 0, none⟩) (ho (Z + 2) (by omega))).trans h.m, (World.cell?_of_block (a := ⟨Z + 3, 0, none⟩) (ho (Z + 3) (by omega))).trans h.t, (World.frozen?_of_block (a := ⟨Z + 3, 0, none⟩) (ho (Z + 3) (by omega))).trans h.tz, (World.cell?_of_block (a := ⟨Z + 4, 0, none⟩) (ho (Z + 4) (by omega))).trans h.s⟩
/-- What the search does, so many rooms deep. -/
def LeadsAt (w : World) (Z F : Nat) (v : Value) (R I K : Nat) (much : Int) (ds : List Dr) (n : Nat) : Prop :=
  ∀ (W : World) (fl : List Int) (t room : Nat), room < R → t.testBit room = false → t < 2 ^ R → CapOk ds fl → fl.length = 40 → R + 1 ≤ n + cnt R t → GV w Z F v R I K much fl t W →
    Calls Try.prog 108 (#[.int .i64 (room : Nat)] ++ caps Z) W fun e w' => e = .returned (.bool (leadsF ds K much n fl t room).1) ∧ GV w Z F v R I K much (leadsF ds K much n fl t room).2.1 (leadsF ds K much n fl t room).2.2 w'
set_option maxRecDepth 100000 in
set_option maxHeartbeats 4000000 in
theorem leads_step (w : World) (Z F : Nat) (g : Option Addr) (N c : Nat) (R I K : Nat) (much : Int) (ds : List Dr) (n : Nat) (hZ : w.heap.size = Z) (hF : F < Z) (hN : ds.length = N) (hl : N ≤ 40) (hR2 : R ≤ 12) (hI : I < 4096) (hK : K < 4096) (hm : 0 ≤ much ∧ much ≤ 1000) (hD : DoorsOk R ds)
    (hds : ∀ W, w.grownBy W (some F) → DS W (.slice g N c) ds) (ih : LeadsAt w Z F (.slice g N c) R I K much ds n) : LeadsAt w Z F (.slice g N c) R I K much ds (n + 1) := by
  intro W fl t room hroom h0 ht hcap hfl hfu hgv
  have HGV := Kp.mk hgv
  have HIH := Kp.mk ih
  have HDS := Kp.mk hds
  have HZ := Kp.mk hZ
  have HN := Kp.mk hN
  have HHK : Kp (∀ W, Calls Try.prog 61 #[.int .i64 (K : Nat), .int .i64 (room : Nat)] W fun e w' => e = .returned (.bool (K.testBit room)) ∧ W = w') := ⟨fun W => has_any K room W (by omega) (by omega)⟩
  obtain ⟨B, hB⟩ : ∃ B, K.testBit room = B := ⟨_, rfl⟩
  rw [hB] at HHK
  have c3 := hgv.h3
  cases B with
  | true =>
    have HLF : Kp (leadsF ds K much (n + 1) fl t room = (true, fl, t)) := ⟨by unfold leadsF; rw [if_pos hB]⟩
    clear hgv ih hds hZ hN h0 ht hcap hfl hfu hB hD
    unfold caps
    go_enter Try.func108, Try.ntmps108
    go_wp2_with fail
    refine (HHK.out _).mono ?_
    rintro en w1 ⟨rfl, rfl⟩
    go_wp2
    go_ret
    exact ⟨by rw [HLF.out]; rfl, by rw [HLF.out]; exact HGV.out⟩
  | false =>
    have h1b : (t ||| 2 ^ room).testBit room = true := by rw [bit_or]; simp
    have hmk := mark_rel (ds := ds) hroom ht hcap
    have hcn : R + 1 ≤ n + cnt R (t ||| 2 ^ room) := by
      have := cnt_lt (n := R) hmk.sub hmk.lt (fun e => by rw [← e, h0] at h1b; cases h1b)
      omega
    have HRM := Kp.mk hmk
    have H1B := Kp.mk h1b
    have HFO := Kp.mk (leadsF_rel (kept := K) hm.1 hD n)
    obtain ⟨RB, RF, RT, hrs⟩ : ∃ RB RF RT, scan ds much (leadsF ds K much n) room N fl (t ||| 2 ^ room) = (RB, RF, RT) := ⟨_, _, _, rfl⟩
    have HLF : Kp (leadsF ds K much (n + 1) fl t room = (RB, RF, RT)) := ⟨by unfold leadsF; rw [if_neg (by rw [hB]; decide), hN]; exact hrs⟩
    have HRS : Kp (scan ds much (leadsF ds K much n) room (N - 0) fl (t ||| 2 ^ room) = (RB, RF, RT)) := ⟨hrs⟩
    have HORT : Kp (bits .or .i64 (t : Int) (IntKind.i64.wrap ((2 : Int) ^ room)) = ((t ||| 2 ^ room : Nat) : Int)) := ⟨by
      have h2 := pow_small (a := room) (by omega)
      rw [pow_wrap (by omega), or_nat (lt_of_pow ht hR2) (by omega)]⟩
    have HFL := Kp.mk hfl
    have HFU := Kp.mk hcn
    have HDO := Kp.mk hD
    have H00 := Kp.mk h0
    have ct := hgv.t
    have ctz := hgv.tz
    have hroom2 : room ≤ 11 := by omega
    clear hgv ih hds hZ hN h0 ht hcap hfl hfu hB hD h1b hmk hcn hrs
    unfold caps
    go_enter Try.func108, Try.ntmps108
    go_wp2_with fail
    refine (HHK.out _).mono ?_
    rintro en w1 ⟨rfl, rfl⟩
    go_wp2
    refine region_tail 4 (by kernel_rfl) (by kernel_rfl) ?_
    intro wd hwd
    have hbd : Below W.heap.size W wd := by rw [hwd]; exact (Below.refl _ _).drew
    have HG2 := Kp.mk (HGV.out.on hbd)
    clear hwd hbd ct ctz c3 HGV HHK
    have ct := HG2.out.t
    have ctz := HG2.out.tz
    have hor := HORT.out
    simp only [List.take_succ_cons, List.take_zero, List.drop_succ_cons, List.drop_zero]
    repeat still_step
    refine wpStill_nil ?_
    change wpList _ _ _ _ _ _
    have HG3 := Kp.mk (HG2.out.putT HZ.out hF (t ||| 2 ^ room))
    clear hor
    obtain ⟨V, hV⟩ : ∃ V, wd.setCell ⟨Z + 3, 0, none⟩ (.int .i64 ((t ||| 2 ^ room : Nat) : Int)) = V := ⟨_, rfl⟩
    rw [hV] at HG3
    have q1 := HG3.out.h1
    go_wp2
    clear hV q1 ct ctz HG2
    go_loopw [23] (fun i wr => ∃ k : Nat, k ≤ N ∧ i = .int .i64 k ∧ ∃ fk tk, Kp (GV w Z F (.slice g N c) R I K much fk tk wr ∧ scan ds much (leadsF ds K much n) room (N - k) fk tk = (RB, RF, RT) ∧ Rel ds R t fl fk tk ∧ tk.testBit room = true ∧ R + 1 ≤ n + cnt R tk)) (fun i _ => N - (intOf i).toNat)
    case atStart => exact ⟨0, Nat.zero_le _, rfl, _, _, ⟨HG3.out, HRS.out, HRM.out, H1B.out, HFU.out⟩⟩
    case round =>
      clear HG3 HRS HRM H1B HFU
      obtain ⟨k, hk, rfl, fk, tk, HK⟩ := hrel
      by_cases hlt : k < N
      · obtain ⟨d, hx⟩ : ∃ d, ds[k]? = some d := ⟨_, List.getElem?_eq_getElem (by rw [HN.out]; exact hlt)⟩
        have hdd := HDO.out d (List.mem_of_getElem? hx)
        obtain ⟨hgk, hsc, hrel, h1k, hfu⟩ := HK.out
        rw [← HN.out, scan_at hx, HN.out] at hsc
        obtain ⟨gb, cb, e', hid⟩ := HDS.out wr hgk.grown
        obtain ⟨b, o, hg, c1, c2, c3⟩ := hid k d hx
        simp only [Value.slice.injEq] at e'
        obtain ⟨rfl, -, -⟩ := e'
        subst hg
        have hbb := beyd_bd hdd.1 hroom
        obtain ⟨to, hto⟩ := Int.eq_ofNat_of_zero_le hbb.1.1
        obtain ⟨sg, hsg⟩ : ∃ s, (beyd d room).2 = s := ⟨_, rfl⟩
        rw [hto, Int.toNat_natCast, hsg] at hsc
        rw [hto, hsg] at hbb
        have hto2 : to < R := by omega
        have HBE : Kp (∀ W, Calls Try.prog 109 #[.agg #[.int .i64 d.a, .int .i64 d.b, .int .i64 d.c], .int .i64 (room : Nat)] W fun e w' => e = .returned (.tuple #[.int .i64 (to : Nat), .int .i64 sg]) ∧ Below W.heap.size W w') := ⟨fun W => by
          have := beyond_any d.a d.b d.c room W
          have e1 : (⟨d.a, d.b, d.c⟩ : Dr) = d := rfl
          rw [e1, hto, hsg] at this
          exact this⟩
        have HSC := Kp.mk hsc
        have HX := Kp.mk hx
        have HREL := Kp.mk hrel
        have H1K := Kp.mk h1k
        have HFUK := Kp.mk hfu
        have HDD := Kp.mk hdd
        have HTO := Kp.mk (And.intro hto hsg)
        have HHT : Kp (∀ W, Calls Try.prog 61 #[.int .i64 (tk : Nat), .int .i64 (to : Nat)] W fun e w' => e = .returned (.bool (tk.testBit to)) ∧ Below W.heap.size W w') := ⟨fun W => (has_any tk to W (by have := lt_of_pow hrel.lt hR2; omega) (by omega)).mono fun e w' ⟨he, hw⟩ => ⟨he, hw ▸ Below.refl _ _⟩⟩
        have hcp := hrel.cap k d hx
        have HFI : Kp (fk[k]? = some (fk.getD k 0)) := ⟨by rw [List.getD_eq_getElem?_getD, List.getElem?_eq_getElem (by rw [hrel.len, HFL.out]; omega)]; rfl⟩
        obtain ⟨f, hf⟩ : ∃ f, fk.getD k 0 = f := ⟨_, rfl⟩
        rw [hf] at HSC HFI hcp
        obtain ⟨da, db, dc⟩ := d
        simp only at c1 c2 c3 hdd hcp HBE HSC
        have o1 : (k : Int) < (N : Int) := by omega
        have o4 : k ≤ 40 := by omega
        have ik : (k : Int) < 40 := by omega
        have jk : k < 40 := by omega
        have ot : to ≤ 11 := by omega
        have HBD : Kp ((-1 ≤ sg ∧ sg ≤ 1) ∧ (0 ≤ dc ∧ dc ≤ 1000) ∧ (-dc ≤ f ∧ f ≤ dc)) := ⟨⟨hbb.2, hdd.2, hcp⟩⟩
        have HGK := Kp.mk hgk
        clear hx hdd hgk hsc hrel h1k hfu hid hbb hto hsg hcp hf HK
        go_wp2_with fail
        refine (HBE.out _).mono ?_
        rintro en w2 ⟨rfl, hb2⟩
        have hbz : Below wr.heap.size wr (wr.alloc (.cells #[.int .i64 da, .int .i64 db, .int .i64 dc] 48)) := (Below.refl _ _).alloc (Nat.le_refl _) _
        have HG2 := Kp.mk (HGK.out.on (hbz.trans (hb2.mono hbz.size)))
        have HD2 : Kp (w2.cell? ⟨wr.heap.size, 2, none⟩ = some (.int .i64 dc)) := ⟨(hb2.cell (p := ⟨wr.heap.size, 2, none⟩) (by simp)).trans (by go_simp)⟩
        obtain ⟨D, hD⟩ : ∃ D, wr.heap.size = D := ⟨_, rfl⟩
        rw [hD] at HD2
        clear hbz hb2 c1 c2 c3 HGK HBE
        go_wp2_with fail
        try simp only [hD]
        clear hD
        have qd := HD2.out
        have qt := HG2.out.t
        have qp := HG2.out.p
        have qm := HG2.out.m
        have qf := HG2.out.fr.cell HFI.out
        obtain ⟨Bt, hBt⟩ : ∃ B, tk.testBit to = B := ⟨_, rfl⟩
        have HBT := Kp.mk hBt
        rw [hBt] at HHT HSC
        have K1 : Kp (∀ d os, _) := ⟨fun d os => HHT.out (grow (redrawn w2 d) os)⟩
        have rg_qt := fun d os => cell_regrown qt d os
        have rg_qd := fun d os => cell_regrown qd d os
        have rg_qp := fun d os => cell_regrown qp d os
        have rg_qm := fun d os => cell_regrown qm d os
        have rg_qf := fun d os => cell_regrown qf d os
        clear hBt HHT qt qd qp qm qf HD2
        cases Bt with
        | true =>
          have HSN : Kp (scan ds much (leadsF ds K much n) room (N - (k + 1)) fk tk = (RB, RF, RT)) := ⟨by have h := HSC.out; rw [if_pos (by rfl)] at h; exact h⟩
          clear HSC
          refine wp_region_quiet_below (by kernel_rfl) (by kernel_rfl) ?_
          repeat (any_goals (first | go_big_quiet_step (first | (with_reducible exact Calls.regrown_of (K1.out _ _))) | quiet_step (first | (with_reducible exact Calls.regrown_of (K1.out _ _)))))
          refine wpQuiet_nil ?_
          intro _ hqw
          obtain ⟨⟨dq, osq⟩, hqv⟩ := hqw
          subst hqv
          obtain ⟨wq, hqwq⟩ : ∃ wq, grow (redrawn (w2) dq) osq = wq := ⟨_, rfl⟩
          have hbwq : Below (w2).heap.size (w2) wq := by rw [← hqwq]; exact below_regrown _ dq osq
          rw [hqwq]
          clear hqwq
          have HGQ := Kp.mk (HG2.out.on hbwq)
          clear hbwq rg_qt rg_qd rg_qp rg_qm rg_qf K1 HG2
          go_wp2
          go_roundw
          case rel => exact ⟨k + 1, by omega, by go_num, fk, tk, ⟨HGQ.out, HSN.out, HREL.out, H1K.out, HFUK.out⟩⟩
          case measure => simp [intOf]; omega
        | false =>
          obtain ⟨⟨s1, s2⟩, ⟨s3, s4⟩, s5, s6⟩ := HBD.out
          have hs3 : sg = -1 ∨ sg = 0 ∨ sg = 1 := by omega
          obtain ⟨SF, hSF⟩ : ∃ SF, sg * f = SF := ⟨_, rfl⟩
          have hsb : -1000 ≤ SF ∧ SF ≤ 1000 := by rw [← hSF]; rcases hs3 with rfl | rfl | rfl <;> omega
          have e1 : IntKind.i64.wrap (sg * f) = SF := (IntWalk.i64_in _ (by omega)).trans hSF
          have e2 : IntKind.i64.wrap (dc - SF) = dc - SF := IntWalk.i64_in _ (by omega)
          rw [hSF] at HSC
          have HSB := Kp.mk (And.intro hs3 hsb)
          clear hSF hsb hs3 s1 s2 s3 s4 s5 s6
          by_cases hcm : dc - SF < much
          · have HSN : Kp (scan ds much (leadsF ds K much n) room (N - (k + 1)) fk tk = (RB, RF, RT)) := ⟨by have h := HSC.out; rw [if_pos (by simp [hcm])] at h; exact h⟩
            clear HSC
            refine wp_region_quiet_below (by kernel_rfl) (by kernel_rfl) ?_
            repeat (any_goals (first | go_big_quiet_step (first | (with_reducible exact Calls.regrown_of (K1.out _ _))) | quiet_step (first | (with_reducible exact Calls.regrown_of (K1.out _ _)))))
            refine wpQuiet_nil ?_
            intro _ hqw
            obtain ⟨⟨dq, osq⟩, hqv⟩ := hqw
            subst hqv
            obtain ⟨wq, hqwq⟩ : ∃ wq, grow (redrawn (w2) dq) osq = wq := ⟨_, rfl⟩
            have hbwq : Below (w2).heap.size (w2) wq := by rw [← hqwq]; exact below_regrown _ dq osq
            rw [hqwq]
            clear hqwq
            have HGQ := Kp.mk (HG2.out.on hbwq)
            clear hbwq rg_qt rg_qd rg_qp rg_qm rg_qf K1 HG2 e1 e2
            go_wp2
            go_roundw
            case rel => exact ⟨k + 1, by omega, by go_num, fk, tk, ⟨HGQ.out, HSN.out, HREL.out, H1K.out, HFUK.out⟩⟩
            case measure => simp [intOf]; omega
          · obtain ⟨LB, LF, LT, hlf⟩ : ∃ LB LF LT, leadsF ds K much n fk tk to = (LB, LF, LT) := ⟨_, _, _, rfl⟩
            have HSN := HSC.out
            rw [if_neg (by simp [hcm]), hlf] at HSN
            have HSN := Kp.mk HSN
            have hrl := HFO.out fk tk to hto2 HBT.out HREL.out.lt HREL.out.cap (by rw [HREL.out.len, HFL.out, HN.out]; omega)
            rw [hlf] at hrl
            have HRL := Kp.mk hrl
            have HI2 : Kp (∀ V, GV w Z F (.slice (some ⟨b, o, none⟩) N c) R I K much fk tk V → Calls Try.prog 108 #[.int .i64 (to : Nat), .pointer (some ⟨Z, 0, none⟩), .pointer (some ⟨Z + 3, 0, none⟩), .pointer (some ⟨Z + 1, 0, none⟩), .pointer (some ⟨Z + 2, 0, none⟩), .pointer (some ⟨Z + 4, 0, none⟩)] V fun e w' => e = .returned (.bool LB) ∧ GV w Z F (.slice (some ⟨b, o, none⟩) N c) R I K much LF LT w') := ⟨fun V hV => by
              have h := HIH.out V fk tk to hto2 HBT.out HREL.out.lt HREL.out.cap (by rw [HREL.out.len, HFL.out]) HFUK.out hV
              rw [hlf] at h
              exact h⟩
            clear HSC hlf hrl
            refine wp_region_quiet_below (by kernel_rfl) (by kernel_rfl) ?_
            repeat (any_goals (first | go_big_quiet_step (first | (with_reducible exact Calls.regrown_of (K1.out _ _))) | quiet_step (first | (with_reducible exact Calls.regrown_of (K1.out _ _)))))
            refine wpQuiet_nil ?_
            intro _ hqw
            obtain ⟨⟨dq, osq⟩, hqv⟩ := hqw
            subst hqv
            obtain ⟨wq, hqwq⟩ : ∃ wq, grow (redrawn (w2) dq) osq = wq := ⟨_, rfl⟩
            have hbwq : Below (w2).heap.size (w2) wq := by rw [← hqwq]; exact below_regrown _ dq osq
            rw [hqwq]
            clear hqwq
            have HGQ := Kp.mk (HG2.out.on hbwq)
            have qs := HGQ.out.s
            unfold caps at qs
            clear hbwq rg_qt rg_qd rg_qp rg_qm rg_qf K1 HG2 e1 e2 hcm
            go_wp2_with fail
            refine (HI2.out _ HGQ.out).mono ?_
            rintro en w4 ⟨rfl, hg4⟩
            have HG4 := Kp.mk hg4
            clear hg4 qs HGQ HI2
            cases LB with
            | false =>
              have HSM : Kp (scan ds much (leadsF ds K much n) room (N - (k + 1)) LF LT = (RB, RF, RT)) := ⟨HSN.out⟩
              have HR2 := Kp.mk (HREL.out.trans HRL.out)
              have H12 := Kp.mk (HRL.out.sub _ H1K.out)
              have HF2 : Kp (R + 1 ≤ n + cnt R LT) := ⟨Nat.le_trans HFUK.out (Nat.add_le_add_left (cnt_mono HRL.out.sub) n)⟩
              clear HSN
              go_wp2
              go_roundw
              case rel => exact ⟨k + 1, by omega, by go_num, LF, LT, ⟨HG4.out, HSM.out, HR2.out, H12.out, HF2.out⟩⟩
              case measure => simp [intOf]; omega
            | true =>
              obtain ⟨f2, hf2⟩ : ∃ x, LF.getD k 0 = x := ⟨_, rfl⟩
              have HF2 : Kp (LF[k]? = some f2) := ⟨by rw [← hf2, List.getD_eq_getElem?_getD, List.getElem?_eq_getElem (by rw [HRL.out.len, HREL.out.len, HFL.out]; omega)]; rfl⟩
              have hfb := HRL.out.cap k _ HX.out
              simp only at hfb
              rw [hf2] at hfb
              obtain ⟨hs3, -⟩ := HSB.out
              obtain ⟨⟨s1, s2⟩, ⟨s3, s4⟩, s5, s6⟩ := HBD.out
              obtain ⟨SM, hSM⟩ : ∃ SM, sg * much = SM := ⟨_, rfl⟩
              have hsb : -1000 ≤ SM ∧ SM ≤ 1000 := by rw [← hSM]; rcases hs3 with rfl | rfl | rfl <;> omega
              have e4 : IntKind.i64.wrap (sg * much) = SM := (IntWalk.i64_in _ (by omega)).trans hSM
              have e5 : IntKind.i64.wrap (f2 + SM) = f2 + SM := IntWalk.i64_in _ (by omega)
              have HRE : Kp ((true, LF.set k (f2 + SM), LT) = (RB, RF, RT)) := ⟨by have h := HSN.out; simp only [hf2, hSM] at h; exact h⟩
              have qp := HG4.out.p
              clear HSN hf2 hfb hs3 s1 s2 s3 s4 s5 s6 hSM hsb
              go_wp2
              refine region_tail 11 (by kernel_rfl) (by kernel_rfl) ?_
              intro wd hwd
              have hbd : Below w4.heap.size w4 wd := by rw [hwd]; exact (Below.refl _ _).drew
              have HG5 := Kp.mk (HG4.out.on hbd)
              clear hwd hbd qp HG4
              have qp := HG5.out.p
              have qm := HG5.out.m
              have qf := HG5.out.fr.cell HF2.out
              have qz := HG5.out.fr.fz (i := k)
              simp only [List.take_succ_cons, List.take_zero, List.drop_succ_cons, List.drop_zero]
              repeat still_step
              refine wpStill_nil ?_
              change wpList _ _ _ _ _ _
              have HG6 := Kp.mk (HG5.out.putF (i := k) hF (f2 + SM))
              go_wp2
              go_ret
              exact ⟨by rw [HLF.out, ← HRE.out]; rfl, by rw [HLF.out, ← HRE.out]; exact HG6.out⟩
      · have hkn : k = N := by omega
        obtain ⟨hgk, hsc, -, -, -⟩ := HK.out
        have HGK := Kp.mk hgk
        have HRE : Kp ((false, fk, tk) = (RB, RF, RT)) := ⟨by rw [hkn, Nat.sub_self] at hsc; exact hsc⟩
        have o1 : ¬ (k : Int) < (N : Int) := by omega
        clear hgk hsc HK hkn
        go_wp2
        go_ret
        exact ⟨by rw [HLF.out, ← HRE.out]; rfl, by rw [HLF.out, ← HRE.out]; exact HGK.out⟩
end Go.Proofs.Ythkamfjjfkpekaa.Pe
