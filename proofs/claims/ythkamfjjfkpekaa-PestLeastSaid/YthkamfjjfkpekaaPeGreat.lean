/-
  WALKS (layer 8, pest): a flow of the greatest value.
-/
import Derived.Test.YthkamfjjfkpekaaPeGrowQ
namespace Go.Proofs.Ythkamfjjfkpekaa.Pe
open Go Go.RowKit Go.Proofs Go.Sort

theorem results_two {P : Program} {fn : Func} {p q : Tmp} {ty : TypeId} (h : fn.results = #[.cell p ty, .tmp q]) (tmps : Array Value) (w : World) (g : Nat) (t : TypeId) (cs : Array Value) (fr : Nat × Nat) (d : TypeDesc)
    (hp : tmps.getD p undef = .pointer (some ⟨g, 0, none⟩)) (hg : w.heap[g]? = some (.cells cs t fr))
    (hu : P.underlying ty = some d) (hd : (match d with | .struct _ | .array _ _ => true | _ => false) = true) (hi : (P.info? ty).map (·.size) = some cs.size) :
    (results fn tmps).run P w = .ok (.tuple #[.agg cs, tmps.getD q undef]) w := by
  have hp' : tmps[p]?.getD undef = .pointer (some ⟨g, 0, none⟩) := by simpa using hp
  simp [results, h, hp', asAddr, run_loadVar_row w g t ty cs fr d hg hu hd hi]
/-- The numbers that lie in a block. -/
def rowOf (W : World) (b : Nat) : List Int := match W.heap[b]? with
  | some (.cells cs _ _) => cs.toList.map intOf
  | _ => []
theorem Row.of {T : TypeId} {W : World} {b : Nat} {L : List Int} (h : Row T W b L) : rowOf W b = L := by
  unfold rowOf
  rw [h.at_]
  simp only [ivs, List.map_map]
  rw [show (intOf ∘ Value.int .i64) = id from funext fun x => rfl, List.map_id]
/-- The house and its flow, as they lie. -/
structure HV (w : World) (Z : Nat) (v : Value) (R I K : Nat) (fl : List Int) (W : World) : Prop where
  below : Below w.heap.size w W
  h0 : W.cell? ⟨Z, 0, none⟩ = some (.int .i64 (R : Nat))
  h1 : W.cell? ⟨Z, 1, none⟩ = some v
  h2 : W.cell? ⟨Z, 2, none⟩ = some (.int .i64 (I : Nat))
  h3 : W.cell? ⟨Z, 3, none⟩ = some (.int .i64 (K : Nat))
  fr : Row 83 W (Z + 1) fl
theorem HV.grown {w W V : World} {Z : Nat} {v : Value} {R I K : Nat} {fl fl2 : List Int} (h : HV w Z v R I K fl W) (hZ : w.heap.size = Z) (hg : W.grownBy V (some (Z + 1))) (hr : Row 83 V (Z + 1) fl2) : HV w Z v R I K fl2 V := by
  have hb : ∀ j, j < W.heap.size → j ≠ Z + 1 → V.heap[j]? = W.heap[j]? := fun j hj hn => hg.block j hj (fun e => hn (by simp only [Option.some.injEq] at e; omega))
  have hZl : Z < W.heap.size := World.block_lt_of_cell? _ _ h.h0
  have hbz := hb Z hZl (by omega)
  exact ⟨⟨hg.os.trans h.below.os, hg.tape.trans h.below.tape, hg.output.trans h.below.output, Nat.le_trans h.below.size hg.size, fun j hj => (hb j (Nat.lt_of_lt_of_le hj h.below.size) (by omega)).trans (h.below.block j hj)⟩,
    (World.cell?_of_block (a := ⟨Z, 0, none⟩) hbz).trans h.h0, (World.cell?_of_block (a := ⟨Z, 1, none⟩) hbz).trans h.h1, (World.cell?_of_block (a := ⟨Z, 2, none⟩) hbz).trans h.h2, (World.cell?_of_block (a := ⟨Z, 3, none⟩) hbz).trans h.h3, hr⟩
theorem great_start {w W1 : World} {v : Value} {R I K : Nat} {t : TypeId}
    (h : (w.alloc (.cells #[.int .i64 (R : Nat), v, .int .i64 (I : Nat), .int .i64 (K : Nat)] t)).alloc (.cells (ivs (List.replicate 40 0)) 83) = W1) : HV w w.heap.size v R I K (List.replicate 40 0) W1 := by
  subst h
  exact ⟨by repeat (first | exact Below.refl _ _ | refine Below.alloc ?_ (by simp <;> omega) _ | refine bDrewN ?_ _ | refine Below.drew ?_), by go_simp, by go_simp, by go_simp, by go_simp, ⟨second_row _ _ _ _⟩⟩
/-- A house's flow, kept within what doors bear. -/
structure Fl (ds : List Dr) (fl : List Int) : Prop where
  len : fl.length = 40
  cap : CapOk ds fl
theorem fl_zero {ds : List Dr} {R : Nat} (hD : DoorsOk R ds) : Fl ds (List.replicate 40 0) := ⟨rfl, fun j d hd => by
  have := (hD d (List.mem_of_getElem? hd)).2
  have e : (List.replicate 40 (0 : Int)).getD j 0 = 0 := by
    rw [List.getD_eq_getElem?_getD, List.getElem?_replicate]
    split <;> rfl
  omega⟩
theorem greatF_end {ds : List Dr} {I K R FU t : Nat} {fl : List Int} : ∀ n : Nat, greatF ds I K R FU n 0 fl t = (fl, t)
  | 0 => rfl
  | n + 1 => by unfold greatF; rw [if_neg (by omega)]
set_option maxRecDepth 100000 in
set_option maxHeartbeats 4000000 in
theorem greatest_any (w : World) (g : Option Addr) (N c : Nat) (R I K : Nat) (ds : List Dr) (hN : ds.length = N) (hl : N ≤ 40) (hR2 : R ≤ 12) (hI : I < 4096) (hK : K < 4096) (hIK : I &&& K = 0) (hD : DoorsOk R ds) (hds : DS w (.slice g N c) ds) (GF : List Int) (GT : Nat)
    (hgr : greatF ds I K R 1920001 11 1000 (List.replicate 40 0) 0 = (GF, GT)) :
    Calls Try.prog 75 #[.agg #[.int .i64 (R : Nat), .slice g N c, .int .i64 (I : Nat), .int .i64 (K : Nat)]] w fun e w' => e = .returned (.tuple #[.agg (ivs GF), .int .i64 (GT : Nat)]) ∧ Below w.heap.size w w' := by
  have HGA : Kp (∀ (W : World) (fl : List Int) (m : Int), Below w.heap.size w W → 0 ≤ m ∧ m ≤ 1000 → Row 83 W (w.heap.size + 1) fl → Fl ds fl → Calls Try.prog 98 #[.agg #[.int .i64 (R : Nat), .slice g N c, .int .i64 (I : Nat), .int .i64 (K : Nat)], .pointer (some ⟨w.heap.size + 1, 0, none⟩), .int .i64 m] W fun e w' => e = .returned (.tuple #[.int .i64 ((growF ds I K m R R fl 0).2.2 : Nat), .bool (growF ds I K m R R fl 0).1]) ∧ W.grownBy w' (some (w.heap.size + 1)) ∧ Row 83 w' (w.heap.size + 1) (growF ds I K m R R fl 0).2.1) := ⟨fun W fl m hW hm hr hf => by
    refine grow_any W (w.heap.size + 1) g N c R I K m ds fl hr.lt hN hl hR2 hI hK hm hD (fun V hV => ?_) hr hf.len hf.cap
    refine hds.below ⟨hV.os.trans hW.os, hV.tape.trans hW.tape, hV.output.trans hW.output, Nat.le_trans hW.size hV.size, fun j hj => ?_⟩
    exact (hV.block j (Nat.lt_of_lt_of_le hj hW.size) (fun e => by simp only [Option.some.injEq] at e; omega)).trans (hW.block j hj)⟩
  have HOK : Kp (∀ (m : Int) (fl : List Int), 0 ≤ m → Fl ds fl → Fl ds (growF ds I K m R R fl 0).2.1 ∧ ((growF ds I K m R R fl 0).1 = true → valF ds I (growF ds I K m R R fl 0).2.1 = valF ds I fl + m)) := ⟨fun m fl hm hf => by
    have hle : ds.length ≤ fl.length := by rw [hf.len]; omega
    obtain ⟨h1, h2, -, -, -⟩ := growF_ok (I := I) (K := K) hm hD R fl 0 (Nat.le_refl _) (Nat.pow_pos (by omega)) hf.cap hle
    exact ⟨⟨h1.trans hf.len, h2⟩, growF_val hm hR2 hD hIK hf.cap hle⟩⟩
  have HVB : Kp (∀ fl, Fl ds fl → -960000 ≤ valF ds I fl ∧ valF ds I fl ≤ 960000) := ⟨fun fl hf => valF_bd hR2 hD (by omega) hf.cap⟩
  have HF0 := Kp.mk (fl_zero hD)
  have HGR := Kp.mk hgr
  clear hN hD hds hIK hgr
  go_enter Try.func75, Try.ntmps75
  go_wp2
  obtain ⟨W1, hW1⟩ : ∃ W, (w.alloc (.cells #[.int .i64 (R : Nat), .slice g N c, .int .i64 (I : Nat), .int .i64 (K : Nat)] 24)).alloc (.cells (ivs (List.replicate 40 0)) 83) = W := ⟨_, rfl⟩
  refine wp_world hW1 ?_
  have HV1 := Kp.mk (great_start hW1)
  obtain ⟨Z, hZ⟩ : ∃ Z, w.heap.size = Z := ⟨_, rfl⟩
  have HZ := Kp.mk hZ
  rw [hZ] at HV1
  try simp only [hZ]
  try simp only [Nat.add_assoc, Nat.reduceAdd]
  clear hW1 hZ
  go_loopw [3, 4] (fun a b wr => ∃ (m : Int) (n tk : Nat) (fk : List Int), a = .int .i64 (tk : Nat) ∧ b = .int .i64 m ∧ (0 ≤ m ∧ m ≤ 1000) ∧ Kp (HV w Z (.slice g N c) R I K fk wr ∧ Fl ds fk ∧ m < 2 ^ n ∧ greatF ds I K R 1920001 n m fk tk = (GF, GT))) (fun _ b _ => (intOf b).toNat)
  case atStart => exact ⟨1000, 11, 0, _, rfl, rfl, by omega, ⟨HV1.out, HF0.out, by omega, HGR.out⟩⟩
  case round =>
    clear HV1 HF0 HGR
    obtain ⟨m, n, tk, fk, rfl, rfl, hm, HK⟩ := hrel
    by_cases h0 : 0 < m
    · obtain ⟨hhv, hfl, hmn, hgr⟩ := HK.out
      obtain ⟨n1, rfl⟩ : ∃ k, n = k + 1 := ⟨n - 1, by
        cases n with
        | zero => simp at hmn; omega
        | succ n => rfl⟩
      have hm2 : m / 2 < 2 ^ n1 := by
        rw [Int.pow_succ] at hmn
        omega
      obtain ⟨QF, QT, hq⟩ : ∃ QF QT, muchF ds I K m R 1920001 fk = (QF, QT) := ⟨_, _, rfl⟩
      have hgr2 : greatF ds I K R 1920001 n1 (m / 2) QF QT = (GF, GT) := by
        unfold greatF at hgr
        rw [if_pos h0, hq] at hgr
        exact hgr
      have hvb := HVB.out fk hfl
      have HHV := Kp.mk hhv
      have HFK := Kp.mk hfl
      have HM2 := Kp.mk (And.intro hm2 hgr2)
      have HQ : Kp (muchF ds I K m R 1920001 fk = (QF, QT) ∧ 960000 - valF ds I fk < (1920001 : Nat)) := ⟨hq, by omega⟩
      clear hhv hfl hmn hgr hm2 hgr2 hq hvb HK
      go_wp2
      go_loopw [3, 5] (fun a b wi => ∃ (ti nf : Nat) (fi : List Int) (fo : Bool), a = .int .i64 (ti : Nat) ∧ b = .bool fo ∧ Kp (HV w Z (.slice g N c) R I K fi wi ∧ Fl ds fi ∧ (fo = true → muchF ds I K m R nf fi = (QF, QT) ∧ 960000 - valF ds I fi < nf) ∧ (fo = false → (fi, ti) = (QF, QT)))) (fun _ b wi => match b with
        | .bool true => (960001 - valF ds I (rowOf wi (Z + 1))).toNat + 1
        | _ => 0)
      case atStart => exact ⟨tk, 1920001, fk, true, rfl, rfl, ⟨HHV.out, HFK.out, fun _ => HQ.out, fun h => by cases h⟩⟩
      case round =>
        clear HHV HFK HQ
        obtain ⟨ti, nf, fi, fo, rfl, rfl, HK⟩ := hrel
        obtain ⟨hhv, hfl, hq1, hq2⟩ := HK.out
        have HHV := Kp.mk hhv
        have HFI := Kp.mk hfl
        cases fo with
        | false =>
          have HQE := Kp.mk (hq2 rfl)
          clear hhv hfl hq1 hq2 HK
          have HHQ : Kp (HV w Z (.slice g N c) R I K QF wr ∧ Fl ds QF ∧ m / 2 < 2 ^ n1 ∧ greatF ds I K R 1920001 n1 (m / 2) QF QT = (GF, GT)) := ⟨by
            have h := HQE.out
            simp only [Prod.mk.injEq] at h
            exact ⟨h.1 ▸ HHV.out, h.1 ▸ HFI.out, HM2.out⟩⟩
          have HTI : Kp (ti = QT) := ⟨by have h := HQE.out; simp only [Prod.mk.injEq] at h; exact h.2⟩
          go_wp2
          go_roundw
          case rel => exact ⟨m / 2, n1, QT, QF, by rw [HTI.out], rfl, by omega, HHQ⟩
          case measure => simp [intOf]; omega
        | true =>
          obtain ⟨hq, hqn⟩ := hq1 rfl
          have hvb := HVB.out fi hfl
          obtain ⟨n2, rfl⟩ : ∃ k, nf = k + 1 := ⟨nf - 1, by omega⟩
          obtain ⟨hok1, hok2⟩ := HOK.out m fi hm.1 hfl
          obtain ⟨GB, GL, G2, hge⟩ : ∃ GB GL G2, growF ds I K m R R fi 0 = (GB, GL, G2) := ⟨_, _, _, rfl⟩
          have HCL : Kp (Calls Try.prog 98 #[.agg #[.int .i64 (R : Nat), .slice g N c, .int .i64 (I : Nat), .int .i64 (K : Nat)], .pointer (some ⟨Z + 1, 0, none⟩), .int .i64 m] wr fun e w' => e = .returned (.tuple #[.int .i64 (G2 : Nat), .bool GB]) ∧ wr.grownBy w' (some (Z + 1)) ∧ Row 83 w' (Z + 1) GL) := ⟨by
            have h := HGA.out wr fi m hhv.below hm (by rw [HZ.out]; exact hhv.fr) hfl
            rw [hge, HZ.out] at h
            exact h⟩
          rw [hge] at hok1 hok2
          unfold muchF at hq
          rw [hge] at hq
          have HQ3 := Kp.mk hq
          have HO1 := Kp.mk hok1
          have HO2 := Kp.mk hok2
          have HQN := Kp.mk hqn
          have HRO := Kp.mk hhv.fr.of
          have q0 := hhv.h0
          have q1 := hhv.h1
          have q2 := hhv.h2
          have q3 := hhv.h3
          clear hq1 hq2 hq hok1 hok2 hhv hfl hqn hvb hge HK
          go_wp2_with fail
          refine (HCL.out).mono ?_
          rintro en w4 ⟨rfl, hg4, hr4⟩
          have HV4 := Kp.mk (HHV.out.grown HZ.out hg4 hr4)
          clear hg4 hr4 q0 q1 q2 q3 HCL
          cases GB with
          | true =>
            have HR4 : Kp (muchF ds I K m R n2 GL = (QF, QT) ∧ 960000 - valF ds I GL < n2) := ⟨⟨HQ3.out, by have h1 := HO2.out rfl; have h2 := HQN.out; (try simp only at h1); omega⟩⟩
            have HME : Kp ((960001 - valF ds I (rowOf w4 (Z + 1))).toNat + 1 < (960001 - valF ds I (rowOf wr (Z + 1))).toNat + 1) := ⟨by
              rw [HV4.out.fr.of, HRO.out]
              have h1 := HO2.out rfl
              have h2 := HVB.out fi HFI.out
              have h3 := HVB.out GL HO1.out
              try simp only at h1
              omega⟩
            clear HQ3
            go_wp2
            go_roundw
            case rel => exact ⟨G2, n2, GL, true, rfl, rfl, ⟨HV4.out, HO1.out, fun _ => HR4.out, fun h => by cases h⟩⟩
            case measure => exact HME.out
          | false =>
            have HR4 : Kp ((GL, G2) = (QF, QT)) := ⟨HQ3.out⟩
            clear HQ3
            go_wp2
            go_roundw
            case rel => exact ⟨G2, n2, GL, false, rfl, rfl, ⟨HV4.out, HO1.out, fun h => (by cases h), fun _ => HR4.out⟩⟩
            case measure => exact Nat.succ_pos _
    · have hm0 : m = 0 := by omega
      obtain ⟨hhv, hfl, hmn, hgr⟩ := HK.out
      rw [hm0, greatF_end] at hgr
      have HHV := Kp.mk hhv
      have HGE : Kp (fk = GF ∧ tk = GT) := ⟨by simp only [Prod.mk.injEq] at hgr; exact hgr⟩
      have HIS : Kp ((Try.prog.info? 83).map (·.size) = some (ivs fk).size) := ⟨by rw [ivs_size, hfl.len]; kernel_rfl⟩
      have HOS : Kp ((ivs fk).size = (ivs fk).size) := ⟨rfl⟩
      have HRW := Kp.mk hhv.fr.at_
      clear hhv hfl hmn hgr HK
      go_wp2_with (first | (with_reducible refine wpList_load_row (o := ⟨some 17, _, _, _, _, _⟩) rfl 83 (.tmp 2) rfl (Z + 1) rfl 83 (ivs fk) (0, 0) _ HRW.out Try.underlying83 rfl HIS.out ?_) | (with_reducible refine wpList_store_rowTo rfl 83 (.tmp 2) (.tmp 17) rfl rfl (Z + 1) (ivs fk) rfl rfl 83 _ HRW.out HIS.out HOS.out (ivs_one _) ?_))
      refine bodyPost_ret (v := .tuple #[.agg (ivs fk), .int .i64 (tk : Nat)]) (results_two (p := 2) (q := 3) rfl _ _ (Z + 1) 83 (ivs fk) (0, 0) _ rfl (setRow_heap wr (Z + 1) _ _ _ _ HRW.out) Try.underlying83 rfl HIS.out) rfl ⟨?_, ?_⟩
      · rw [HGE.out.1, HGE.out.2]
      · exact below_setRow HHV.out.below (by have := HZ.out; omega) _
end Go.Proofs.Ythkamfjjfkpekaa.Pe
