/-
  WALKS (layer 8, pest): the least cost of a cut, by the program.
-/
import Derived.Test.YthkamfjjfkpekaaPeGreat
namespace Go.Proofs.Ythkamfjjfkpekaa.Pe
open Go Go.RowKit Go.Proofs Go.Sort

theorem muchF_fl {ds : List Dr} {I K R : Nat} {m : Int} (hm : 0 ≤ m) (hD : DoorsOk R ds) (hl : ds.length ≤ 40) : ∀ (n : Nat) (fl : List Int), Fl ds fl → Fl ds (muchF ds I K m R n fl).1
  | 0, fl, h => h
  | n + 1, fl, h => by
    obtain ⟨h1, h2, -, -, -⟩ := growF_ok (I := I) (K := K) hm hD R fl 0 (Nat.le_refl _) (Nat.pow_pos (by omega)) h.cap (by rw [h.len]; exact hl)
    have hf : Fl ds (growF ds I K m R R fl 0).2.1 := ⟨h1.trans h.len, h2⟩
    unfold muchF
    split
    · next fl2 t2 he => rw [he] at hf; exact muchF_fl hm hD hl n fl2 hf
    · next fl2 t2 he => rw [he] at hf; exact hf
theorem greatF_fl {ds : List Dr} {I K R FU : Nat} (hD : DoorsOk R ds) (hl : ds.length ≤ 40) : ∀ (n : Nat) (m : Int) (fl : List Int) (t : Nat), 0 ≤ m → Fl ds fl → Fl ds (greatF ds I K R FU n m fl t).1
  | 0, m, fl, t, _, h => h
  | n + 1, m, fl, t, hm, h => by
    unfold greatF
    split
    · exact greatF_fl hD hl n (m / 2) _ _ (by omega) (muchF_fl hm hD hl FU fl h)
    · exact h
/-- The flow that the program finds, and the rooms to which more could go. -/
def bestF (ds : List Dr) (I K R : Nat) : List Int × Nat := greatF ds I K R 1920001 11 1000 (List.replicate 40 0) 0
theorem bestF_fl {ds : List Dr} {I K R : Nat} (hD : DoorsOk R ds) (hl : ds.length ≤ 40) : Fl ds (bestF ds I K R).1 := greatF_fl hD hl 11 1000 _ 0 (by omega) (fl_zero hD)
theorem doorsIn_ok {R : Nat} {ds : List Dr} (h : DoorsOk R ds) (hR : R ≤ 12) : DoorsIn ds := fun d hd => by have := h d hd; omega
set_option maxRecDepth 100000 in
set_option maxHeartbeats 2000000 in
theorem least_any (w : World) (g : Option Addr) (N c : Nat) (R I K : Nat) (ds : List Dr) (hN : ds.length = N) (hl : N ≤ 40) (hR2 : R ≤ 12) (hI : I < 4096) (hK : K < 4096) (hIK : I &&& K = 0) (hD : DoorsOk R ds) (hds : DS w (.slice g N c) ds) :
    Calls Try.prog 78 #[.agg #[.int .i64 (R : Nat), .slice g N c, .int .i64 (I : Nat), .int .i64 (K : Nat)]] w fun e w' => e = .returned (.int .i64 (valF ds I (bestF ds I K R).1)) ∧ Below w.heap.size w w' := by
  have hf := bestF_fl (I := I) (K := K) hD (by omega)
  obtain ⟨GF, GT, hgr⟩ : ∃ GF GT, bestF ds I K R = (GF, GT) := ⟨_, _, rfl⟩
  rw [hgr] at hf ⊢
  simp only at hf ⊢
  have HGA : Kp (∀ W, Below w.heap.size w W → Calls Try.prog 75 #[.agg #[.int .i64 (R : Nat), .slice g N c, .int .i64 (I : Nat), .int .i64 (K : Nat)]] W fun e w' => e = .returned (.tuple #[.agg (ivs GF), .int .i64 (GT : Nat)]) ∧ Below W.heap.size W w') := ⟨fun W hW => greatest_any W g N c R I K ds hN hl hR2 hI hK hIK hD (hds.below hW) GF GT hgr⟩
  have HVA : Kp (∀ W, Below w.heap.size w W → Calls Try.prog 73 #[.agg #[.int .i64 (R : Nat), .slice g N c, .int .i64 (I : Nat), .int .i64 (K : Nat)], .agg (ivs GF)] W fun e w' => e = .returned (.int .i64 (valF ds I GF)) ∧ Below W.heap.size W w') := ⟨fun W hW => value_any R K I _ ds GF W (hds.below hW) (by omega) hf.len (fun k hk => cap_bd hD hf.cap hk) (doorsIn_ok hD hR2) hI⟩
  have HFL := Kp.mk hf.len
  have HIS : Kp ((Try.prog.info? 83).map (·.size) = some (ivs GF).size) := ⟨by rw [ivs_size, HFL.out]; kernel_rfl⟩
  have HOS : Kp ((#[.int .i64 0, .int .i64 0, .int .i64 0, .int .i64 0, .int .i64 0, .int .i64 0, .int .i64 0, .int .i64 0, .int .i64 0, .int .i64 0, .int .i64 0, .int .i64 0, .int .i64 0, .int .i64 0, .int .i64 0, .int .i64 0, .int .i64 0, .int .i64 0, .int .i64 0, .int .i64 0, .int .i64 0, .int .i64 0, .int .i64 0, .int .i64 0, .int .i64 0, .int .i64 0, .int .i64 0, .int .i64 0, .int .i64 0, .int .i64 0, .int .i64 0, .int .i64 0, .int .i64 0, .int .i64 0, .int .i64 0, .int .i64 0, .int .i64 0, .int .i64 0, .int .i64 0, .int .i64 0] : Array Value).size = (ivs GF).size) := ⟨by rw [ivs_size, HFL.out]; rfl⟩
  clear hN hds hD hIK hgr hf
  go_enter Try.func78, Try.ntmps78
  go_wp2_with fail
  refine (HGA.out _ (by repeat (first | exact Below.refl _ _ | refine Below.alloc ?_ (by simp <;> omega) _ | refine bDrewN ?_ _ | refine Below.drew ?_))).mono ?_
  rintro en w1 ⟨rfl, hb1⟩
  have HB1 : Kp (Below w.heap.size w w1) := ⟨Below.trans (by repeat (first | refine Below.alloc ?_ (by (try simp) <;> omega) _ | refine bDrewN ?_ _ | refine Below.drew ?_ | refine Below.setCell ?_ (by (try simp) <;> omega) _ | exact Below.refl _ _)) (hb1.mono (by (try simp) <;> omega))⟩
  have hz1_0 : w.heap.size < w1.heap.size := by have := hb1.size; (try simp at this); omega
  obtain ⟨hc, hf⟩ := bcell hb1
  have c1_0_0 : w1.cell? ⟨w.heap.size, 0, none⟩ = some ((.int .i64 ↑R)) := (hc _ _ (by (try simp) <;> omega)).trans (by go_simp)
  have c1_0_1 : w1.cell? ⟨w.heap.size, 1, none⟩ = some ((.slice g N c)) := (hc _ _ (by (try simp) <;> omega)).trans (by go_simp)
  have c1_0_2 : w1.cell? ⟨w.heap.size, 2, none⟩ = some ((.int .i64 ↑I)) := (hc _ _ (by (try simp) <;> omega)).trans (by go_simp)
  have c1_0_3 : w1.cell? ⟨w.heap.size, 3, none⟩ = some ((.int .i64 ↑K)) := (hc _ _ (by (try simp) <;> omega)).trans (by go_simp)
  have z1_0 : ∀ j, w1.frozen? ⟨w.heap.size, j, none⟩ = false := fun j => (hf _ _ (by (try simp) <;> omega)).trans (by go_simp)
  clear hc hf hb1
  have HR : Kp ((w1.alloc (.cells (ivs GF) 83)).heap[w1.heap.size]? = some (.cells (ivs GF) 83 (0, 0))) := ⟨heap_alloc_last _ _⟩
  have hbz : Below w1.heap.size w1 (w1.alloc (.cells (ivs GF) 83)) := (Below.refl _ _).alloc (Nat.le_refl _) _
  have HB3 := Kp.mk (HB1.out.trans (hbz.mono HB1.out.size))
  have q0 := (hbz.cell (p := ⟨w.heap.size, 0, none⟩) (World.block_lt_of_cell? _ _ c1_0_0)).trans c1_0_0
  have q1 := (hbz.cell (p := ⟨w.heap.size, 1, none⟩) (World.block_lt_of_cell? _ _ c1_0_1)).trans c1_0_1
  have q2 := (hbz.cell (p := ⟨w.heap.size, 2, none⟩) (World.block_lt_of_cell? _ _ c1_0_2)).trans c1_0_2
  have q3 := (hbz.cell (p := ⟨w.heap.size, 3, none⟩) (World.block_lt_of_cell? _ _ c1_0_3)).trans c1_0_3
  clear hbz
  go_wp2_with (first | (with_reducible refine wpList_store_new rfl 83 (.tmp 3) (.tmp 8) rfl rfl w1 _ (ivs GF) rfl rfl HIS.out HOS.out (ivs_one _) ?_) | (with_reducible refine wpList_load_row (o := ⟨some 11, _, _, _, _, _⟩) rfl 83 (.tmp 3) rfl w1.heap.size rfl 83 (ivs GF) (0, 0) _ HR.out Try.underlying83 rfl HIS.out ?_))
  refine (HVA.out _ HB3.out).mono ?_
  rintro en w2 ⟨rfl, hb2⟩
  have HB4 := Kp.mk (HB3.out.trans (hb2.mono HB3.out.size))
  clear hb2
  go_wp2
  go_ret
  exact ⟨rfl, HB4.out⟩
/-- The least cost, by the program. -/
def leastV (ds : List Dr) (R x y : Int) : Int := valF ds x.toNat (bestF ds x.toNat y.toNat R.toNat).1
theorem and_apart {x y : Int} (hx : 0 ≤ x) (hy : 0 ≤ y) (h1 : x.toNat < 4096) (h2 : y.toNat < 4096) (h : bits .and .i64 x y = 0) : x.toNat &&& y.toNat = 0 := by
  obtain ⟨a, rfl⟩ := Int.eq_ofNat_of_zero_le hx
  obtain ⟨b, rfl⟩ := Int.eq_ofNat_of_zero_le hy
  rw [Int.toNat_natCast] at h1 h2 ⊢
  rw [and_nat (by omega) (by omega)] at h
  exact Int.natCast_eq_zero.1 h
theorem HouseOk.dok {R : Int} {ds : List Dr} {x y : Int} (h : HouseOk R ds x y) : DoorsOk R.toNat ds := fun d hd => by
  have := h.doors d hd
  have := h.rooms
  omega
set_option maxRecDepth 100000 in
set_option maxHeartbeats 1000000 in
theorem Least_any (R x y : Int) (v : Value) (ds : List Dr) (w : World) (hv : DS w v ds) (hl : ds.length ≤ 9223372036854775807) :
    Calls Try.prog 33 #[.agg #[.int .i64 R, v, .int .i64 x, .int .i64 y]] w fun e w' => e = .returned (numE (if valB R ds x y then 0 else 1) (leastV ds R x y)) ∧ Below w.heap.size w w' := by
  have HV : Kp (∀ W, Below w.heap.size w W → Calls Try.prog 19 #[.agg #[.int .i64 R, v, .int .i64 x, .int .i64 y]] W fun e w' => e = .returned (.bool (valB R ds x y)) ∧ Below W.heap.size W w') := ⟨fun W hW => Valid_any R x y v ds W (hv.below hW) hl⟩
  have HLE : Kp (valB R ds x y = true → ∀ W, Below w.heap.size w W → Calls Try.prog 78 #[.agg #[.int .i64 R, v, .int .i64 x, .int .i64 y]] W fun e w' => e = .returned (.int .i64 (leastV ds R x y)) ∧ Below W.heap.size W w') := ⟨fun hb W hW => by
    have hk := valB_ok hb
    obtain ⟨g, c, rfl⟩ := hv.shape
    have h1 := lt_4096 hk.inf.2 hk.rooms.2
    have h2 := lt_4096 hk.kept.2 hk.rooms.2
    have := least_any W g ds.length c R.toNat x.toNat y.toNat ds rfl hk.len (by have := hk.rooms; omega) h1 h2 (and_apart hk.inf.1 hk.kept.1 h1 h2 hk.apart) hk.dok (hv.below hW)
    rw [Int.toNat_of_nonneg hk.inf.1, Int.toNat_of_nonneg hk.kept.1, Int.toNat_of_nonneg (by have := hk.rooms; omega)] at this
    exact this⟩
  obtain ⟨g, c, rfl⟩ := hv.shape
  obtain ⟨T, hT⟩ : ∃ T, leastV ds R x y = T := ⟨_, rfl⟩
  obtain ⟨V, hV⟩ : ∃ V, valB R ds x y = V := ⟨_, rfl⟩
  obtain ⟨M, hM⟩ : ∃ M, ds.length = M := ⟨_, rfl⟩
  rw [hV, hM] at HV
  rw [hV, hT, hM] at HLE
  rw [hV, hT, hM]
  clear hV hT hM hv hl
  cases V with
  | false =>
    have HN : Kp (numE (if false = true then 0 else 1) T = .tuple #[.int .i64 0, .int .i64 1]) := ⟨rfl⟩
    clear HLE
    go_enter Try.func33, Try.ntmps33
    go_wp2_with fail
    refine (HV.out _ (by repeat (first | exact Below.refl _ _ | refine Below.alloc ?_ (by simp <;> omega) _ | refine bDrewN ?_ _ | refine Below.drew ?_))).mono ?_
    rintro en w1 ⟨rfl, hb1⟩
    have HB1 : Kp (Below w.heap.size w w1) := ⟨Below.trans (by repeat (first | exact Below.refl _ _ | refine Below.alloc ?_ (by simp <;> omega) _ | refine bDrewN ?_ _ | refine Below.drew ?_)) (hb1.mono (by simp <;> omega))⟩
    clear hb1
    go_wp2
    go_ret2
    exact ⟨rfl, HB1.out⟩
  | true =>
    have HL2 := Kp.mk (HLE.out rfl)
    clear HLE
    go_enter Try.func33, Try.ntmps33
    go_wp2_with fail
    refine (HV.out _ (by repeat (first | exact Below.refl _ _ | refine Below.alloc ?_ (by simp <;> omega) _ | refine bDrewN ?_ _ | refine Below.drew ?_))).mono ?_
    rintro en w1 ⟨rfl, hb1⟩
    have HB1 : Kp (Below w.heap.size w w1) := ⟨Below.trans (by repeat (first | refine Below.alloc ?_ (by (try simp) <;> omega) _ | refine bDrewN ?_ _ | refine Below.drew ?_ | refine Below.setCell ?_ (by (try simp) <;> omega) _ | exact Below.refl _ _)) (hb1.mono (by (try simp) <;> omega))⟩
    have hz1_0 : w.heap.size < w1.heap.size := by have := hb1.size; (try simp at this); omega
    obtain ⟨hc, hf⟩ := bcell hb1
    have c1_0_0 : w1.cell? ⟨w.heap.size, 0, none⟩ = some (.int .i64 R) := (hc _ _ (by (try simp) <;> omega)).trans (by go_simp)
    have c1_0_1 : w1.cell? ⟨w.heap.size, 1, none⟩ = some ((.slice g M c)) := (hc _ _ (by (try simp) <;> omega)).trans (by go_simp)
    have c1_0_2 : w1.cell? ⟨w.heap.size, 2, none⟩ = some (.int .i64 x) := (hc _ _ (by (try simp) <;> omega)).trans (by go_simp)
    have c1_0_3 : w1.cell? ⟨w.heap.size, 3, none⟩ = some (.int .i64 y) := (hc _ _ (by (try simp) <;> omega)).trans (by go_simp)
    have z1_0 : ∀ j, w1.frozen? ⟨w.heap.size, j, none⟩ = false := fun j => (hf _ _ (by (try simp) <;> omega)).trans (by go_simp)
    clear hc hf hb1
    go_wp2_with fail
    refine (HL2.out _ HB1.out).mono ?_
    rintro en w2 ⟨rfl, hb2⟩
    have HB2 := Kp.mk (HB1.out.trans (hb2.mono HB1.out.size))
    clear hb2
    go_wp2
    go_ret2
    exact ⟨rfl, HB2.out⟩
end Go.Proofs.Ythkamfjjfkpekaa.Pe
