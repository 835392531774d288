/-
  WALKS (layer 8, pest): how much leaves the infested rooms.
-/
import Derived.Test.YthkamfjjfkpekaaPeLeav
namespace Go.Proofs.Ythkamfjjfkpekaa.Pe
open Go Go.RowKit Go.Proofs Go.Sort

theorem run_ix12 (a0 a1 a2 a3 a4 a5 a6 a7 a8 a9 a10 a11 : Int) (W : World) (k : Nat) (hk : k < 12) : (Instr.index 105 (.agg (ivs [a0, a1, a2, a3, a4, a5, a6, a7, a8, a9, a10, a11])) (.int .i64 (k : Int))).run Try.prog W = .ok (.int .i64 ([a0, a1, a2, a3, a4, a5, a6, a7, a8, a9, a10, a11].getD k 0)) W := by
  have h0 : (Instr.index 105 (.agg (ivs [a0, a1, a2, a3, a4, a5, a6, a7, a8, a9, a10, a11])) (.int .i64 ((0 : Nat) : Int))).run Try.prog W = .ok (.int .i64 ([a0, a1, a2, a3, a4, a5, a6, a7, a8, a9, a10, a11].getD 0 0)) W := by kernel_rfl
  have h1 : (Instr.index 105 (.agg (ivs [a0, a1, a2, a3, a4, a5, a6, a7, a8, a9, a10, a11])) (.int .i64 ((1 : Nat) : Int))).run Try.prog W = .ok (.int .i64 ([a0, a1, a2, a3, a4, a5, a6, a7, a8, a9, a10, a11].getD 1 0)) W := by kernel_rfl
  have h2 : (Instr.index 105 (.agg (ivs [a0, a1, a2, a3, a4, a5, a6, a7, a8, a9, a10, a11])) (.int .i64 ((2 : Nat) : Int))).run Try.prog W = .ok (.int .i64 ([a0, a1, a2, a3, a4, a5, a6, a7, a8, a9, a10, a11].getD 2 0)) W := by kernel_rfl
  have h3 : (Instr.index 105 (.agg (ivs [a0, a1, a2, a3, a4, a5, a6, a7, a8, a9, a10, a11])) (.int .i64 ((3 : Nat) : Int))).run Try.prog W = .ok (.int .i64 ([a0, a1, a2, a3, a4, a5, a6, a7, a8, a9, a10, a11].getD 3 0)) W := by kernel_rfl
  have h4 : (Instr.index 105 (.agg (ivs [a0, a1, a2, a3, a4, a5, a6, a7, a8, a9, a10, a11])) (.int .i64 ((4 : Nat) : Int))).run Try.prog W = .ok (.int .i64 ([a0, a1, a2, a3, a4, a5, a6, a7, a8, a9, a10, a11].getD 4 0)) W := by kernel_rfl
  have h5 : (Instr.index 105 (.agg (ivs [a0, a1, a2, a3, a4, a5, a6, a7, a8, a9, a10, a11])) (.int .i64 ((5 : Nat) : Int))).run Try.prog W = .ok (.int .i64 ([a0, a1, a2, a3, a4, a5, a6, a7, a8, a9, a10, a11].getD 5 0)) W := by kernel_rfl
  have h6 : (Instr.index 105 (.agg (ivs [a0, a1, a2, a3, a4, a5, a6, a7, a8, a9, a10, a11])) (.int .i64 ((6 : Nat) : Int))).run Try.prog W = .ok (.int .i64 ([a0, a1, a2, a3, a4, a5, a6, a7, a8, a9, a10, a11].getD 6 0)) W := by kernel_rfl
  have h7 : (Instr.index 105 (.agg (ivs [a0, a1, a2, a3, a4, a5, a6, a7, a8, a9, a10, a11])) (.int .i64 ((7 : Nat) : Int))).run Try.prog W = .ok (.int .i64 ([a0, a1, a2, a3, a4, a5, a6, a7, a8, a9, a10, a11].getD 7 0)) W := by kernel_rfl
  have h8 : (Instr.index 105 (.agg (ivs [a0, a1, a2, a3, a4, a5, a6, a7, a8, a9, a10, a11])) (.int .i64 ((8 : Nat) : Int))).run Try.prog W = .ok (.int .i64 ([a0, a1, a2, a3, a4, a5, a6, a7, a8, a9, a10, a11].getD 8 0)) W := by kernel_rfl
  have h9 : (Instr.index 105 (.agg (ivs [a0, a1, a2, a3, a4, a5, a6, a7, a8, a9, a10, a11])) (.int .i64 ((9 : Nat) : Int))).run Try.prog W = .ok (.int .i64 ([a0, a1, a2, a3, a4, a5, a6, a7, a8, a9, a10, a11].getD 9 0)) W := by kernel_rfl
  have h10 : (Instr.index 105 (.agg (ivs [a0, a1, a2, a3, a4, a5, a6, a7, a8, a9, a10, a11])) (.int .i64 ((10 : Nat) : Int))).run Try.prog W = .ok (.int .i64 ([a0, a1, a2, a3, a4, a5, a6, a7, a8, a9, a10, a11].getD 10 0)) W := by kernel_rfl
  have h11 : (Instr.index 105 (.agg (ivs [a0, a1, a2, a3, a4, a5, a6, a7, a8, a9, a10, a11])) (.int .i64 ((11 : Nat) : Int))).run Try.prog W = .ok (.int .i64 ([a0, a1, a2, a3, a4, a5, a6, a7, a8, a9, a10, a11].getD 11 0)) W := by kernel_rfl
  have h' : k = 0 ∨ k = 1 ∨ k = 2 ∨ k = 3 ∨ k = 4 ∨ k = 5 ∨ k = 6 ∨ k = 7 ∨ k = 8 ∨ k = 9 ∨ k = 10 ∨ k = 11 := by omega
  rcases h' with rfl | rfl | rfl | rfl | rfl | rfl | rfl | rfl | rfl | rfl | rfl | rfl
  · exact h0
  · exact h1
  · exact h2
  · exact h3
  · exact h4
  · exact h5
  · exact h6
  · exact h7
  · exact h8
  · exact h9
  · exact h10
  · exact h11
theorem run_ix (L : List Int) (h : L.length = 12) (k : Nat) (hk : k < 12) (W : World) : (Instr.index 105 (.agg (ivs L)) (.int .i64 (k : Int))).run Try.prog W = .ok (.int .i64 (L.getD k 0)) W := by
  match L, h with
  | [a0, a1, a2, a3, a4, a5, a6, a7, a8, a9, a10, a11], _ => exact run_ix12 a0 a1 a2 a3 a4 a5 a6 a7 a8 a9 a10 a11 W k hk
theorem second_row (w : World) (o : Obj) (cs : Array Value) (T : TypeId) : ((w.alloc o).alloc (.cells cs T)).heap[w.heap.size + 1]? = some (.cells cs T (0, 0)) := by
  have h := heap_alloc_last (w.alloc o) (.cells cs T)
  rwa [World.size_alloc] at h
/-- What leaves the first rooms of a set. -/
def valS (I : Nat) (ol : List Int) : Nat → Int
  | 0 => 0
  | k + 1 => if I.testBit k then valS I ol k + ol.getD k 0 else valS I ol k
theorem valS_bd {I : Nat} {ol : List Int} {B : Int} (hB : 0 ≤ B) (h : ∀ j, -B ≤ ol.getD j 0 ∧ ol.getD j 0 ≤ B) : ∀ k : Nat, -(B * k) ≤ valS I ol k ∧ valS I ol k ≤ B * k
  | 0 => by simp [valS]
  | k + 1 => by
    have ih := valS_bd hB h k (I := I)
    have hk := h k
    have e : B * ((k + 1 : Nat) : Int) = B * k + B := by rw [Int.natCast_add, Int.mul_add]; simp
    rw [e]
    unfold valS
    split <;> omega
set_option maxRecDepth 100000 in
set_option maxHeartbeats 2000000 in
theorem value_any (R y : Int) (I : Nat) (v : Value) (ds : List Dr) (fl : List Int) (w : World) (hv : DS w v ds) (hl : ds.length ≤ 40) (hfl : fl.length = 40) (hf : ∀ k : Nat, k < ds.length → -1000 ≤ fl.getD k 0 ∧ fl.getD k 0 ≤ 1000) (hd : DoorsIn ds) (hI : I < 4096) :
    Calls Try.prog 73 #[.agg #[.int .i64 R, v, .int .i64 (I : Nat), .int .i64 y], .agg (ivs fl)] w fun e w' => e = .returned (.int .i64 (valS I (leavF ds fl ds.length) 12)) ∧ Below w.heap.size w w' := by
  have HLV : Kp (∀ W, Below w.heap.size w W → Calls Try.prog 96 #[.agg #[.int .i64 R, v, .int .i64 (I : Nat), .int .i64 y], .agg (ivs fl)] W fun e w' => e = .returned (.agg (ivs (leavF ds fl ds.length))) ∧ Below W.heap.size W w') := ⟨fun W hW => leaving_any R I y v ds fl W (hv.below hW) hl hfl hf hd⟩
  have HB := Kp.mk (fun k => valS_bd (I := I) (B := 2000 * 40) (ol := leavF ds fl ds.length) (by omega) (fun j => by have := leavF_bd (ds := ds) hf j ds.length (Nat.le_refl _); omega) k)
  have HLN := Kp.mk (leavF_len ds fl ds.length)
  obtain ⟨ol, hol⟩ : ∃ ol, leavF ds fl ds.length = ol := ⟨_, rfl⟩
  rw [hol] at HLV HB HLN
  rw [hol]
  have HH : Kp (∀ (k : Nat) W, k ≤ 63 → Calls Try.prog 61 #[.int .i64 (I : Nat), .int .i64 (k : Nat)] W fun e w' => e = .returned (.bool (I.testBit k)) ∧ W = w') := ⟨fun k W hk => has_any I k W (by omega) hk⟩
  have HIX : Kp (∀ (k : Nat) W, k < 12 → (Instr.index 105 (.agg (ivs ol)) (.int .i64 (k : Int))).run Try.prog W = .ok (.int .i64 (ol.getD k 0)) W) := ⟨fun k W hk => run_ix ol HLN.out k hk W⟩
  have HFC : Kp (fl.length = 40) := ⟨hfl⟩
  obtain ⟨g, c, rfl⟩ := hv.shape
  obtain ⟨M, hM⟩ : ∃ M, ds.length = M := ⟨_, rfl⟩
  rw [hM] at HLV
  rw [hM]
  clear hv hl hfl hf hd hI hol hM
  have HIS : Kp ((Try.prog.info? 83).map (·.size) = some (ivs fl).size) := ⟨by rw [ivs_size, HFC.out]; kernel_rfl⟩
  go_enter Try.func73, Try.ntmps73
  go_wp2_with (with_reducible refine wpList_load_row (o := ⟨some 9, _, _, _, _, _⟩) rfl 83 (.tmp 3) rfl (w.heap.size + 1) rfl 83 (ivs fl) (0, 0) _ (second_row w _ _ _) Try.underlying83 rfl HIS.out ?_)
  refine (HLV.out _ (by repeat (first | exact Below.refl _ _ | refine Below.alloc ?_ (by simp <;> omega) _ | refine bDrewN ?_ _ | refine Below.drew ?_))).mono ?_
  rintro en w1 ⟨rfl, hb1⟩
  have HB1 : Kp (Below w.heap.size w w1) := ⟨Below.trans (by repeat (first | exact Below.refl _ _ | refine Below.alloc ?_ (by simp <;> omega) _ | refine bDrewN ?_ _ | refine Below.drew ?_)) (hb1.mono (by simp <;> omega))⟩
  have c0 : w1.cell? ⟨w.heap.size, 2, none⟩ = some (.int .i64 (I : Nat)) := (hb1.cell (p := ⟨w.heap.size, 2, none⟩) (by simp only [World.size_alloc]; omega)).trans (by go_simp)
  have HC0 := Kp.mk c0
  clear hb1 c0 HLV
  go_wp2_with fail
  go_loop [5, 11] (fun a i => ∃ k : Nat, k ≤ 12 ∧ i = .int .i64 k ∧ a = .int .i64 (valS I ol k)) (fun _ i => 12 - (intOf i).toNat)
  case atStart => exact ⟨0, Nat.zero_le _, rfl, rfl⟩
  case round =>
    obtain ⟨k, hk, rfl, rfl⟩ := hrel
    by_cases hlt : k < 12
    · have o1 : (k : Int) < 12 := by omega
      have hix := HIX.out k w1 hlt
      obtain ⟨X, hX⟩ : ∃ X, ol.getD k 0 = X := ⟨_, rfl⟩
      obtain ⟨T, hT⟩ : ∃ T, valS I ol k = T := ⟨_, rfl⟩
      have HST : Kp (valS I ol (k + 1) = if I.testBit k then T + X else T) := ⟨by rw [← hX, ← hT]; rfl⟩
      have HBK := Kp.mk (HB.out (k + 1))
      have HHK := Kp.mk (fun W => HH.out k W (by omega))
      rw [hX] at hix
      rw [hT]
      have cI := HC0.out
      clear hX hT
      obtain ⟨Bt, hBt⟩ : ∃ B, I.testBit k = B := ⟨_, rfl⟩
      rw [hBt] at HHK HST
      clear hBt
      cases Bt with
      | true =>
        have HS2 : Kp (valS I ol (k + 1) = T + X) := ⟨by rw [HST.out, if_pos rfl]⟩
        have e1 : IntKind.i64.wrap (T + X) = T + X := IntWalk.i64_in _ (by have h1 := HBK.out; rw [HS2.out] at h1; omega)
        clear HST
        go_wp2_with fail
        refine (HHK.out _).mono ?_
        rintro en w2 ⟨rfl, rfl⟩
        go_wp2
        go_round
        case rel => exact ⟨k + 1, by omega, by go_num, by rw [HS2.out]⟩
        case measure => simp [intOf]; omega
      | false =>
        have HS2 : Kp (valS I ol (k + 1) = T) := ⟨by rw [HST.out, if_neg (by decide)]⟩
        clear HST
        go_wp2_with fail
        refine (HHK.out _).mono ?_
        rintro en w2 ⟨rfl, rfl⟩
        go_wp2
        go_round
        case rel => exact ⟨k + 1, by omega, by go_num, by rw [HS2.out]⟩
        case measure => simp [intOf]; omega
    · have hkn : k = 12 := by omega
      subst hkn
      go_wp2
      go_ret
      exact ⟨rfl, HB1.out⟩
end Go.Proofs.Ythkamfjjfkpekaa.Pe
