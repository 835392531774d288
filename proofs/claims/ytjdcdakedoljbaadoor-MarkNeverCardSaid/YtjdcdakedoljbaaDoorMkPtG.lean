/-
  THE WALKS of Clash, the program's and the reference's.
-/
import Derived.Test.YtjdcdakedoljbaaDoorMkPtF
import Derived.Lib.QuietBelow
import Derived.Deep.QuietTactic
import Derived.BigQuiet
namespace Go.Proofs.YtjdcdakedoljbaaDoor.Mk
open Go Go.RowKit Go.Maps Go.Sort

set_option maxRecDepth 100000 in
set_option maxHeartbeats 4000000 in
theorem Clash_any (v : Value) (p : List PB) (w : World) (h : RP w v p) (hs : FitsP p) (hn : p.length ≤ maxLen) :
    Calls Tryd.prog 35 #[v] w fun e w' => (if validP p then ∃ r, ClashRes p r ∧ e = .returned (encRes r) else e = .returned (.tuple #[.int .i64 0, .int .i64 0, .string ⟨#[]⟩, .int .i64 1])) ∧ Below w.heap.size w w' := by
  have H1 : Kq _ := ⟨Valid_any v p w h hs hn⟩
  have HSZ : Kq (validP p = true → p.length ≤ 100) := ⟨fun h => (validP_size h).2⟩
  have HV : Kq (validP p = true → ∀ (i : Nat) (x : PB), p[i]? = some x → x.label.length ≤ 8) := ⟨fun h i x hx => valid_len (validP_at h hx).1⟩
  obtain ⟨g, cap, rfl, hcap, hc⟩ := h
  have HC := Lib.hid hc
  obtain ⟨X, hX⟩ : ∃ X, validP p = X := ⟨_, rfl⟩
  rw [hX] at H1 HSZ HV ⊢
  clear hc hX
  go_enter Tryd.func35, Tryd.ntmps35
  go_wp2_with fail
  refine Calls.mono H1.out ?_
  rintro e w1 ⟨rfl, hb1⟩
  have HB1 : Kq (Below w.heap.size w w1) := ⟨hb1⟩
  clear hb1
  cases X with
  | false =>
    go_wp2
    (try simp only [Exit.inBlock, Exit.then])
    refine bodyPost_ret (results_tmp4 rfl _ _ _) rfl ?_
    exact ⟨rfl, HB1.out⟩
  | true =>
    have hn100 := HSZ.out (by trivial)
    clear HSZ hn
    go_wp2
    go_loopw [18] (fun i wr => ∃ k : Nat, k ≤ p.length ∧ i = .int .i64 (k : Int) ∧ Kq (∀ i j, i < k → i < j → j < p.length → CL p i j = none) ∧ Below w.heap.size w wr) (fun i _ => p.length - (intOf i).toNat)
    case atStart => exact ⟨0, Nat.zero_le _, rfl, ⟨fun i j h => by omega⟩, HB1.out⟩
    case round =>
      obtain ⟨k, hk, rfl, HNO, hb⟩ := hrel
      have HB := Lib.hid hb
      have hz := hb.size
      clear hb
      obtain ⟨W0, rfl⟩ : ∃ W0, W0 = wr := ⟨_, rfl⟩
      by_cases hlt : k < p.length
      · obtain ⟨x, hx⟩ : ∃ x, p[k]? = some x := ⟨p[k], List.getElem?_eq_getElem hlt⟩
        obtain ⟨b, o, lv, hg, hbl, hb1, hb2, hb3, hlab⟩ := HC.out k x hx
        subst hg
        have hfit := hs.out x (List.mem_of_getElem? hx)
        have c1 : W0.cell? ⟨b, o + k * 3, none⟩ = some (.string x.sign) := (HB.out.cell (p := ⟨b, _, none⟩) hbl).trans hb1
        have c2 : W0.cell? ⟨b, o + k * 3 + 1, none⟩ = some (.int .i64 x.from_) := (HB.out.cell (p := ⟨b, _, none⟩) hbl).trans hb2
        have c3 : W0.cell? ⟨b, o + k * 3 + 2, none⟩ = some lv := (HB.out.cell (p := ⟨b, _, none⟩) hbl).trans hb3
        obtain ⟨W, hW⟩ : ∃ W, W0.alloc (Obj.cells #[Value.string x.sign, .int .i64 x.from_, lv] 52) = W := ⟨_, rfl⟩
        have b3 : W.cell? ⟨W0.heap.size, 2, none⟩ = some lv := by rw [← hW]; simp [go_sem]
        have HBW : Kq (Below w.heap.size w W) := ⟨by rw [← hW]; exact HB.out.alloc hz _⟩
        have HVA : Kq _ := ⟨values_any lv x.label W (hlab.below HBW.out) hfit.label (by have := HV.out (by trivial) k x hx; omega)⟩
        obtain ⟨g2, cl2, rfl⟩ := hlab.shape
        have HX : Kq (p[k]? = some x) := ⟨hx⟩
        clear hb1 hb2 hb3 hx hfit hlab
        have hk1 : k + 1 ≤ p.length := by omega
        have hk2 : (k : Int) + 1 ≤ (p.length : Int) := by omega
        have hk3 : ((k : Int) + 1).toNat = k + 1 := by omega
        go_wp2_with fail
        refine Calls.mono HVA.out ?_
        rintro e w2 ⟨⟨B, rfl, hB, hM⟩, hb2⟩
        have HB2 : Kq (Below w.heap.size w w2) := ⟨HBW.out.trans (hb2.mono HBW.out.size)⟩
        have HM2 : Kq (MapOf w2 B x.label.length (vals x.label)) := ⟨hM⟩
        clear hb2 hM HVA b3
        by_cases hcc : cap = k + 1
        · subst hcc
          have hpl : p.length = k + 1 := by omega
          have HNO2 : Kq (∀ i j, i < k + 1 → i < j → j < p.length → CL p i j = none) := ⟨fun i j h1 h2 h3 => HNO.out i j (by omega) h2 h3⟩
          have hk4 : p.length - (k + 1) = 0 := by omega
          clear hpl
          go_wp2_with fail
          go_loopw [31] (fun i wr => i = .int .i64 0 ∧ wr = w2) (fun i _ => 0)
          case atStart => exact ⟨rfl, rfl⟩
          case round =>
            obtain ⟨rfl, rfl⟩ := hrel
            go_wp2
            go_roundw
            case rel => exact ⟨k + 1, by omega, by go_num, HNO2, HB2.out⟩
            case measure => simp [intOf]; omega
        · have hc1 : ¬ cap - (k + 1) = 0 := by omega
          have hc2 : ¬ cap ≤ k + 1 := by omega
          go_wp2_with fail
          go_loopw [31] (fun i wr => ∃ j : Nat, j ≤ p.length - (k + 1) ∧ i = .int .i64 (j : Int) ∧ Kq (∀ j', k < j' → j' < k + 1 + j → CL p k j' = none) ∧ Below w2.heap.size w2 wr) (fun i _ => p.length - (k + 1) - (intOf i).toNat)
          case atStart => exact ⟨0, Nat.zero_le _, rfl, ⟨fun j' h1 h2 => by omega⟩, Below.refl _ _⟩
          case round =>
            obtain ⟨j, hj, rfl, HNJ, hb3⟩ := hrel
            have HB3 : Kq (Below w.heap.size w wr) := ⟨HB2.out.trans (hb3.mono HB2.out.size)⟩
            have HW3 : Kq (Below w2.heap.size w2 wr) := ⟨hb3⟩
            have HM3 : Kq (MapOf wr B x.label.length (vals x.label)) := ⟨HM2.out.below hb3⟩
            have hz3 := HB3.out.size
            clear hb3
            by_cases hlt2 : j < p.length - (k + 1)
            · obtain ⟨y, hy⟩ : ∃ y, p[k + 1 + j]? = some y := ⟨p[k + 1 + j], List.getElem?_eq_getElem (by omega)⟩
              obtain ⟨b', o', lv', hg', hbl', hb1', hb2', hb3', hlab'⟩ := HC.out (k + 1 + j) y hy
              simp only [Option.some.injEq, Addr.mk.injEq, and_true] at hg'
              obtain ⟨rfl, rfl⟩ := hg'
              have hfit' := hs.out y (List.mem_of_getElem? hy)
              have ee : o + (k + 1 + j) * 3 = o + (k + 1) * 3 + j * 3 := by omega
              rw [ee] at hb1' hb2' hb3'
              have q1 : wr.cell? ⟨b, o + (k + 1) * 3 + j * 3, none⟩ = some (.string y.sign) := (HB3.out.cell (p := ⟨b, _, none⟩) hbl').trans hb1'
              have q2 : wr.cell? ⟨b, o + (k + 1) * 3 + j * 3 + 1, none⟩ = some (.int .i64 y.from_) := (HB3.out.cell (p := ⟨b, _, none⟩) hbl').trans hb2'
              have q3 : wr.cell? ⟨b, o + (k + 1) * 3 + j * 3 + 2, none⟩ = some lv' := (HB3.out.cell (p := ⟨b, _, none⟩) hbl').trans hb3'
              obtain ⟨U, hU⟩ : ∃ U, wr.alloc (Obj.cells #[Value.string y.sign, .int .i64 y.from_, lv'] 52) = U := ⟨_, rfl⟩
              have r3 : U.cell? ⟨wr.heap.size, 2, none⟩ = some lv' := by rw [← hU]; simp [go_sem]
              have HBU : Kq (Below w.heap.size w U) := ⟨by rw [← hU]; exact HB3.out.alloc hz3 _⟩
              have HBU2 : Kq (Below wr.heap.size wr U) := ⟨by rw [← hU]; exact (Below.refl _ wr).alloc (Nat.le_refl _) _⟩
              have HFC : Kq _ := ⟨firstClash_any B x.label.length x.label lv' y.label U (HM3.out.below HBU2.out) (hlab'.below HBU.out) hfit'.label (by have := HV.out (by trivial) _ y hy; omega)⟩
              obtain ⟨g3, cl3, rfl⟩ := hlab'.shape
              have HCL : Kq (CL p k (k + 1 + j) = clashL x.label y.label) := ⟨CL_at HX.out hy⟩
              obtain ⟨cr, hcr⟩ : ∃ cr, clashL x.label y.label = cr := ⟨_, rfl⟩
              rw [hcr] at HFC HCL
              clear hb1' hb2' hb3' hy hfit' hlab' ee hcr
              go_wp2_with fail
              refine Calls.mono HFC.out ?_
              rintro e w4 ⟨rfl, hb4⟩
              have HB4 : Kq (Below w.heap.size w w4) := ⟨HBU.out.trans (hb4.mono HBU.out.size)⟩
              have HB5 : Kq (Below w2.heap.size w2 w4) := ⟨HW3.out.trans (HBU2.out.trans (hb4.mono HBU2.out.size) |>.mono HW3.out.size)⟩
              clear hb4 HFC r3
              cases cr with
              | none =>
                simp only [clashV]
                have HNJ2 : Kq (∀ j', k < j' → j' < k + 1 + (j + 1) → CL p k j' = none) := ⟨fun j' h1 h2 => by
                  by_cases e : j' = k + 1 + j
                  · rw [e]; exact HCL.out
                  · exact HNJ.out j' h1 (by omega)⟩
                go_wp2
                go_roundw
                case rel => exact ⟨j + 1, by omega, by go_num, HNJ2, HB5.out⟩
                case measure => simp [intOf]; omega
              | some key =>
                simp only [clashV]
                have HR : Kq (ClashRes p (some (k, k + 1 + j, key))) := ⟨by omega, by omega, HCL.out, fun i' j' h1 h2 h3 => by
                  rcases h3 with h3 | ⟨h3, h4⟩
                  · exact HNO.out i' j' h3 h1 h2
                  · rw [h3]
                    exact HNJ.out j' (by omega) h4⟩
                go_wp2
                (try simp only [Exit.inBlock, Exit.then])
                refine bodyPost_ret (results_tmp4 rfl _ _ _) rfl ?_
                exact ⟨⟨some (k, k + 1 + j, key), HR.out, rfl⟩, HB4.out⟩
            · have HNO2 : Kq (∀ i j, i < k + 1 → i < j → j < p.length → CL p i j = none) := ⟨fun i j' h1 h2 h3 => by
                by_cases e : i = k
                · rw [e]; exact HNJ.out j' (by omega) (by omega)
                · exact HNO.out i j' (by omega) h2 h3⟩
              go_wp2
              go_roundw
              case rel => exact ⟨k + 1, by omega, by go_num, HNO2, HB3.out⟩
              case measure => simp [intOf]; omega
      · have hkl : k = p.length := by omega
        have HR : Kq (ClashRes p none) := ⟨fun i j h1 h2 => HNO.out i j (by omega) h1 h2⟩
        clear hkl
        go_wp2
        (try simp only [Exit.inBlock, Exit.then])
        refine bodyPost_ret (results_tmp4 rfl _ _ _) rfl ?_
        exact ⟨⟨none, HR.out, rfl⟩, HB.out⟩
end Go.Proofs.YtjdcdakedoljbaaDoor.Mk
