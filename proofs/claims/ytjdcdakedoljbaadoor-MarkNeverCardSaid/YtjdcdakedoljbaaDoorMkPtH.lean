/-
  THE WALK of the reference's Clash.
-/
import Derived.Test.YtjdcdakedoljbaaDoorMkPtG
namespace Go.Proofs.YtjdcdakedoljbaaDoor.Mk
open Go Go.RowKit Go.Maps Go.Sort

theorem clash_key {A L : List FB} (hA : validL A = true) (hL : validL L = true) {k : ByteArray} (h : clashL A L = some k) : k ≠ ⟨#[]⟩ := by
  have h1 := rclash_clash (valid_fun hA) (valid_fun hL) (valid_full hA) (valid_full hL)
  rw [clash_same hA hL, h] at h1
  simpa using h1
set_option maxRecDepth 100000 in
set_option maxHeartbeats 4000000 in
theorem refClash_any (v : Value) (p : List PB) (w : World) (h : RP w v p) (hs : FitsP p) (hn : p.length ≤ maxLen) :
    Calls Tryd.prog 36 #[v] w fun e w' => (if validP p then ∃ r, ClashRes p r ∧ e = .returned (encRes r) else e = .returned (.tuple #[.int .i64 0, .int .i64 0, .string ⟨#[]⟩, .int .i64 1])) ∧ Below w.heap.size w w' := by
  have H1 : Kq _ := ⟨refValidP_any v p w h hs hn⟩
  have HSZ : Kq (validP p = true → p.length ≤ 100) := ⟨fun h => (validP_size h).2⟩
  have HV : Kq (validP p = true → ∀ (i : Nat) (x : PB), p[i]? = some x → validL x.label = true) := ⟨fun h i x hx => (validP_at h hx).1⟩
  obtain ⟨g, cap, rfl, hcap, hc⟩ := h
  have HC := Lib.hid hc
  obtain ⟨X, hX⟩ : ∃ X, validP p = X := ⟨_, rfl⟩
  rw [hX] at H1 HSZ HV ⊢
  clear hc hX
  go_enter Tryd.func36, Tryd.ntmps36
  go_wp2_with fail
  refine Calls.mono H1.out ?_
  rintro e w1 ⟨rfl, hb1⟩
  have HB1 : Kq (Below w.heap.size w w1) := ⟨hb1⟩
  clear hb1
  cases X with
  | false =>
    go_wp2
    (try simp only [Exit.inBlock, Exit.then])
    refine bodyPost_ret (results_tmp4 rfl _ _ _) rfl ?_
    exact ⟨rfl, HB1.out⟩
  | true =>
    have hn100 := HSZ.out (by trivial)
    clear HSZ hn
    go_wp2
    go_loopw [14] (fun i wr => ∃ k : Nat, k ≤ p.length ∧ i = .int .i64 (k : Int) ∧ Kq (∀ i j, i < k → i < j → j < p.length → CL p i j = none) ∧ Below w.heap.size w wr) (fun i _ => p.length - (intOf i).toNat)
    case atStart => exact ⟨0, Nat.zero_le _, rfl, ⟨fun i j h => by omega⟩, HB1.out⟩
    case round =>
      obtain ⟨k, hk, rfl, HNO, hb⟩ := hrel
      have HB : Kq (Below w.heap.size w wr) := ⟨hb⟩
      clear hb
      obtain ⟨W0, rfl⟩ : ∃ W0, W0 = wr := ⟨_, rfl⟩
      by_cases hlt : k < p.length
      · obtain ⟨x, hx⟩ : ∃ x, p[k]? = some x := ⟨p[k], List.getElem?_eq_getElem hlt⟩
        obtain ⟨b, o, lv, hg, hbl, hb1, hb2, hb3, hlab⟩ := HC.out k x hx
        subst hg
        have HLX : Kq (RL w lv x.label) := ⟨hlab⟩
        obtain ⟨g2, cl2, rfl⟩ := hlab.shape
        have hfit := hs.out x (List.mem_of_getElem? hx)
        have hvx := HV.out (by trivial) k x hx
        have HX : Kq (p[k]? = some x) := ⟨hx⟩
        have HLC : Kq (w.cell? ⟨b, o + k * 3 + 2, none⟩ = some (.slice g2 x.label.length cl2)) := ⟨hb3⟩
        clear hb1 hb2 hb3 hx hlab
        go_wp2_with fail
        go_loopw [7] (fun i wr => ∃ j : Nat, k < j ∧ j ≤ p.length ∧ i = .int .i64 (j : Int) ∧ Kq (∀ j', k < j' → j' < j → CL p k j' = none) ∧ Below w.heap.size w wr) (fun i _ => p.length - (intOf i).toNat)
        case atStart => exact ⟨k + 1, by omega, by omega, by go_num, ⟨fun j' h1 h2 => by omega⟩, HB.out⟩
        case round =>
          obtain ⟨j, hkj, hj, rfl, HNJ, hb3⟩ := hrel
          have HB3 : Kq (Below w.heap.size w wr) := ⟨hb3⟩
          clear hb3
          by_cases hlt2 : j < p.length
          · obtain ⟨y, hy⟩ : ∃ y, p[j]? = some y := ⟨p[j], List.getElem?_eq_getElem (by omega)⟩
            obtain ⟨b', o', lv', hg', hbl', hb1', hb2', hb3', hlab'⟩ := HC.out j y hy
            simp only [Option.some.injEq, Addr.mk.injEq, and_true] at hg'
            obtain ⟨rfl, rfl⟩ := hg'
            have hfit' := hs.out y (List.mem_of_getElem? hy)
            have hvy := HV.out (by trivial) j y hy
            have HCL : Kq (CL p k j = clashL x.label y.label) := ⟨CL_at HX.out hy⟩
            have HK : Kq (∀ key, clashL x.label y.label = some key → key ≠ ⟨#[]⟩) := ⟨fun key h => clash_key hvx hvy h⟩
            have HSM := clash_same hvx hvy
            have HRC : Kq (∀ W, Below w.heap.size w W → _) := ⟨fun W hW => rclash_any (.slice g2 x.label.length cl2) lv' x.label y.label W (HLX.out.below hW) (hlab'.below hW) hfit.len hfit'.len⟩
            obtain ⟨g3, cl3, rfl⟩ := hlab'.shape
            have q1 : wr.cell? ⟨b, o + k * 3 + 2, none⟩ = some (.slice g2 x.label.length cl2) := (HB3.out.cell (p := ⟨b, _, none⟩) hbl').trans HLC.out
            have q3 : wr.cell? ⟨b, o + j * 3 + 2, none⟩ = some (.slice g3 y.label.length cl3) := (HB3.out.cell (p := ⟨b, _, none⟩) hbl').trans hb3'
            rw [HSM] at HRC
            obtain ⟨cr, hcr⟩ : ∃ cr, clashL x.label y.label = cr := ⟨_, rfl⟩
            rw [hcr] at HRC HCL HK
            obtain ⟨u, hu⟩ : ∃ u, cr.getD ⟨#[]⟩ = u := ⟨_, rfl⟩
            rw [hu] at HRC
            have HCV : Hid (∀ d os, Calls Tryd.prog 65 #[.slice g2 x.label.length cl2, .slice g3 y.label.length cl3] (grow (redrawn wr d) os) fun e w' => e = .returned (.string u) ∧ Below (grow (redrawn wr d) os).heap.size (grow (redrawn wr d) os) w') :=
              fun d os => HRC.out _ (HB3.out.trans ((below_regrown wr d os).mono HB3.out.size))
            clear hb1' hb2' hb3' hy hlab' HSM hcr HRC
            have g1 := fun d os => cell_regrown q1 d os
            have g3' := fun d os => cell_regrown q3 d os
            have o1 : (k : Int) < (p.length : Int) := by omega
            have o2 : (j : Int) < (p.length : Int) := by omega
            go_wp2_with fail
            refine wp_region_quiet_below (by kernel_rfl) (by kernel_rfl) ?_
            repeat (any_goals (first | go_big_quiet_step (exact Calls.regrown_of (HCV.out _ _)) | quiet_step (exact Calls.regrown_of (HCV.out _ _))))
            refine wpQuiet_nil ?_
            intro _ hw'
            obtain ⟨⟨dq, osq⟩, hw''⟩ := hw'
            subst hw''
            have HB4 : Kq (Below w.heap.size w (grow (redrawn wr dq) osq)) := ⟨HB3.out.trans ((below_regrown wr dq osq).mono HB3.out.size)⟩
            clear q1 q3 g1 g3' HCV
            cases cr with
            | none =>
              have hu2 : u = ⟨#[]⟩ := hu.symm
              subst hu2
              have t1 := isEmpty_yes
              clear hu
              have HNJ2 : Kq (∀ j', k < j' → j' < j + 1 → CL p k j' = none) := ⟨fun j' h1 h2 => by
                by_cases e : j' = j
                · rw [e]; exact HCL.out
                · exact HNJ.out j' h1 (by omega)⟩
              go_wp2
              go_roundw
              case rel => exact ⟨j + 1, by omega, by omega, by go_num, HNJ2, HB4.out⟩
              case measure => simp [intOf]; omega
            | some key =>
              have hu2 : key = u := hu
              subst hu2
              have t1 := isEmpty_no (HK.out key rfl)
              clear hu
              have HR : Kq (ClashRes p (some (k, j, key))) := ⟨hkj, hlt2, HCL.out, fun i' j' h1 h2 h3 => by
                rcases h3 with h3 | ⟨h3, h4⟩
                · exact HNO.out i' j' h3 h1 h2
                · rw [h3]
                  exact HNJ.out j' (by omega) h4⟩
              go_wp2
              (try simp only [Exit.inBlock, Exit.then])
              refine bodyPost_ret (results_tmp4 rfl _ _ _) rfl ?_
              exact ⟨⟨some (k, j, key), HR.out, rfl⟩, HB4.out⟩
          · have HNO2 : Kq (∀ i j, i < k + 1 → i < j → j < p.length → CL p i j = none) := ⟨fun i j' h1 h2 h3 => by
              by_cases e : i = k
              · rw [e]; exact HNJ.out j' (by omega) (by omega)
              · exact HNO.out i j' (by omega) h2 h3⟩
            go_wp2
            go_roundw
            case rel => exact ⟨k + 1, by omega, by go_num, HNO2, HB3.out⟩
            case measure => simp [intOf]; omega
      · have hkl : k = p.length := by omega
        have HR : Kq (ClashRes p none) := ⟨fun i j h1 h2 => HNO.out i j (by omega) h1 h2⟩
        clear hkl
        go_wp2
        (try simp only [Exit.inBlock, Exit.then])
        refine bodyPost_ret (results_tmp4 rfl _ _ _) rfl ?_
        exact ⟨⟨none, HR.out, rfl⟩, HB.out⟩
end Go.Proofs.YtjdcdakedoljbaaDoor.Mk
