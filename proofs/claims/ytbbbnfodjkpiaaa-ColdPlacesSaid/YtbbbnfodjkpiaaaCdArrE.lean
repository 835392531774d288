/-
  WALKS (layer 4, cold): the iterator over the hours at which boxes come, where there are none.
-/
import Derived.Test.YtbbbnfodjkpiaaaCdArr
namespace Go.Proofs.Ytbbbnfodjkpiaaa.Cd
open Go Go.RowKit Go.Sort

set_option maxRecDepth 100000 in
set_option maxHeartbeats 2000000 in
theorem arrivals_yields0 (n : Nat) (_hn : 1 ≤ n) (Al Am c : Nat) (g : Option Addr) (w : World) (hA : w.cell? ⟨Al, 0, none⟩ = some (.slice g 0 c)) (hM : w.cell? ⟨Am, 0, none⟩ = some (.func (.func 66) #[] #[])) :
    YieldsS encA Fence.wide n Try.prog 85 #[.pointer (some ⟨Al, 0, none⟩), .pointer (some ⟨Am, 0, none⟩)] (Keep4 (S3 Al Am Al)) [] w := by
  intro lp J Jx W hW hsz hJ hJx hY h0
  have hAl := World.block_lt_of_cell? _ _ hA
  have hMl := World.block_lt_of_cell? _ _ hM
  have cA : W.cell? ⟨Al, 0, none⟩ = some (.slice g 0 c) := (hW.cell (p := ⟨Al, 0, none⟩) hAl).trans hA
  have HJ0 := Kp.mk h0
  have HJK := Kp.mk hJ
  clear h0 hJ hJx hY hsz hW hA hM hAl hMl
  refine callsIn_of_wp Try.func85 rfl trivial ?_ rfl
  simp only [Try.ntmps85, List.size_toArray, List.length_cons, List.length_nil, Nat.reduceAdd, Nat.reduceSub, Array.replicate_succ, Array.replicate_zero, List.push_toArray, List.append_toArray, List.nil_append, List.cons_append]
  gi_wp2
  clear cA
  refine wpIn_wide.2 ?_
  go_loopw [4, 11] (fun v i wr => i = .int .i64 0 ∧ v = .slice none 0 0 ∧ Kp (wr = W)) (fun _ _ _ => 0)
  case atStart => exact ⟨rfl, rfl, ⟨rfl⟩⟩
  case round =>
    obtain ⟨rfl, rfl, HE⟩ := hrel
    have HJ5 : Kp (J [] wr) := ⟨by rw [HE.out]; exact HJ0.out⟩
    have HO : Kp (OwnI wr wr.heap.size (.slice none 0 0) []) := ⟨OwnI.nil _ _⟩
    clear HE HJ0
    go_wp2
    gi_wp2_with fail
    refine ⟨trivial, (callsIn_wide.2 (sort_own wr wr.heap.size (.slice none 0 0) [] HO.out (by simp) (Nat.le_refl _))).mono ?_⟩
    rintro en w5 ⟨rfl, -, hb5⟩
    have HJ6 : Kp (J [] w5) := ⟨HJK.out [] wr w5 none HJ5.out (grown_below hb5 none) (fun r h => by cases h)⟩
    clear hb5 HJ5 HO
    gi_wp2
    gi_loopw [25] (fun a wr => a = .int .i64 0 ∧ J [] wr) (fun _ _ => 0)
    case atStart => exact ⟨rfl, HJ6.out⟩
    case round =>
      clear HJ6
      obtain ⟨rfl, hJk⟩ := hrel
      have HJF := Kp.mk hJk
      clear hJk
      gi_wp2
      go_end0
      exact ⟨⟨_, rfl⟩, .inl HJF.out⟩
end Go.Proofs.Ytbbbnfodjkpiaaa.Cd
