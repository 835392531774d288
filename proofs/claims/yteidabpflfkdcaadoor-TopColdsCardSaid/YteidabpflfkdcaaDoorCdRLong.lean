/-
  WALKS (layer 4, cold): the longest stretch of cold hours, by the reference.
-/
import Derived.Test.YteidabpflfkdcaaDoorCdLong
import Derived.Test.YteidabpflfkdcaaDoorCdRAt
namespace Go.Proofs.YteidabpflfkdcaaDoor.Cd
open Go Go.RowKit Go.Sort

theorem Longest_any (v : Value) (l : List Rd) (e temp : Int) (w : World) (hs : RS w v l) :
    Calls Tryd.prog 15 #[v, .int .i64 e, .int .i64 temp] w fun en w' => en = .returned (.tuple #[.int .i64 (lgR l e temp).1, .int .i64 (lgR l e temp).2.1, .int .i64 (lgR l e temp).2.2]) ∧ Below w.heap.size w w' := by
  by_cases h : chkE l e [temp] = 0
  · obtain ⟨hg, ht⟩ := chk_good h
    exact Longest_in v l e temp w hs hg ht
  · have e1 : lgR l e temp = (0, 0, chkE l e [temp]) := by unfold lgR; rw [if_neg h]
    rw [e1]
    exact Longest_bad v l e temp _ w hs rfl (by rw [bne_iff_ne]; exact h)
end Go.Proofs.YteidabpflfkdcaaDoor.Cd
