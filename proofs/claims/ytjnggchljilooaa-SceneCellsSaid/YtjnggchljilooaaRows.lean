/-
  No cell of these rows narrows 'for every input' (looked for: loops, veiled, ifaces, maps, wideKeys, modest, calm, conditions, laid).
  DERIVED. THE GIVEN ROWS OF THIS SEAT. 8 by the template 'for every input the law returns true; each argument reads behind the call as it read before'; 0 by the template 'total and deterministic' (their statements: YtjnggchljilooaaTotals.lean).
  GIVEN WITH THE SEED: the statements are not yours to turn. If you find one false, say at which input.
  Laid BY PROGRAM, IN A SANDBOX (cutbox-rows.mjs): the forced cells as the released guide's own fill.sh prints them over the translation 798a2a6bd5095fec… (all of the seat's roots in one cut). By AI agents, Wed Nov 11 2026. No macro, syntax, notation, axiom, sorry.
-/
import Derived.Test.YtjnggchljilooaaChecked
import GoSem.Claim
import GoSem.ClaimJoined
import GoSem.ClaimMapViews
import Derived.JoinedTies
import Derived.KernelRfl
namespace Go.Proofs.Ytjnggchljilooaa
/- THE CELL 'sum', in the pinned program and in every row, IS THE sha256 OF THE DUMP (.gsa) THAT YtjnggchljilooaaProg.lean LOADS. Nothing in Lean hashes anything: it is a label: what it is worth is what the hold of that sum in a sandbox is worth. -/
noncomputable def Try.pinned : Pinned := { name := "ytjnggchljilooaa", sum := "798a2a6bd5095fecadd1ecfb4773345f772365bc9466e073545994d520fcf586", checked := Try.checked }
namespace Rows
def none {H : Type} : Left H := { results := [], args := [] }

/-- 'armaturelaw07.SceneCells': WHATEVER THE INPUT: true; the input reads as it did. -/
def sceneCellsSpec : ChangeSpec := { name := "sceneCells", fn := fun _ => fun
  | [d1, d2, d3, d4, d5] => { results := [.lit (.bool true)], args := [d1, d2, d3, d4, d5] }
  | _ => none }
def sceneCellsRow : OpenClaim := { program := "ytjnggchljilooaa", sum := "798a2a6bd5095fecadd1ecfb4773345f772365bc9466e073545994d520fcf586", func := "armature/armaturelaw07.SceneCells", spec := "sceneCells", unfollowed := true, recurses := true, apart := false }
def SceneCellsSaid : Prop := sceneCellsRow.holds Try.pinned (OpenSpec.ofChange sceneCellsSpec)

/-- ITS FALSE NEIGHBOUR: 'it returns false'. Refute it at one input. -/
def sceneCellsWrong : ChangeSpec := { name := "sceneCells", fn := fun _ => fun
  | [d1, d2, d3, d4, d5] => { results := [.lit (.bool false)], args := [d1, d2, d3, d4, d5] }
  | _ => none }
def SceneCellsWrongFalsely : Prop := sceneCellsRow.holds Try.pinned (OpenSpec.ofChange sceneCellsWrong)

/-- 'armaturelaw07.SceneSeen': WHATEVER THE INPUT: true; the input reads as it did. -/
def sceneSeenSpec : ChangeSpec := { name := "sceneSeen", fn := fun _ => fun
  | [d1, d2, d3, d4, d5, d6] => { results := [.lit (.bool true)], args := [d1, d2, d3, d4, d5, d6] }
  | _ => none }
def sceneSeenRow : OpenClaim := { program := "ytjnggchljilooaa", sum := "798a2a6bd5095fecadd1ecfb4773345f772365bc9466e073545994d520fcf586", func := "armature/armaturelaw07.SceneSeen", spec := "sceneSeen", unfollowed := true, recurses := true, apart := false }
def SceneSeenSaid : Prop := sceneSeenRow.holds Try.pinned (OpenSpec.ofChange sceneSeenSpec)

/-- ITS FALSE NEIGHBOUR: 'it returns false'. Refute it at one input. -/
def sceneSeenWrong : ChangeSpec := { name := "sceneSeen", fn := fun _ => fun
  | [d1, d2, d3, d4, d5, d6] => { results := [.lit (.bool false)], args := [d1, d2, d3, d4, d5, d6] }
  | _ => none }
def SceneSeenWrongFalsely : Prop := sceneSeenRow.holds Try.pinned (OpenSpec.ofChange sceneSeenWrong)

/-- 'armaturelaw07.SceneHigher': WHATEVER THE INPUT: true; the input reads as it did. -/
def sceneHigherSpec : ChangeSpec := { name := "sceneHigher", fn := fun _ => fun
  | [d1, d2, d3, d4, d5, d6] => { results := [.lit (.bool true)], args := [d1, d2, d3, d4, d5, d6] }
  | _ => none }
def sceneHigherRow : OpenClaim := { program := "ytjnggchljilooaa", sum := "798a2a6bd5095fecadd1ecfb4773345f772365bc9466e073545994d520fcf586", func := "armature/armaturelaw07.SceneHigher", spec := "sceneHigher", unfollowed := true, recurses := true, apart := false }
def SceneHigherSaid : Prop := sceneHigherRow.holds Try.pinned (OpenSpec.ofChange sceneHigherSpec)

/-- ITS FALSE NEIGHBOUR: 'it returns false'. Refute it at one input. -/
def sceneHigherWrong : ChangeSpec := { name := "sceneHigher", fn := fun _ => fun
  | [d1, d2, d3, d4, d5, d6] => { results := [.lit (.bool false)], args := [d1, d2, d3, d4, d5, d6] }
  | _ => none }
def SceneHigherWrongFalsely : Prop := sceneHigherRow.holds Try.pinned (OpenSpec.ofChange sceneHigherWrong)

/-- 'armaturelaw07.SceneAll': WHATEVER THE INPUT: true; the input reads as it did. -/
def sceneAllSpec : ChangeSpec := { name := "sceneAll", fn := fun _ => fun
  | [d1, d2, d3, d4, d5, d6] => { results := [.lit (.bool true)], args := [d1, d2, d3, d4, d5, d6] }
  | _ => none }
def sceneAllRow : OpenClaim := { program := "ytjnggchljilooaa", sum := "798a2a6bd5095fecadd1ecfb4773345f772365bc9466e073545994d520fcf586", func := "armature/armaturelaw07.SceneAll", spec := "sceneAll", unfollowed := true, recurses := true, apart := false }
def SceneAllSaid : Prop := sceneAllRow.holds Try.pinned (OpenSpec.ofChange sceneAllSpec)

/-- ITS FALSE NEIGHBOUR: 'it returns false'. Refute it at one input. -/
def sceneAllWrong : ChangeSpec := { name := "sceneAll", fn := fun _ => fun
  | [d1, d2, d3, d4, d5, d6] => { results := [.lit (.bool false)], args := [d1, d2, d3, d4, d5, d6] }
  | _ => none }
def SceneAllWrongFalsely : Prop := sceneAllRow.holds Try.pinned (OpenSpec.ofChange sceneAllWrong)

/-- 'armaturelaw07.SceneMounts': WHATEVER THE INPUT: true; the input reads as it did. -/
def sceneMountsSpec : ChangeSpec := { name := "sceneMounts", fn := fun _ => fun
  | [d1, d2, d3, d4, d5, d6, d7, d8] => { results := [.lit (.bool true)], args := [d1, d2, d3, d4, d5, d6, d7, d8] }
  | _ => none }
def sceneMountsRow : OpenClaim := { program := "ytjnggchljilooaa", sum := "798a2a6bd5095fecadd1ecfb4773345f772365bc9466e073545994d520fcf586", func := "armature/armaturelaw07.SceneMounts", spec := "sceneMounts", unfollowed := true, recurses := true, apart := false }
def SceneMountsSaid : Prop := sceneMountsRow.holds Try.pinned (OpenSpec.ofChange sceneMountsSpec)

/-- ITS FALSE NEIGHBOUR: 'it returns false'. Refute it at one input. -/
def sceneMountsWrong : ChangeSpec := { name := "sceneMounts", fn := fun _ => fun
  | [d1, d2, d3, d4, d5, d6, d7, d8] => { results := [.lit (.bool false)], args := [d1, d2, d3, d4, d5, d6, d7, d8] }
  | _ => none }
def SceneMountsWrongFalsely : Prop := sceneMountsRow.holds Try.pinned (OpenSpec.ofChange sceneMountsWrong)

/-- 'armaturelaw07.SceneLooks': WHATEVER THE INPUT: true; the input reads as it did. -/
def sceneLooksSpec : ChangeSpec := { name := "sceneLooks", fn := fun _ => fun
  | [d1, d2, d3, d4, d5] => { results := [.lit (.bool true)], args := [d1, d2, d3, d4, d5] }
  | _ => none }
def sceneLooksRow : OpenClaim := { program := "ytjnggchljilooaa", sum := "798a2a6bd5095fecadd1ecfb4773345f772365bc9466e073545994d520fcf586", func := "armature/armaturelaw07.SceneLooks", spec := "sceneLooks", unfollowed := true, recurses := true, apart := false }
def SceneLooksSaid : Prop := sceneLooksRow.holds Try.pinned (OpenSpec.ofChange sceneLooksSpec)

/-- ITS FALSE NEIGHBOUR: 'it returns false'. Refute it at one input. -/
def sceneLooksWrong : ChangeSpec := { name := "sceneLooks", fn := fun _ => fun
  | [d1, d2, d3, d4, d5] => { results := [.lit (.bool false)], args := [d1, d2, d3, d4, d5] }
  | _ => none }
def SceneLooksWrongFalsely : Prop := sceneLooksRow.holds Try.pinned (OpenSpec.ofChange sceneLooksWrong)

/-- 'armaturelaw07.SceneRaised': WHATEVER THE INPUT: true; the input reads as it did. -/
def sceneRaisedSpec : ChangeSpec := { name := "sceneRaised", fn := fun _ => fun
  | [d1, d2, d3, d4, d5, d6] => { results := [.lit (.bool true)], args := [d1, d2, d3, d4, d5, d6] }
  | _ => none }
def sceneRaisedRow : OpenClaim := { program := "ytjnggchljilooaa", sum := "798a2a6bd5095fecadd1ecfb4773345f772365bc9466e073545994d520fcf586", func := "armature/armaturelaw07.SceneRaised", spec := "sceneRaised", unfollowed := true, recurses := true, apart := false }
def SceneRaisedSaid : Prop := sceneRaisedRow.holds Try.pinned (OpenSpec.ofChange sceneRaisedSpec)

/-- ITS FALSE NEIGHBOUR: 'it returns false'. Refute it at one input. -/
def sceneRaisedWrong : ChangeSpec := { name := "sceneRaised", fn := fun _ => fun
  | [d1, d2, d3, d4, d5, d6] => { results := [.lit (.bool false)], args := [d1, d2, d3, d4, d5, d6] }
  | _ => none }
def SceneRaisedWrongFalsely : Prop := sceneRaisedRow.holds Try.pinned (OpenSpec.ofChange sceneRaisedWrong)

/-- 'armaturelaw07.SceneMirrored': WHATEVER THE INPUT: true; the input reads as it did. -/
def sceneMirroredSpec : ChangeSpec := { name := "sceneMirrored", fn := fun _ => fun
  | [d1, d2, d3, d4, d5] => { results := [.lit (.bool true)], args := [d1, d2, d3, d4, d5] }
  | _ => none }
def sceneMirroredRow : OpenClaim := { program := "ytjnggchljilooaa", sum := "798a2a6bd5095fecadd1ecfb4773345f772365bc9466e073545994d520fcf586", func := "armature/armaturelaw07.SceneMirrored", spec := "sceneMirrored", unfollowed := true, recurses := true, apart := false }
def SceneMirroredSaid : Prop := sceneMirroredRow.holds Try.pinned (OpenSpec.ofChange sceneMirroredSpec)

/-- ITS FALSE NEIGHBOUR: 'it returns false'. Refute it at one input. -/
def sceneMirroredWrong : ChangeSpec := { name := "sceneMirrored", fn := fun _ => fun
  | [d1, d2, d3, d4, d5] => { results := [.lit (.bool false)], args := [d1, d2, d3, d4, d5] }
  | _ => none }
def SceneMirroredWrongFalsely : Prop := sceneMirroredRow.holds Try.pinned (OpenSpec.ofChange sceneMirroredWrong)

/- THE SECOND FORM. 'bulk': how many values and letters a reading holds, each counted each time it is reached (what is shared counts as often as it is met; a slice's spare places count too). A statement '..UptoSaid' is the law's where the arguments, and the package variables that the reading takes, are together of bulk at most 1048576: NARROWER than '..Said'. Prove '..Said' where nothing that the law and all that it calls make is longer than what came in: it says more and counts as full. Else prove '..UptoSaid'. A law counts once. -/
mutual
def uptoBulk {H : Type} : DataW H → Nat
  | .lit (.string bytes) => bytes.length + 1
  | .lit _ => 1
  | .nil => 1
  | .ptr d => uptoBulk d + 1
  | .slice elems spare => uptoBulkAll elems + uptoBulkAll spare + 1
  | .agg parts => uptoBulkAll parts + 1
  | .iface _ d => uptoBulk d + 1
  | .map entries => uptoBulkEntries entries + 1
  | .held _ => 1
def uptoBulkAll {H : Type} : List (DataW H) → Nat
  | [] => 0
  | d :: r => uptoBulk d + uptoBulkAll r
def uptoBulkEntries {H : Type} : List (Lit × DataW H) → Nat
  | [] => 0
  | x :: r => uptoBulkEntry x + uptoBulkEntries r
def uptoBulkEntry {H : Type} : Lit × DataW H → Nat
  | (.string bytes, d) => bytes.length + uptoBulk d + 1
  | (_, d) => uptoBulk d + 1
 end
def uptoSmall : (H : Type) → List (DataW H) → Bool := fun _ ds => decide (uptoBulkAll ds ≤ 1048576)
def OpenSpec.upto (s : _root_.Go.ChangeSpec) : _root_.Go.OpenSpec := { _root_.Go.OpenSpec.ofChange s with cond := some uptoSmall }

/-- 'armaturelaw07.SceneCells', WHERE WHAT IT READS IS OF BULK AT MOST 1048576: true; the input reads as it did. -/
def sceneCellsUptoRow : OpenClaim := { program := "ytjnggchljilooaa", sum := "798a2a6bd5095fecadd1ecfb4773345f772365bc9466e073545994d520fcf586", func := "armature/armaturelaw07.SceneCells", spec := "sceneCells", unfollowed := true, recurses := true, apart := false, narrowed := true }
def SceneCellsUptoSaid : Prop := sceneCellsUptoRow.holds Try.pinned (OpenSpec.upto sceneCellsSpec)

/-- 'armaturelaw07.SceneSeen', WHERE WHAT IT READS IS OF BULK AT MOST 1048576: true; the input reads as it did. -/
def sceneSeenUptoRow : OpenClaim := { program := "ytjnggchljilooaa", sum := "798a2a6bd5095fecadd1ecfb4773345f772365bc9466e073545994d520fcf586", func := "armature/armaturelaw07.SceneSeen", spec := "sceneSeen", unfollowed := true, recurses := true, apart := false, narrowed := true }
def SceneSeenUptoSaid : Prop := sceneSeenUptoRow.holds Try.pinned (OpenSpec.upto sceneSeenSpec)

/-- 'armaturelaw07.SceneHigher', WHERE WHAT IT READS IS OF BULK AT MOST 1048576: true; the input reads as it did. -/
def sceneHigherUptoRow : OpenClaim := { program := "ytjnggchljilooaa", sum := "798a2a6bd5095fecadd1ecfb4773345f772365bc9466e073545994d520fcf586", func := "armature/armaturelaw07.SceneHigher", spec := "sceneHigher", unfollowed := true, recurses := true, apart := false, narrowed := true }
def SceneHigherUptoSaid : Prop := sceneHigherUptoRow.holds Try.pinned (OpenSpec.upto sceneHigherSpec)

/-- 'armaturelaw07.SceneAll', WHERE WHAT IT READS IS OF BULK AT MOST 1048576: true; the input reads as it did. -/
def sceneAllUptoRow : OpenClaim := { program := "ytjnggchljilooaa", sum := "798a2a6bd5095fecadd1ecfb4773345f772365bc9466e073545994d520fcf586", func := "armature/armaturelaw07.SceneAll", spec := "sceneAll", unfollowed := true, recurses := true, apart := false, narrowed := true }
def SceneAllUptoSaid : Prop := sceneAllUptoRow.holds Try.pinned (OpenSpec.upto sceneAllSpec)

/-- 'armaturelaw07.SceneMounts', WHERE WHAT IT READS IS OF BULK AT MOST 1048576: true; the input reads as it did. -/
def sceneMountsUptoRow : OpenClaim := { program := "ytjnggchljilooaa", sum := "798a2a6bd5095fecadd1ecfb4773345f772365bc9466e073545994d520fcf586", func := "armature/armaturelaw07.SceneMounts", spec := "sceneMounts", unfollowed := true, recurses := true, apart := false, narrowed := true }
def SceneMountsUptoSaid : Prop := sceneMountsUptoRow.holds Try.pinned (OpenSpec.upto sceneMountsSpec)

/-- 'armaturelaw07.SceneLooks', WHERE WHAT IT READS IS OF BULK AT MOST 1048576: true; the input reads as it did. -/
def sceneLooksUptoRow : OpenClaim := { program := "ytjnggchljilooaa", sum := "798a2a6bd5095fecadd1ecfb4773345f772365bc9466e073545994d520fcf586", func := "armature/armaturelaw07.SceneLooks", spec := "sceneLooks", unfollowed := true, recurses := true, apart := false, narrowed := true }
def SceneLooksUptoSaid : Prop := sceneLooksUptoRow.holds Try.pinned (OpenSpec.upto sceneLooksSpec)

/-- 'armaturelaw07.SceneRaised', WHERE WHAT IT READS IS OF BULK AT MOST 1048576: true; the input reads as it did. -/
def sceneRaisedUptoRow : OpenClaim := { program := "ytjnggchljilooaa", sum := "798a2a6bd5095fecadd1ecfb4773345f772365bc9466e073545994d520fcf586", func := "armature/armaturelaw07.SceneRaised", spec := "sceneRaised", unfollowed := true, recurses := true, apart := false, narrowed := true }
def SceneRaisedUptoSaid : Prop := sceneRaisedUptoRow.holds Try.pinned (OpenSpec.upto sceneRaisedSpec)

/-- 'armaturelaw07.SceneMirrored', WHERE WHAT IT READS IS OF BULK AT MOST 1048576: true; the input reads as it did. -/
def sceneMirroredUptoRow : OpenClaim := { program := "ytjnggchljilooaa", sum := "798a2a6bd5095fecadd1ecfb4773345f772365bc9466e073545994d520fcf586", func := "armature/armaturelaw07.SceneMirrored", spec := "sceneMirrored", unfollowed := true, recurses := true, apart := false, narrowed := true }
def SceneMirroredUptoSaid : Prop := sceneMirroredUptoRow.holds Try.pinned (OpenSpec.upto sceneMirroredSpec)

end Rows
end Go.Proofs.Ytjnggchljilooaa
