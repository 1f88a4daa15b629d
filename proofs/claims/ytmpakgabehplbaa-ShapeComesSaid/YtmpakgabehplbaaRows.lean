/-
  No cell of these rows narrows 'for every input' (looked for: loops, veiled, ifaces, maps, wideKeys, modest, calm, conditions, laid).
  DERIVED. THE GIVEN ROWS OF THIS SEAT. 7 by the template 'for every input the law returns true; each argument reads behind the call as it read before'; 0 by the template 'total and deterministic' (their statements: YtmpakgabehplbaaTotals.lean).
  GIVEN WITH THE SEED: the statements are not yours to turn. If you find one false, say at which input.
  Laid BY PROGRAM, IN A SANDBOX (cutbox-rows.mjs): the forced cells as the released guide's own fill.sh prints them over the translation 0d6b93be25d2019b… (all of the seat's roots in one cut). By AI agents, Wed Nov 11 2026. No macro, syntax, notation, axiom, sorry.
-/
import Derived.Test.YtmpakgabehplbaaChecked
import GoSem.Claim
import GoSem.ClaimJoined
import GoSem.ClaimMapViews
import Derived.JoinedTies
import Derived.KernelRfl
namespace Go.Proofs.Ytmpakgabehplbaa
/- THE CELL 'sum', in the pinned program and in every row, IS THE sha256 OF THE DUMP (.gsa) THAT YtmpakgabehplbaaProg.lean LOADS. Nothing in Lean hashes anything: it is a label: what it is worth is what the hold of that sum in a sandbox is worth. -/
noncomputable def Try.pinned : Pinned := { name := "ytmpakgabehplbaa", sum := "0d6b93be25d2019b1346cb8dc47055ea6dbcbc0c98acd2b392c1ebeb7cb051c4", checked := Try.checked }
namespace Rows
def none {H : Type} : Left H := { results := [], args := [] }

/-- 'doorkeeperlaw15.ShapeAll': WHATEVER THE INPUT: true; the input reads as it did. -/
def shapeAllSpec : ChangeSpec := { name := "shapeAll", fn := fun _ => fun
  | [d1, d2, d3] => { results := [.lit (.bool true)], args := [d1, d2, d3] }
  | _ => none }
def shapeAllRow : OpenClaim := { program := "ytmpakgabehplbaa", sum := "0d6b93be25d2019b1346cb8dc47055ea6dbcbc0c98acd2b392c1ebeb7cb051c4", func := "doorkeeper/doorkeeperlaw15.ShapeAll", spec := "shapeAll", inPlace := ["internal/bytealg.abigen_runtime_cmpstring", "slices.overlaps[doorkeeper/api.Item]"], unfollowed := true, recurses := true, apart := false }
def ShapeAllSaid : Prop := shapeAllRow.holds Try.pinned (OpenSpec.ofChange shapeAllSpec)

/-- ITS FALSE NEIGHBOUR: 'it returns false'. Refute it at one input. -/
def shapeAllWrong : ChangeSpec := { name := "shapeAll", fn := fun _ => fun
  | [d1, d2, d3] => { results := [.lit (.bool false)], args := [d1, d2, d3] }
  | _ => none }
def ShapeAllWrongFalsely : Prop := shapeAllRow.holds Try.pinned (OpenSpec.ofChange shapeAllWrong)

/-- 'doorkeeperlaw15.ShapeMade': WHATEVER THE INPUT: true; the input reads as it did. -/
def shapeMadeSpec : ChangeSpec := { name := "shapeMade", fn := fun _ => fun
  | [d1, d2, d3] => { results := [.lit (.bool true)], args := [d1, d2, d3] }
  | _ => none }
def shapeMadeRow : OpenClaim := { program := "ytmpakgabehplbaa", sum := "0d6b93be25d2019b1346cb8dc47055ea6dbcbc0c98acd2b392c1ebeb7cb051c4", func := "doorkeeper/doorkeeperlaw15.ShapeMade", spec := "shapeMade", inPlace := ["internal/bytealg.abigen_runtime_cmpstring", "slices.overlaps[doorkeeper/api.Item]"], unfollowed := true, recurses := true, apart := false }
def ShapeMadeSaid : Prop := shapeMadeRow.holds Try.pinned (OpenSpec.ofChange shapeMadeSpec)

/-- ITS FALSE NEIGHBOUR: 'it returns false'. Refute it at one input. -/
def shapeMadeWrong : ChangeSpec := { name := "shapeMade", fn := fun _ => fun
  | [d1, d2, d3] => { results := [.lit (.bool false)], args := [d1, d2, d3] }
  | _ => none }
def ShapeMadeWrongFalsely : Prop := shapeMadeRow.holds Try.pinned (OpenSpec.ofChange shapeMadeWrong)

/-- 'doorkeeperlaw15.ShapeRest': WHATEVER THE INPUT: true; the input reads as it did. -/
def shapeRestSpec : ChangeSpec := { name := "shapeRest", fn := fun _ => fun
  | [d1, d2, d3, d4] => { results := [.lit (.bool true)], args := [d1, d2, d3, d4] }
  | _ => none }
def shapeRestRow : OpenClaim := { program := "ytmpakgabehplbaa", sum := "0d6b93be25d2019b1346cb8dc47055ea6dbcbc0c98acd2b392c1ebeb7cb051c4", func := "doorkeeper/doorkeeperlaw15.ShapeRest", spec := "shapeRest", inPlace := ["internal/bytealg.abigen_runtime_cmpstring", "slices.overlaps[doorkeeper/api.Item]"], unfollowed := true, recurses := true, apart := false }
def ShapeRestSaid : Prop := shapeRestRow.holds Try.pinned (OpenSpec.ofChange shapeRestSpec)

/-- ITS FALSE NEIGHBOUR: 'it returns false'. Refute it at one input. -/
def shapeRestWrong : ChangeSpec := { name := "shapeRest", fn := fun _ => fun
  | [d1, d2, d3, d4] => { results := [.lit (.bool false)], args := [d1, d2, d3, d4] }
  | _ => none }
def ShapeRestWrongFalsely : Prop := shapeRestRow.holds Try.pinned (OpenSpec.ofChange shapeRestWrong)

/-- 'doorkeeperlaw15.ShapeMoves': WHATEVER THE INPUT: true; the input reads as it did. -/
def shapeMovesSpec : ChangeSpec := { name := "shapeMoves", fn := fun _ => fun
  | [d1, d2, d3] => { results := [.lit (.bool true)], args := [d1, d2, d3] }
  | _ => none }
def shapeMovesRow : OpenClaim := { program := "ytmpakgabehplbaa", sum := "0d6b93be25d2019b1346cb8dc47055ea6dbcbc0c98acd2b392c1ebeb7cb051c4", func := "doorkeeper/doorkeeperlaw15.ShapeMoves", spec := "shapeMoves", inPlace := ["internal/bytealg.abigen_runtime_cmpstring", "slices.overlaps[doorkeeper/api.Item]"], unfollowed := true, recurses := true, apart := false }
def ShapeMovesSaid : Prop := shapeMovesRow.holds Try.pinned (OpenSpec.ofChange shapeMovesSpec)

/-- ITS FALSE NEIGHBOUR: 'it returns false'. Refute it at one input. -/
def shapeMovesWrong : ChangeSpec := { name := "shapeMoves", fn := fun _ => fun
  | [d1, d2, d3] => { results := [.lit (.bool false)], args := [d1, d2, d3] }
  | _ => none }
def ShapeMovesWrongFalsely : Prop := shapeMovesRow.holds Try.pinned (OpenSpec.ofChange shapeMovesWrong)

/-- 'doorkeeperlaw15.ShapeLimits': WHATEVER THE INPUT: true; the input reads as it did. -/
def shapeLimitsSpec : ChangeSpec := { name := "shapeLimits", fn := fun _ => fun
  | [d1, d2, d3] => { results := [.lit (.bool true)], args := [d1, d2, d3] }
  | _ => none }
def shapeLimitsRow : OpenClaim := { program := "ytmpakgabehplbaa", sum := "0d6b93be25d2019b1346cb8dc47055ea6dbcbc0c98acd2b392c1ebeb7cb051c4", func := "doorkeeper/doorkeeperlaw15.ShapeLimits", spec := "shapeLimits", inPlace := ["internal/bytealg.abigen_runtime_cmpstring", "slices.overlaps[doorkeeper/api.Item]"], unfollowed := true, recurses := true, apart := false }
def ShapeLimitsSaid : Prop := shapeLimitsRow.holds Try.pinned (OpenSpec.ofChange shapeLimitsSpec)

/-- ITS FALSE NEIGHBOUR: 'it returns false'. Refute it at one input. -/
def shapeLimitsWrong : ChangeSpec := { name := "shapeLimits", fn := fun _ => fun
  | [d1, d2, d3] => { results := [.lit (.bool false)], args := [d1, d2, d3] }
  | _ => none }
def ShapeLimitsWrongFalsely : Prop := shapeLimitsRow.holds Try.pinned (OpenSpec.ofChange shapeLimitsWrong)

/-- 'doorkeeperlaw15.ShapeComes': WHATEVER THE INPUT: true; the input reads as it did. -/
def shapeComesSpec : ChangeSpec := { name := "shapeComes", fn := fun _ => fun
  | [d1, d2, d3, d4] => { results := [.lit (.bool true)], args := [d1, d2, d3, d4] }
  | _ => none }
def shapeComesRow : OpenClaim := { program := "ytmpakgabehplbaa", sum := "0d6b93be25d2019b1346cb8dc47055ea6dbcbc0c98acd2b392c1ebeb7cb051c4", func := "doorkeeper/doorkeeperlaw15.ShapeComes", spec := "shapeComes", inPlace := ["internal/bytealg.abigen_runtime_cmpstring", "slices.overlaps[doorkeeper/api.Item]"], unfollowed := true, recurses := true, apart := false }
def ShapeComesSaid : Prop := shapeComesRow.holds Try.pinned (OpenSpec.ofChange shapeComesSpec)

/-- ITS FALSE NEIGHBOUR: 'it returns false'. Refute it at one input. -/
def shapeComesWrong : ChangeSpec := { name := "shapeComes", fn := fun _ => fun
  | [d1, d2, d3, d4] => { results := [.lit (.bool false)], args := [d1, d2, d3, d4] }
  | _ => none }
def ShapeComesWrongFalsely : Prop := shapeComesRow.holds Try.pinned (OpenSpec.ofChange shapeComesWrong)

/-- 'doorkeeperlaw15.ShapeMany': WHATEVER THE INPUT: true; the input reads as it did. -/
def shapeManySpec : ChangeSpec := { name := "shapeMany", fn := fun _ => fun
  | [d] => { results := [.lit (.bool true)], args := [d] }
  | _ => none }
def shapeManyRow : OpenClaim := { program := "ytmpakgabehplbaa", sum := "0d6b93be25d2019b1346cb8dc47055ea6dbcbc0c98acd2b392c1ebeb7cb051c4", func := "doorkeeper/doorkeeperlaw15.ShapeMany", spec := "shapeMany", inPlace := ["internal/bytealg.abigen_runtime_cmpstring", "slices.overlaps[doorkeeper/api.Item]"], unfollowed := true, recurses := true, apart := false }
def ShapeManySaid : Prop := shapeManyRow.holds Try.pinned (OpenSpec.ofChange shapeManySpec)

/-- ITS FALSE NEIGHBOUR: 'it returns false'. Refute it at one input. -/
def shapeManyWrong : ChangeSpec := { name := "shapeMany", fn := fun _ => fun
  | [d] => { results := [.lit (.bool false)], args := [d] }
  | _ => none }
def ShapeManyWrongFalsely : Prop := shapeManyRow.holds Try.pinned (OpenSpec.ofChange shapeManyWrong)

/- THE SECOND FORM. 'bulk': how many values and letters a reading holds, each counted each time it is reached (what is shared counts as often as it is met; a slice's spare places count too). A statement '..UptoSaid' is the law's where the arguments, and the package variables that the reading takes, are together of bulk at most 1048576: NARROWER than '..Said'. Prove '..Said' where nothing that the law and all that it calls make is longer than what came in: it says more and counts as full. Else prove '..UptoSaid'. A law counts once. -/
mutual
def uptoBulk {H : Type} : DataW H → Nat
  | .lit (.string bytes) => bytes.length + 1
  | .lit _ => 1
  | .nil => 1
  | .ptr d => uptoBulk d + 1
  | .slice elems spare => uptoBulkAll elems + uptoBulkAll spare + 1
  | .agg parts => uptoBulkAll parts + 1
  | .iface _ d => uptoBulk d + 1
  | .map entries => uptoBulkEntries entries + 1
  | .held _ => 1
def uptoBulkAll {H : Type} : List (DataW H) → Nat
  | [] => 0
  | d :: r => uptoBulk d + uptoBulkAll r
def uptoBulkEntries {H : Type} : List (Lit × DataW H) → Nat
  | [] => 0
  | x :: r => uptoBulkEntry x + uptoBulkEntries r
def uptoBulkEntry {H : Type} : Lit × DataW H → Nat
  | (.string bytes, d) => bytes.length + uptoBulk d + 1
  | (_, d) => uptoBulk d + 1
 end
def uptoSmall : (H : Type) → List (DataW H) → Bool := fun _ ds => decide (uptoBulkAll ds ≤ 1048576)
def OpenSpec.upto (s : _root_.Go.ChangeSpec) : _root_.Go.OpenSpec := { _root_.Go.OpenSpec.ofChange s with cond := some uptoSmall }

/-- 'doorkeeperlaw15.ShapeAll', WHERE WHAT IT READS IS OF BULK AT MOST 1048576: true; the input reads as it did. -/
def shapeAllUptoRow : OpenClaim := { program := "ytmpakgabehplbaa", sum := "0d6b93be25d2019b1346cb8dc47055ea6dbcbc0c98acd2b392c1ebeb7cb051c4", func := "doorkeeper/doorkeeperlaw15.ShapeAll", spec := "shapeAll", inPlace := ["internal/bytealg.abigen_runtime_cmpstring", "slices.overlaps[doorkeeper/api.Item]"], unfollowed := true, recurses := true, apart := false, narrowed := true }
def ShapeAllUptoSaid : Prop := shapeAllUptoRow.holds Try.pinned (OpenSpec.upto shapeAllSpec)

/-- 'doorkeeperlaw15.ShapeMade', WHERE WHAT IT READS IS OF BULK AT MOST 1048576: true; the input reads as it did. -/
def shapeMadeUptoRow : OpenClaim := { program := "ytmpakgabehplbaa", sum := "0d6b93be25d2019b1346cb8dc47055ea6dbcbc0c98acd2b392c1ebeb7cb051c4", func := "doorkeeper/doorkeeperlaw15.ShapeMade", spec := "shapeMade", inPlace := ["internal/bytealg.abigen_runtime_cmpstring", "slices.overlaps[doorkeeper/api.Item]"], unfollowed := true, recurses := true, apart := false, narrowed := true }
def ShapeMadeUptoSaid : Prop := shapeMadeUptoRow.holds Try.pinned (OpenSpec.upto shapeMadeSpec)

/-- 'doorkeeperlaw15.ShapeRest', WHERE WHAT IT READS IS OF BULK AT MOST 1048576: true; the input reads as it did. -/
def shapeRestUptoRow : OpenClaim := { program := "ytmpakgabehplbaa", sum := "0d6b93be25d2019b1346cb8dc47055ea6dbcbc0c98acd2b392c1ebeb7cb051c4", func := "doorkeeper/doorkeeperlaw15.ShapeRest", spec := "shapeRest", inPlace := ["internal/bytealg.abigen_runtime_cmpstring", "slices.overlaps[doorkeeper/api.Item]"], unfollowed := true, recurses := true, apart := false, narrowed := true }
def ShapeRestUptoSaid : Prop := shapeRestUptoRow.holds Try.pinned (OpenSpec.upto shapeRestSpec)

/-- 'doorkeeperlaw15.ShapeMoves', WHERE WHAT IT READS IS OF BULK AT MOST 1048576: true; the input reads as it did. -/
def shapeMovesUptoRow : OpenClaim := { program := "ytmpakgabehplbaa", sum := "0d6b93be25d2019b1346cb8dc47055ea6dbcbc0c98acd2b392c1ebeb7cb051c4", func := "doorkeeper/doorkeeperlaw15.ShapeMoves", spec := "shapeMoves", inPlace := ["internal/bytealg.abigen_runtime_cmpstring", "slices.overlaps[doorkeeper/api.Item]"], unfollowed := true, recurses := true, apart := false, narrowed := true }
def ShapeMovesUptoSaid : Prop := shapeMovesUptoRow.holds Try.pinned (OpenSpec.upto shapeMovesSpec)

/-- 'doorkeeperlaw15.ShapeLimits', WHERE WHAT IT READS IS OF BULK AT MOST 1048576: true; the input reads as it did. -/
def shapeLimitsUptoRow : OpenClaim := { program := "ytmpakgabehplbaa", sum := "0d6b93be25d2019b1346cb8dc47055ea6dbcbc0c98acd2b392c1ebeb7cb051c4", func := "doorkeeper/doorkeeperlaw15.ShapeLimits", spec := "shapeLimits", inPlace := ["internal/bytealg.abigen_runtime_cmpstring", "slices.overlaps[doorkeeper/api.Item]"], unfollowed := true, recurses := true, apart := false, narrowed := true }
def ShapeLimitsUptoSaid : Prop := shapeLimitsUptoRow.holds Try.pinned (OpenSpec.upto shapeLimitsSpec)

/-- 'doorkeeperlaw15.ShapeComes', WHERE WHAT IT READS IS OF BULK AT MOST 1048576: true; the input reads as it did. -/
def shapeComesUptoRow : OpenClaim := { program := "ytmpakgabehplbaa", sum := "0d6b93be25d2019b1346cb8dc47055ea6dbcbc0c98acd2b392c1ebeb7cb051c4", func := "doorkeeper/doorkeeperlaw15.ShapeComes", spec := "shapeComes", inPlace := ["internal/bytealg.abigen_runtime_cmpstring", "slices.overlaps[doorkeeper/api.Item]"], unfollowed := true, recurses := true, apart := false, narrowed := true }
def ShapeComesUptoSaid : Prop := shapeComesUptoRow.holds Try.pinned (OpenSpec.upto shapeComesSpec)

/-- 'doorkeeperlaw15.ShapeMany', WHERE WHAT IT READS IS OF BULK AT MOST 1048576: true; the input reads as it did. -/
def shapeManyUptoRow : OpenClaim := { program := "ytmpakgabehplbaa", sum := "0d6b93be25d2019b1346cb8dc47055ea6dbcbc0c98acd2b392c1ebeb7cb051c4", func := "doorkeeper/doorkeeperlaw15.ShapeMany", spec := "shapeMany", inPlace := ["internal/bytealg.abigen_runtime_cmpstring", "slices.overlaps[doorkeeper/api.Item]"], unfollowed := true, recurses := true, apart := false, narrowed := true }
def ShapeManyUptoSaid : Prop := shapeManyUptoRow.holds Try.pinned (OpenSpec.upto shapeManySpec)

end Rows
end Go.Proofs.Ytmpakgabehplbaa
