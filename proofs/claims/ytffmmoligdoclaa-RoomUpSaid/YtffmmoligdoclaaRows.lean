/-
  No cell of these rows narrows 'for every input' (looked for: loops, veiled, ifaces, maps, wideKeys, modest, calm, conditions, laid).
  DERIVED. THE GIVEN ROWS OF THIS SEAT. 5 by the template 'for every input the law returns true; each argument reads behind the call as it read before'; 0 by the template 'total and deterministic' (their statements: YtffmmoligdoclaaTotals.lean).
  GIVEN WITH THE SEED: the statements are not yours to turn. If you find one false, say at which input.
  Laid BY PROGRAM, IN A SANDBOX (cutbox-rows.mjs): the forced cells as the released guide's own fill.sh prints them over the translation c3c884a5995225ce… (all of the seat's roots in one cut). By AI agents, Wed Nov 11 2026. No macro, syntax, notation, axiom, sorry.
-/
import Derived.Test.YtffmmoligdoclaaChecked
import GoSem.Claim
import GoSem.ClaimJoined
import GoSem.ClaimMapViews
import Derived.JoinedTies
import Derived.KernelRfl
namespace Go.Proofs.Ytffmmoligdoclaa
/- THE CELL 'sum', in the pinned program and in every row, IS THE sha256 OF THE DUMP (.gsa) THAT YtffmmoligdoclaaProg.lean LOADS. Nothing in Lean hashes anything: it is a label: what it is worth is what the hold of that sum in a sandbox is worth. -/
noncomputable def Try.pinned : Pinned := { name := "ytffmmoligdoclaa", sum := "c3c884a5995225ce7af368cc4f91b6ce9b508a529411dba4203fb3c7f6297f8b", checked := Try.checked }
namespace Rows
def none {H : Type} : Left H := { results := [], args := [] }

/-- 'doorkeeperlaw13.RoomAll': WHATEVER THE INPUT: true; the input reads as it did. -/
def roomAllSpec : ChangeSpec := { name := "roomAll", fn := fun _ => fun
  | [d1, d2, d3] => { results := [.lit (.bool true)], args := [d1, d2, d3] }
  | _ => none }
def roomAllRow : OpenClaim := { program := "ytffmmoligdoclaa", sum := "c3c884a5995225ce7af368cc4f91b6ce9b508a529411dba4203fb3c7f6297f8b", func := "doorkeeper/doorkeeperlaw13.RoomAll", spec := "roomAll", inPlace := ["internal/bytealg.abigen_runtime_cmpstring"], unfollowed := true, recurses := true, apart := false }
def RoomAllSaid : Prop := roomAllRow.holds Try.pinned (OpenSpec.ofChange roomAllSpec)

/-- ITS FALSE NEIGHBOUR: 'it returns false'. Refute it at one input. -/
def roomAllWrong : ChangeSpec := { name := "roomAll", fn := fun _ => fun
  | [d1, d2, d3] => { results := [.lit (.bool false)], args := [d1, d2, d3] }
  | _ => none }
def RoomAllWrongFalsely : Prop := roomAllRow.holds Try.pinned (OpenSpec.ofChange roomAllWrong)

/-- 'doorkeeperlaw13.RoomMade': WHATEVER THE INPUT: true; the input reads as it did. -/
def roomMadeSpec : ChangeSpec := { name := "roomMade", fn := fun _ => fun
  | [d1, d2, d3] => { results := [.lit (.bool true)], args := [d1, d2, d3] }
  | _ => none }
def roomMadeRow : OpenClaim := { program := "ytffmmoligdoclaa", sum := "c3c884a5995225ce7af368cc4f91b6ce9b508a529411dba4203fb3c7f6297f8b", func := "doorkeeper/doorkeeperlaw13.RoomMade", spec := "roomMade", inPlace := ["internal/bytealg.abigen_runtime_cmpstring"], unfollowed := true, recurses := true, apart := false }
def RoomMadeSaid : Prop := roomMadeRow.holds Try.pinned (OpenSpec.ofChange roomMadeSpec)

/-- ITS FALSE NEIGHBOUR: 'it returns false'. Refute it at one input. -/
def roomMadeWrong : ChangeSpec := { name := "roomMade", fn := fun _ => fun
  | [d1, d2, d3] => { results := [.lit (.bool false)], args := [d1, d2, d3] }
  | _ => none }
def RoomMadeWrongFalsely : Prop := roomMadeRow.holds Try.pinned (OpenSpec.ofChange roomMadeWrong)

/-- 'doorkeeperlaw13.RoomFits': WHATEVER THE INPUT: true; the input reads as it did. -/
def roomFitsSpec : ChangeSpec := { name := "roomFits", fn := fun _ => fun
  | [d1, d2, d3] => { results := [.lit (.bool true)], args := [d1, d2, d3] }
  | _ => none }
def roomFitsRow : OpenClaim := { program := "ytffmmoligdoclaa", sum := "c3c884a5995225ce7af368cc4f91b6ce9b508a529411dba4203fb3c7f6297f8b", func := "doorkeeper/doorkeeperlaw13.RoomFits", spec := "roomFits", inPlace := ["internal/bytealg.abigen_runtime_cmpstring"], unfollowed := true, recurses := true, apart := false }
def RoomFitsSaid : Prop := roomFitsRow.holds Try.pinned (OpenSpec.ofChange roomFitsSpec)

/-- ITS FALSE NEIGHBOUR: 'it returns false'. Refute it at one input. -/
def roomFitsWrong : ChangeSpec := { name := "roomFits", fn := fun _ => fun
  | [d1, d2, d3] => { results := [.lit (.bool false)], args := [d1, d2, d3] }
  | _ => none }
def RoomFitsWrongFalsely : Prop := roomFitsRow.holds Try.pinned (OpenSpec.ofChange roomFitsWrong)

/-- 'doorkeeperlaw13.RoomShares': WHATEVER THE INPUT: true; the input reads as it did. -/
def roomSharesSpec : ChangeSpec := { name := "roomShares", fn := fun _ => fun
  | [d1, d2] => { results := [.lit (.bool true)], args := [d1, d2] }
  | _ => none }
def roomSharesRow : OpenClaim := { program := "ytffmmoligdoclaa", sum := "c3c884a5995225ce7af368cc4f91b6ce9b508a529411dba4203fb3c7f6297f8b", func := "doorkeeper/doorkeeperlaw13.RoomShares", spec := "roomShares", inPlace := ["internal/bytealg.abigen_runtime_cmpstring"], unfollowed := true, recurses := true, apart := false }
def RoomSharesSaid : Prop := roomSharesRow.holds Try.pinned (OpenSpec.ofChange roomSharesSpec)

/-- ITS FALSE NEIGHBOUR: 'it returns false'. Refute it at one input. -/
def roomSharesWrong : ChangeSpec := { name := "roomShares", fn := fun _ => fun
  | [d1, d2] => { results := [.lit (.bool false)], args := [d1, d2] }
  | _ => none }
def RoomSharesWrongFalsely : Prop := roomSharesRow.holds Try.pinned (OpenSpec.ofChange roomSharesWrong)

/-- 'doorkeeperlaw13.RoomUp': WHATEVER THE INPUT: true; the input reads as it did. -/
def roomUpSpec : ChangeSpec := { name := "roomUp", fn := fun _ => fun
  | [d] => { results := [.lit (.bool true)], args := [d] }
  | _ => none }
def roomUpRow : OpenClaim := { program := "ytffmmoligdoclaa", sum := "c3c884a5995225ce7af368cc4f91b6ce9b508a529411dba4203fb3c7f6297f8b", func := "doorkeeper/doorkeeperlaw13.RoomUp", spec := "roomUp", inPlace := ["internal/bytealg.abigen_runtime_cmpstring"], unfollowed := true, recurses := true, apart := false }
def RoomUpSaid : Prop := roomUpRow.holds Try.pinned (OpenSpec.ofChange roomUpSpec)

/-- ITS FALSE NEIGHBOUR: 'it returns false'. Refute it at one input. -/
def roomUpWrong : ChangeSpec := { name := "roomUp", fn := fun _ => fun
  | [d] => { results := [.lit (.bool false)], args := [d] }
  | _ => none }
def RoomUpWrongFalsely : Prop := roomUpRow.holds Try.pinned (OpenSpec.ofChange roomUpWrong)

/- THE SECOND FORM. 'bulk': how many values and letters a reading holds, each counted each time it is reached (what is shared counts as often as it is met; a slice's spare places count too). A statement '..UptoSaid' is the law's where the arguments, and the package variables that the reading takes, are together of bulk at most 1048576: NARROWER than '..Said'. Prove '..Said' where nothing that the law and all that it calls make is longer than what came in: it says more and counts as full. Else prove '..UptoSaid'. A law counts once. -/
mutual
def uptoBulk {H : Type} : DataW H → Nat
  | .lit (.string bytes) => bytes.length + 1
  | .lit _ => 1
  | .nil => 1
  | .ptr d => uptoBulk d + 1
  | .slice elems spare => uptoBulkAll elems + uptoBulkAll spare + 1
  | .agg parts => uptoBulkAll parts + 1
  | .iface _ d => uptoBulk d + 1
  | .map entries => uptoBulkEntries entries + 1
  | .held _ => 1
def uptoBulkAll {H : Type} : List (DataW H) → Nat
  | [] => 0
  | d :: r => uptoBulk d + uptoBulkAll r
def uptoBulkEntries {H : Type} : List (Lit × DataW H) → Nat
  | [] => 0
  | x :: r => uptoBulkEntry x + uptoBulkEntries r
def uptoBulkEntry {H : Type} : Lit × DataW H → Nat
  | (.string bytes, d) => bytes.length + uptoBulk d + 1
  | (_, d) => uptoBulk d + 1
 end
def uptoSmall : (H : Type) → List (DataW H) → Bool := fun _ ds => decide (uptoBulkAll ds ≤ 1048576)
def OpenSpec.upto (s : _root_.Go.ChangeSpec) : _root_.Go.OpenSpec := { _root_.Go.OpenSpec.ofChange s with cond := some uptoSmall }

/-- 'doorkeeperlaw13.RoomAll', WHERE WHAT IT READS IS OF BULK AT MOST 1048576: true; the input reads as it did. -/
def roomAllUptoRow : OpenClaim := { program := "ytffmmoligdoclaa", sum := "c3c884a5995225ce7af368cc4f91b6ce9b508a529411dba4203fb3c7f6297f8b", func := "doorkeeper/doorkeeperlaw13.RoomAll", spec := "roomAll", inPlace := ["internal/bytealg.abigen_runtime_cmpstring"], unfollowed := true, recurses := true, apart := false, narrowed := true }
def RoomAllUptoSaid : Prop := roomAllUptoRow.holds Try.pinned (OpenSpec.upto roomAllSpec)

/-- 'doorkeeperlaw13.RoomMade', WHERE WHAT IT READS IS OF BULK AT MOST 1048576: true; the input reads as it did. -/
def roomMadeUptoRow : OpenClaim := { program := "ytffmmoligdoclaa", sum := "c3c884a5995225ce7af368cc4f91b6ce9b508a529411dba4203fb3c7f6297f8b", func := "doorkeeper/doorkeeperlaw13.RoomMade", spec := "roomMade", inPlace := ["internal/bytealg.abigen_runtime_cmpstring"], unfollowed := true, recurses := true, apart := false, narrowed := true }
def RoomMadeUptoSaid : Prop := roomMadeUptoRow.holds Try.pinned (OpenSpec.upto roomMadeSpec)

/-- 'doorkeeperlaw13.RoomFits', WHERE WHAT IT READS IS OF BULK AT MOST 1048576: true; the input reads as it did. -/
def roomFitsUptoRow : OpenClaim := { program := "ytffmmoligdoclaa", sum := "c3c884a5995225ce7af368cc4f91b6ce9b508a529411dba4203fb3c7f6297f8b", func := "doorkeeper/doorkeeperlaw13.RoomFits", spec := "roomFits", inPlace := ["internal/bytealg.abigen_runtime_cmpstring"], unfollowed := true, recurses := true, apart := false, narrowed := true }
def RoomFitsUptoSaid : Prop := roomFitsUptoRow.holds Try.pinned (OpenSpec.upto roomFitsSpec)

/-- 'doorkeeperlaw13.RoomShares', WHERE WHAT IT READS IS OF BULK AT MOST 1048576: true; the input reads as it did. -/
def roomSharesUptoRow : OpenClaim := { program := "ytffmmoligdoclaa", sum := "c3c884a5995225ce7af368cc4f91b6ce9b508a529411dba4203fb3c7f6297f8b", func := "doorkeeper/doorkeeperlaw13.RoomShares", spec := "roomShares", inPlace := ["internal/bytealg.abigen_runtime_cmpstring"], unfollowed := true, recurses := true, apart := false, narrowed := true }
def RoomSharesUptoSaid : Prop := roomSharesUptoRow.holds Try.pinned (OpenSpec.upto roomSharesSpec)

/-- 'doorkeeperlaw13.RoomUp', WHERE WHAT IT READS IS OF BULK AT MOST 1048576: true; the input reads as it did. -/
def roomUpUptoRow : OpenClaim := { program := "ytffmmoligdoclaa", sum := "c3c884a5995225ce7af368cc4f91b6ce9b508a529411dba4203fb3c7f6297f8b", func := "doorkeeper/doorkeeperlaw13.RoomUp", spec := "roomUp", inPlace := ["internal/bytealg.abigen_runtime_cmpstring"], unfollowed := true, recurses := true, apart := false, narrowed := true }
def RoomUpUptoSaid : Prop := roomUpUptoRow.holds Try.pinned (OpenSpec.upto roomUpSpec)

end Rows
end Go.Proofs.Ytffmmoligdoclaa
