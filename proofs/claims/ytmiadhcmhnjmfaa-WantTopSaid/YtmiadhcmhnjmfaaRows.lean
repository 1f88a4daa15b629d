/-
  No cell of these rows narrows 'for every input' (looked for: loops, veiled, ifaces, maps, wideKeys, modest, calm, conditions, laid).
  DERIVED. THE GIVEN ROWS OF THIS SEAT. 5 by the template 'for every input the law returns true; each argument reads behind the call as it read before'; 0 by the template 'total and deterministic' (their statements: YtmiadhcmhnjmfaaTotals.lean).
  GIVEN WITH THE SEED: the statements are not yours to turn. If you find one false, say at which input.
  Laid BY PROGRAM, IN A SANDBOX (cutbox-rows.mjs): the forced cells as the released guide's own fill.sh prints them over the translation 22ede81ebcc75c29… (all of the seat's roots in one cut). By AI agents, Wed Nov 11 2026. No macro, syntax, notation, axiom, sorry.
-/
import Derived.Test.YtmiadhcmhnjmfaaChecked
import GoSem.Claim
import GoSem.ClaimJoined
import GoSem.ClaimMapViews
import Derived.JoinedTies
import Derived.KernelRfl
namespace Go.Proofs.Ytmiadhcmhnjmfaa
/- THE CELL 'sum', in the pinned program and in every row, IS THE sha256 OF THE DUMP (.gsa) THAT YtmiadhcmhnjmfaaProg.lean LOADS. Nothing in Lean hashes anything: it is a label: what it is worth is what the hold of that sum in a sandbox is worth. -/
noncomputable def Try.pinned : Pinned := { name := "ytmiadhcmhnjmfaa", sum := "22ede81ebcc75c29ab90825c45c597ecaace08d8da91914e47f47c10d9c501fd", checked := Try.checked }
namespace Rows
def none {H : Type} : Left H := { results := [], args := [] }

/-- 'doorkeeperlaw11.WantAll': WHATEVER THE INPUT: true; the input reads as it did. -/
def wantAllSpec : ChangeSpec := { name := "wantAll", fn := fun _ => fun
  | [d1, d2] => { results := [.lit (.bool true)], args := [d1, d2] }
  | _ => none }
def wantAllRow : OpenClaim := { program := "ytmiadhcmhnjmfaa", sum := "22ede81ebcc75c29ab90825c45c597ecaace08d8da91914e47f47c10d9c501fd", func := "doorkeeper/doorkeeperlaw11.WantAll", spec := "wantAll", unfollowed := true, recurses := true, apart := false }
def WantAllSaid : Prop := wantAllRow.holds Try.pinned (OpenSpec.ofChange wantAllSpec)

/-- ITS FALSE NEIGHBOUR: 'it returns false'. Refute it at one input. -/
def wantAllWrong : ChangeSpec := { name := "wantAll", fn := fun _ => fun
  | [d1, d2] => { results := [.lit (.bool false)], args := [d1, d2] }
  | _ => none }
def WantAllWrongFalsely : Prop := wantAllRow.holds Try.pinned (OpenSpec.ofChange wantAllWrong)

/-- 'doorkeeperlaw11.WantMade': WHATEVER THE INPUT: true; the input reads as it did. -/
def wantMadeSpec : ChangeSpec := { name := "wantMade", fn := fun _ => fun
  | [d1, d2, d3] => { results := [.lit (.bool true)], args := [d1, d2, d3] }
  | _ => none }
def wantMadeRow : OpenClaim := { program := "ytmiadhcmhnjmfaa", sum := "22ede81ebcc75c29ab90825c45c597ecaace08d8da91914e47f47c10d9c501fd", func := "doorkeeper/doorkeeperlaw11.WantMade", spec := "wantMade", unfollowed := true, recurses := true, apart := false }
def WantMadeSaid : Prop := wantMadeRow.holds Try.pinned (OpenSpec.ofChange wantMadeSpec)

/-- ITS FALSE NEIGHBOUR: 'it returns false'. Refute it at one input. -/
def wantMadeWrong : ChangeSpec := { name := "wantMade", fn := fun _ => fun
  | [d1, d2, d3] => { results := [.lit (.bool false)], args := [d1, d2, d3] }
  | _ => none }
def WantMadeWrongFalsely : Prop := wantMadeRow.holds Try.pinned (OpenSpec.ofChange wantMadeWrong)

/-- 'doorkeeperlaw11.WantTop': WHATEVER THE INPUT: true; the input reads as it did. -/
def wantTopSpec : ChangeSpec := { name := "wantTop", fn := fun _ => fun
  | [d] => { results := [.lit (.bool true)], args := [d] }
  | _ => none }
def wantTopRow : OpenClaim := { program := "ytmiadhcmhnjmfaa", sum := "22ede81ebcc75c29ab90825c45c597ecaace08d8da91914e47f47c10d9c501fd", func := "doorkeeper/doorkeeperlaw11.WantTop", spec := "wantTop", unfollowed := true, recurses := true, apart := false }
def WantTopSaid : Prop := wantTopRow.holds Try.pinned (OpenSpec.ofChange wantTopSpec)

/-- ITS FALSE NEIGHBOUR: 'it returns false'. Refute it at one input. -/
def wantTopWrong : ChangeSpec := { name := "wantTop", fn := fun _ => fun
  | [d] => { results := [.lit (.bool false)], args := [d] }
  | _ => none }
def WantTopWrongFalsely : Prop := wantTopRow.holds Try.pinned (OpenSpec.ofChange wantTopWrong)

/-- 'doorkeeperlaw11.WantCircle': WHATEVER THE INPUT: true; the input reads as it did. -/
def wantCircleSpec : ChangeSpec := { name := "wantCircle", fn := fun _ => fun
  | [d1, d2, d3] => { results := [.lit (.bool true)], args := [d1, d2, d3] }
  | _ => none }
def wantCircleRow : OpenClaim := { program := "ytmiadhcmhnjmfaa", sum := "22ede81ebcc75c29ab90825c45c597ecaace08d8da91914e47f47c10d9c501fd", func := "doorkeeper/doorkeeperlaw11.WantCircle", spec := "wantCircle", unfollowed := true, recurses := true, apart := false }
def WantCircleSaid : Prop := wantCircleRow.holds Try.pinned (OpenSpec.ofChange wantCircleSpec)

/-- ITS FALSE NEIGHBOUR: 'it returns false'. Refute it at one input. -/
def wantCircleWrong : ChangeSpec := { name := "wantCircle", fn := fun _ => fun
  | [d1, d2, d3] => { results := [.lit (.bool false)], args := [d1, d2, d3] }
  | _ => none }
def WantCircleWrongFalsely : Prop := wantCircleRow.holds Try.pinned (OpenSpec.ofChange wantCircleWrong)

/-- 'doorkeeperlaw11.WantSums': WHATEVER THE INPUT: true; the input reads as it did. -/
def wantSumsSpec : ChangeSpec := { name := "wantSums", fn := fun _ => fun
  | [d1, d2, d3, d4, d5] => { results := [.lit (.bool true)], args := [d1, d2, d3, d4, d5] }
  | _ => none }
def wantSumsRow : OpenClaim := { program := "ytmiadhcmhnjmfaa", sum := "22ede81ebcc75c29ab90825c45c597ecaace08d8da91914e47f47c10d9c501fd", func := "doorkeeper/doorkeeperlaw11.WantSums", spec := "wantSums", unfollowed := true, recurses := true, apart := false }
def WantSumsSaid : Prop := wantSumsRow.holds Try.pinned (OpenSpec.ofChange wantSumsSpec)

/-- ITS FALSE NEIGHBOUR: 'it returns false'. Refute it at one input. -/
def wantSumsWrong : ChangeSpec := { name := "wantSums", fn := fun _ => fun
  | [d1, d2, d3, d4, d5] => { results := [.lit (.bool false)], args := [d1, d2, d3, d4, d5] }
  | _ => none }
def WantSumsWrongFalsely : Prop := wantSumsRow.holds Try.pinned (OpenSpec.ofChange wantSumsWrong)

/- THE SECOND FORM. 'bulk': how many values and letters a reading holds, each counted each time it is reached (what is shared counts as often as it is met; a slice's spare places count too). A statement '..UptoSaid' is the law's where the arguments, and the package variables that the reading takes, are together of bulk at most 1048576: NARROWER than '..Said'. Prove '..Said' where nothing that the law and all that it calls make is longer than what came in: it says more and counts as full. Else prove '..UptoSaid'. A law counts once. -/
mutual
def uptoBulk {H : Type} : DataW H → Nat
  | .lit (.string bytes) => bytes.length + 1
  | .lit _ => 1
  | .nil => 1
  | .ptr d => uptoBulk d + 1
  | .slice elems spare => uptoBulkAll elems + uptoBulkAll spare + 1
  | .agg parts => uptoBulkAll parts + 1
  | .iface _ d => uptoBulk d + 1
  | .map entries => uptoBulkEntries entries + 1
  | .held _ => 1
def uptoBulkAll {H : Type} : List (DataW H) → Nat
  | [] => 0
  | d :: r => uptoBulk d + uptoBulkAll r
def uptoBulkEntries {H : Type} : List (Lit × DataW H) → Nat
  | [] => 0
  | x :: r => uptoBulkEntry x + uptoBulkEntries r
def uptoBulkEntry {H : Type} : Lit × DataW H → Nat
  | (.string bytes, d) => bytes.length + uptoBulk d + 1
  | (_, d) => uptoBulk d + 1
 end
def uptoSmall : (H : Type) → List (DataW H) → Bool := fun _ ds => decide (uptoBulkAll ds ≤ 1048576)
def OpenSpec.upto (s : _root_.Go.ChangeSpec) : _root_.Go.OpenSpec := { _root_.Go.OpenSpec.ofChange s with cond := some uptoSmall }

/-- 'doorkeeperlaw11.WantAll', WHERE WHAT IT READS IS OF BULK AT MOST 1048576: true; the input reads as it did. -/
def wantAllUptoRow : OpenClaim := { program := "ytmiadhcmhnjmfaa", sum := "22ede81ebcc75c29ab90825c45c597ecaace08d8da91914e47f47c10d9c501fd", func := "doorkeeper/doorkeeperlaw11.WantAll", spec := "wantAll", unfollowed := true, recurses := true, apart := false, narrowed := true }
def WantAllUptoSaid : Prop := wantAllUptoRow.holds Try.pinned (OpenSpec.upto wantAllSpec)

/-- 'doorkeeperlaw11.WantMade', WHERE WHAT IT READS IS OF BULK AT MOST 1048576: true; the input reads as it did. -/
def wantMadeUptoRow : OpenClaim := { program := "ytmiadhcmhnjmfaa", sum := "22ede81ebcc75c29ab90825c45c597ecaace08d8da91914e47f47c10d9c501fd", func := "doorkeeper/doorkeeperlaw11.WantMade", spec := "wantMade", unfollowed := true, recurses := true, apart := false, narrowed := true }
def WantMadeUptoSaid : Prop := wantMadeUptoRow.holds Try.pinned (OpenSpec.upto wantMadeSpec)

/-- 'doorkeeperlaw11.WantTop', WHERE WHAT IT READS IS OF BULK AT MOST 1048576: true; the input reads as it did. -/
def wantTopUptoRow : OpenClaim := { program := "ytmiadhcmhnjmfaa", sum := "22ede81ebcc75c29ab90825c45c597ecaace08d8da91914e47f47c10d9c501fd", func := "doorkeeper/doorkeeperlaw11.WantTop", spec := "wantTop", unfollowed := true, recurses := true, apart := false, narrowed := true }
def WantTopUptoSaid : Prop := wantTopUptoRow.holds Try.pinned (OpenSpec.upto wantTopSpec)

/-- 'doorkeeperlaw11.WantCircle', WHERE WHAT IT READS IS OF BULK AT MOST 1048576: true; the input reads as it did. -/
def wantCircleUptoRow : OpenClaim := { program := "ytmiadhcmhnjmfaa", sum := "22ede81ebcc75c29ab90825c45c597ecaace08d8da91914e47f47c10d9c501fd", func := "doorkeeper/doorkeeperlaw11.WantCircle", spec := "wantCircle", unfollowed := true, recurses := true, apart := false, narrowed := true }
def WantCircleUptoSaid : Prop := wantCircleUptoRow.holds Try.pinned (OpenSpec.upto wantCircleSpec)

/-- 'doorkeeperlaw11.WantSums', WHERE WHAT IT READS IS OF BULK AT MOST 1048576: true; the input reads as it did. -/
def wantSumsUptoRow : OpenClaim := { program := "ytmiadhcmhnjmfaa", sum := "22ede81ebcc75c29ab90825c45c597ecaace08d8da91914e47f47c10d9c501fd", func := "doorkeeper/doorkeeperlaw11.WantSums", spec := "wantSums", unfollowed := true, recurses := true, apart := false, narrowed := true }
def WantSumsUptoSaid : Prop := wantSumsUptoRow.holds Try.pinned (OpenSpec.upto wantSumsSpec)

end Rows
end Go.Proofs.Ytmiadhcmhnjmfaa
