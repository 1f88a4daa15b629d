/-
  No cell of these rows narrows 'for every input' (looked for: loops, veiled, ifaces, maps, wideKeys, modest, calm, conditions, laid).
  DERIVED. THE GIVEN ROWS OF THIS SEAT. 4 by the template 'for every input the law returns true; each argument reads behind the call as it read before'; 0 by the template 'total and deterministic' (their statements: YtekaefeogbmmmaaTotals.lean).
  GIVEN WITH THE SEED: the statements are not yours to turn. If you find one false, say at which input.
  Laid BY PROGRAM, IN A SANDBOX (cutbox-rows.mjs): the forced cells as the released guide's own fill.sh prints them over the translation 5aa2427a4a562a6f… (all of the seat's roots in one cut). By AI agents, Wed Nov 11 2026. No macro, syntax, notation, axiom, sorry.
-/
import Derived.Test.YtekaefeogbmmmaaChecked
import GoSem.Claim
import GoSem.ClaimJoined
import GoSem.ClaimMapViews
import Derived.JoinedTies
import Derived.KernelRfl
namespace Go.Proofs.Ytekaefeogbmmmaa
/- THE CELL 'sum', in the pinned program and in every row, IS THE sha256 OF THE DUMP (.gsa) THAT YtekaefeogbmmmaaProg.lean LOADS. Nothing in Lean hashes anything: it is a label: what it is worth is what the hold of that sum in a sandbox is worth. -/
noncomputable def Try.pinned : Pinned := { name := "ytekaefeogbmmmaa", sum := "5aa2427a4a562a6fcb0288e367e78801a1d70a3f99c704911ba1c7247870ed11", checked := Try.checked }
namespace Rows
def none {H : Type} : Left H := { results := [], args := [] }

/-- 'doorkeeperlaw14.AdmitAll': WHATEVER THE INPUT: true; the input reads as it did. -/
def admitAllSpec : ChangeSpec := { name := "admitAll", fn := fun _ => fun
  | [d1, d2, d3] => { results := [.lit (.bool true)], args := [d1, d2, d3] }
  | _ => none }
def admitAllRow : OpenClaim := { program := "ytekaefeogbmmmaa", sum := "5aa2427a4a562a6fcb0288e367e78801a1d70a3f99c704911ba1c7247870ed11", func := "doorkeeper/doorkeeperlaw14.AdmitAll", spec := "admitAll", inPlace := ["internal/bytealg.abigen_runtime_cmpstring"], unfollowed := true, recurses := true, apart := false }
def AdmitAllSaid : Prop := admitAllRow.holds Try.pinned (OpenSpec.ofChange admitAllSpec)

/-- ITS FALSE NEIGHBOUR: 'it returns false'. Refute it at one input. -/
def admitAllWrong : ChangeSpec := { name := "admitAll", fn := fun _ => fun
  | [d1, d2, d3] => { results := [.lit (.bool false)], args := [d1, d2, d3] }
  | _ => none }
def AdmitAllWrongFalsely : Prop := admitAllRow.holds Try.pinned (OpenSpec.ofChange admitAllWrong)

/-- 'doorkeeperlaw14.AdmitMade': WHATEVER THE INPUT: true; the input reads as it did. -/
def admitMadeSpec : ChangeSpec := { name := "admitMade", fn := fun _ => fun
  | [d1, d2] => { results := [.lit (.bool true)], args := [d1, d2] }
  | _ => none }
def admitMadeRow : OpenClaim := { program := "ytekaefeogbmmmaa", sum := "5aa2427a4a562a6fcb0288e367e78801a1d70a3f99c704911ba1c7247870ed11", func := "doorkeeper/doorkeeperlaw14.AdmitMade", spec := "admitMade", inPlace := ["internal/bytealg.abigen_runtime_cmpstring"], unfollowed := true, recurses := true, apart := false }
def AdmitMadeSaid : Prop := admitMadeRow.holds Try.pinned (OpenSpec.ofChange admitMadeSpec)

/-- ITS FALSE NEIGHBOUR: 'it returns false'. Refute it at one input. -/
def admitMadeWrong : ChangeSpec := { name := "admitMade", fn := fun _ => fun
  | [d1, d2] => { results := [.lit (.bool false)], args := [d1, d2] }
  | _ => none }
def AdmitMadeWrongFalsely : Prop := admitMadeRow.holds Try.pinned (OpenSpec.ofChange admitMadeWrong)

/-- 'doorkeeperlaw14.AdmitRoom': WHATEVER THE INPUT: true; the input reads as it did. -/
def admitRoomSpec : ChangeSpec := { name := "admitRoom", fn := fun _ => fun
  | [d1, d2, d3, d4] => { results := [.lit (.bool true)], args := [d1, d2, d3, d4] }
  | _ => none }
def admitRoomRow : OpenClaim := { program := "ytekaefeogbmmmaa", sum := "5aa2427a4a562a6fcb0288e367e78801a1d70a3f99c704911ba1c7247870ed11", func := "doorkeeper/doorkeeperlaw14.AdmitRoom", spec := "admitRoom", inPlace := ["internal/bytealg.abigen_runtime_cmpstring"], unfollowed := true, recurses := true, apart := false }
def AdmitRoomSaid : Prop := admitRoomRow.holds Try.pinned (OpenSpec.ofChange admitRoomSpec)

/-- ITS FALSE NEIGHBOUR: 'it returns false'. Refute it at one input. -/
def admitRoomWrong : ChangeSpec := { name := "admitRoom", fn := fun _ => fun
  | [d1, d2, d3, d4] => { results := [.lit (.bool false)], args := [d1, d2, d3, d4] }
  | _ => none }
def AdmitRoomWrongFalsely : Prop := admitRoomRow.holds Try.pinned (OpenSpec.ofChange admitRoomWrong)

/-- 'doorkeeperlaw14.AdmitTwice': WHATEVER THE INPUT: true; the input reads as it did. -/
def admitTwiceSpec : ChangeSpec := { name := "admitTwice", fn := fun _ => fun
  | [d1, d2, d3, d4, d5] => { results := [.lit (.bool true)], args := [d1, d2, d3, d4, d5] }
  | _ => none }
def admitTwiceRow : OpenClaim := { program := "ytekaefeogbmmmaa", sum := "5aa2427a4a562a6fcb0288e367e78801a1d70a3f99c704911ba1c7247870ed11", func := "doorkeeper/doorkeeperlaw14.AdmitTwice", spec := "admitTwice", inPlace := ["internal/bytealg.abigen_runtime_cmpstring"], unfollowed := true, recurses := true, apart := false }
def AdmitTwiceSaid : Prop := admitTwiceRow.holds Try.pinned (OpenSpec.ofChange admitTwiceSpec)

/-- ITS FALSE NEIGHBOUR: 'it returns false'. Refute it at one input. -/
def admitTwiceWrong : ChangeSpec := { name := "admitTwice", fn := fun _ => fun
  | [d1, d2, d3, d4, d5] => { results := [.lit (.bool false)], args := [d1, d2, d3, d4, d5] }
  | _ => none }
def AdmitTwiceWrongFalsely : Prop := admitTwiceRow.holds Try.pinned (OpenSpec.ofChange admitTwiceWrong)

/- THE SECOND FORM. 'bulk': how many values and letters a reading holds, each counted each time it is reached (what is shared counts as often as it is met; a slice's spare places count too). A statement '..UptoSaid' is the law's where the arguments, and the package variables that the reading takes, are together of bulk at most 1048576: NARROWER than '..Said'. Prove '..Said' where nothing that the law and all that it calls make is longer than what came in: it says more and counts as full. Else prove '..UptoSaid'. A law counts once. -/
mutual
def uptoBulk {H : Type} : DataW H → Nat
  | .lit (.string bytes) => bytes.length + 1
  | .lit _ => 1
  | .nil => 1
  | .ptr d => uptoBulk d + 1
  | .slice elems spare => uptoBulkAll elems + uptoBulkAll spare + 1
  | .agg parts => uptoBulkAll parts + 1
  | .iface _ d => uptoBulk d + 1
  | .map entries => uptoBulkEntries entries + 1
  | .held _ => 1
def uptoBulkAll {H : Type} : List (DataW H) → Nat
  | [] => 0
  | d :: r => uptoBulk d + uptoBulkAll r
def uptoBulkEntries {H : Type} : List (Lit × DataW H) → Nat
  | [] => 0
  | x :: r => uptoBulkEntry x + uptoBulkEntries r
def uptoBulkEntry {H : Type} : Lit × DataW H → Nat
  | (.string bytes, d) => bytes.length + uptoBulk d + 1
  | (_, d) => uptoBulk d + 1
 end
def uptoSmall : (H : Type) → List (DataW H) → Bool := fun _ ds => decide (uptoBulkAll ds ≤ 1048576)
def OpenSpec.upto (s : _root_.Go.ChangeSpec) : _root_.Go.OpenSpec := { _root_.Go.OpenSpec.ofChange s with cond := some uptoSmall }

/-- 'doorkeeperlaw14.AdmitAll', WHERE WHAT IT READS IS OF BULK AT MOST 1048576: true; the input reads as it did. -/
def admitAllUptoRow : OpenClaim := { program := "ytekaefeogbmmmaa", sum := "5aa2427a4a562a6fcb0288e367e78801a1d70a3f99c704911ba1c7247870ed11", func := "doorkeeper/doorkeeperlaw14.AdmitAll", spec := "admitAll", inPlace := ["internal/bytealg.abigen_runtime_cmpstring"], unfollowed := true, recurses := true, apart := false, narrowed := true }
def AdmitAllUptoSaid : Prop := admitAllUptoRow.holds Try.pinned (OpenSpec.upto admitAllSpec)

/-- 'doorkeeperlaw14.AdmitMade', WHERE WHAT IT READS IS OF BULK AT MOST 1048576: true; the input reads as it did. -/
def admitMadeUptoRow : OpenClaim := { program := "ytekaefeogbmmmaa", sum := "5aa2427a4a562a6fcb0288e367e78801a1d70a3f99c704911ba1c7247870ed11", func := "doorkeeper/doorkeeperlaw14.AdmitMade", spec := "admitMade", inPlace := ["internal/bytealg.abigen_runtime_cmpstring"], unfollowed := true, recurses := true, apart := false, narrowed := true }
def AdmitMadeUptoSaid : Prop := admitMadeUptoRow.holds Try.pinned (OpenSpec.upto admitMadeSpec)

/-- 'doorkeeperlaw14.AdmitRoom', WHERE WHAT IT READS IS OF BULK AT MOST 1048576: true; the input reads as it did. -/
def admitRoomUptoRow : OpenClaim := { program := "ytekaefeogbmmmaa", sum := "5aa2427a4a562a6fcb0288e367e78801a1d70a3f99c704911ba1c7247870ed11", func := "doorkeeper/doorkeeperlaw14.AdmitRoom", spec := "admitRoom", inPlace := ["internal/bytealg.abigen_runtime_cmpstring"], unfollowed := true, recurses := true, apart := false, narrowed := true }
def AdmitRoomUptoSaid : Prop := admitRoomUptoRow.holds Try.pinned (OpenSpec.upto admitRoomSpec)

/-- 'doorkeeperlaw14.AdmitTwice', WHERE WHAT IT READS IS OF BULK AT MOST 1048576: true; the input reads as it did. -/
def admitTwiceUptoRow : OpenClaim := { program := "ytekaefeogbmmmaa", sum := "5aa2427a4a562a6fcb0288e367e78801a1d70a3f99c704911ba1c7247870ed11", func := "doorkeeper/doorkeeperlaw14.AdmitTwice", spec := "admitTwice", inPlace := ["internal/bytealg.abigen_runtime_cmpstring"], unfollowed := true, recurses := true, apart := false, narrowed := true }
def AdmitTwiceUptoSaid : Prop := admitTwiceUptoRow.holds Try.pinned (OpenSpec.upto admitTwiceSpec)

end Rows
end Go.Proofs.Ytekaefeogbmmmaa
