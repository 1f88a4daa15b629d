/- Package val: Index of other kinds; Index as a whole, of values that are made; what is the document's; the document's List. -/
import Derived.Test.YtoaachefdbepiaaDoorValMf
namespace Go.Proofs.YtoaachefdbepiaaDoor
open Go.RowKit
set_option linter.unusedVariables false
set_option linter.unusedSimpArgs false

section
variable (w : World)
set_option maxRecDepth 20000
theorem tells_told {D : Nat} {k n c : Int} {s : ByteArray} {w w' : World} {e : Ending} (h : IsTold k n s c w e w') : Tells D (.mk k n s [], c) w e w' := ⟨_, h.1, RowRd.nil _ _ _ _, h.2⟩
theorem tells_gives {D : Nat} {u : VL} {w w' : World} {e : Ending} (h : Gives D u.kind u.num u.text u.kids w e w') : Tells D (u, 0) w e w' := by
  obtain ⟨lv, he, hr, hb⟩ := h
  exact ⟨lv, he, hr.rd, hb⟩
end
end Go.Proofs.YtoaachefdbepiaaDoor
