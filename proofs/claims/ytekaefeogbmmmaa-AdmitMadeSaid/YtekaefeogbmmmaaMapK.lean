/- What maps from names to rows share. -/
import Derived.Test.YtekaefeogbmmmaaOwnX
import Derived.Maps.OwnSet
import Derived.Maps.Views
import Derived.StringKeys
import Derived.Deep.RegionLaw
import Derived.Deep.AppendLies
namespace Go.Proofs.Ytekaefeogbmmmaa
open Go.RowKit
set_option linter.unusedVariables false
set_option linter.unusedSimpArgs false
def keyW (x : ByteArray) : Lit := .string x.data.toList
theorem keyW_ne {x y : ByteArray} (h : x ≠ y) : keyW x ≠ keyW y := fun e => h (by
  simp only [keyW, Lit.string.injEq] at e
  exact ByteArray.ext (Array.ext' e))
theorem keyW_key (x : ByteArray) : WideAt.IsKeyLit (keyW x) := by simp [keyW, WideAt.IsKeyLit]
theorem strKeyedW : Maps.Keyed Try.prog 9 := Maps.string_keyed Try.underlying9
/-- An entry reads as itself. -/
def heldW (v : Value) : Option (DataW Value × List MemPlace) := some (.held v, [])
abbrev nilS : Value := .slice none 0 0
theorem ownsMap_below {w w' : World} {g n : Nat} {d : DataW Value} (h : w.ownsMap Try.prog 9 heldW g n d) (hb : w'.heap[g]? = w.heap[g]?) : w'.ownsMap Try.prog 9 heldW g n d := by
  obtain ⟨es, clock, hblk, r⟩ := h
  exact ⟨es, clock, hb.trans hblk, r⟩
theorem grownDA {w w6 : World} {O : Obj} {row : Option Nat} (h : (w.alloc O).drew.grownBy w6 row) : w.grownBy w6 row :=
  grown_trans (World.grownBy_alloc w O row) ⟨h.os, h.tape, h.output, h.size, h.block⟩
end Go.Proofs.Ytekaefeogbmmmaa
