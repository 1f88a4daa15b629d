/- A set of names. -/
import Derived.Test.YtffmmoligdoclaaMapK
namespace Go.Proofs.Ytffmmoligdoclaa
open Go.RowKit
set_option linter.unusedVariables false
set_option linter.unusedSimpArgs false
/-- The map at block g is a set of names: P tells which. -/
def SetIn (w : World) (g n : Nat) (P : ByteArray → Prop) : Prop := ∃ d : DataW Value, w.ownsMap Try.prog 9 heldW g n d ∧ ∀ x, (P x → Maps.has d (keyW x) = true) ∧ (¬ P x → Maps.has d (keyW x) = false) ∧ d.atKey (keyW x) (.held (.agg #[])) = .held (.agg #[])
theorem unit_run (w : World) : (zeroValue 69).run Try.prog w = .ok (.agg #[]) w := by kernel_rfl
theorem SetIn.new (w : World) : SetIn (w.alloc (.map #[] 0)) w.heap.size 0 (fun _ => False) := ⟨.map [], World.ownsMap_made w _ _ _, fun x => ⟨fun h => h.elim, fun _ => rfl, rfl⟩⟩
theorem SetIn.lt {w : World} {g n : Nat} {P : ByteArray → Prop} (h : SetIn w g n P) : g < w.heap.size := by obtain ⟨d, h, -⟩ := h; exact World.ownsMap.lt h
theorem SetIn.below {w w' : World} {g n : Nat} {P : ByteArray → Prop} (h : SetIn w g n P) (hb : Below w.heap.size w w') : SetIn w' g n P := by
  have hlt := h.lt
  obtain ⟨d, h, r⟩ := h
  exact ⟨d, ownsMap_below h (hb.block g hlt), r⟩
theorem SetIn.iff {w : World} {g n : Nat} {P Q : ByteArray → Prop} (h : SetIn w g n P) (e : ∀ x, P x ↔ Q x) : SetIn w g n Q := by
  obtain ⟨d, h, r⟩ := h
  exact ⟨d, h, fun x => ⟨fun hq => (r x).1 ((e x).2 hq), fun hq => (r x).2.1 (fun hp => hq ((e x).1 hp)), (r x).2.2⟩⟩
theorem SetIn.look {W : World} {g n : Nat} {P : ByteArray → Prop} (h : SetIn W g n P) {s : ByteArray} (hs : s.size ≤ maxLen) {b : Bool} (hb : b = true → P s) (hn : b = false → ¬ P s) :
    (Instr.lookup 60 (.map (some g)) (.string s) true).run Try.prog W = .ok (.tuple #[.agg #[], .bool b]) W := by
  obtain ⟨d, h, r⟩ := h
  obtain ⟨v', ps, hrun, hv⟩ := World.ownsMap.look_ok h strKeyedW Try.underlying60 (unit_run W) (R := heldW) (zd := .held (.agg #[])) (zp := []) rfl (Go.WideMaps.keyOf_string_mk Try.underlying9 hs)
  rw [show Lit.string s.data.toList = keyW s from rfl, (r s).2.2] at hv
  simp only [heldW, Option.some.injEq, Prod.mk.injEq, DataW.held.injEq] at hv
  have hh : Maps.has d (keyW s) = b := by
    cases b
    · exact (r s).2.1 (hn rfl)
    · exact (r s).1 (hb rfl)
  rw [show Lit.string s.data.toList = keyW s from rfl, hv.1, hh] at hrun
  exact hrun
theorem SetIn.put {w' : World} {g n : Nat} {P : ByteArray → Prop} {d : DataW Value} {s : ByteArray} (hM : Maps.IsMap d) (r : ∀ x, (P x → Maps.has d (keyW x) = true) ∧ (¬ P x → Maps.has d (keyW x) = false) ∧ d.atKey (keyW x) (.held (.agg #[])) = .held (.agg #[]))
    (h' : w'.ownsMap Try.prog 9 heldW g (n + 1) (d.put (keyW s) (.held (.agg #[])))) : SetIn w' g (n + 1) (fun x => x = s ∨ P x) := by
  refine ⟨_, h', fun x => ?_⟩
  by_cases hx : x = s
  · subst hx
    exact ⟨fun _ => Maps.has_put_same hM (keyW_key x) _, fun h => absurd (.inl rfl) h, Maps.atKey_put_same hM (keyW_key x) _ _⟩
  · rw [Maps.has_put_other (keyW_ne hx), Maps.atKey_put_other (keyW_ne hx)]
    exact ⟨fun h => (r x).1 (h.resolve_left hx), fun h => (r x).2.1 (fun hp => h (.inr hp)), (r x).2.2⟩
end Go.Proofs.Ytffmmoligdoclaa
