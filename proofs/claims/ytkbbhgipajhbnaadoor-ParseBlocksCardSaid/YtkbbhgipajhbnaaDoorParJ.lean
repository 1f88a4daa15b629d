/- Package parse's reader of blocks: the kind of a word, the names of a body, an expression's nodes, labels. -/
import Derived.Test.YtkbbhgipajhbnaaDoorParI
import Derived.Test.YtkbbhgipajhbnaaDoorLexJ0
import Derived.Maps.OwnSet
import Derived.StringKeys
namespace Go.Proofs.YtkbbhgipajhbnaaDoor
open Go.RowKit Go.Maps
set_option linter.unusedVariables false
set_option linter.unusedSimpArgs false

def kindOf (sg : ByteArray) : Int :=
  if sg = ⟨#[118, 97, 114, 105, 97, 98, 108, 101]⟩ then 1
  else if sg = ⟨#[108, 111, 99, 97, 108, 115]⟩ then 2
  else if sg = ⟨#[110, 111, 100, 101]⟩ then 3
  else if sg = ⟨#[109, 111, 100, 117, 108, 101]⟩ then 4
  else if sg = ⟨#[100, 101, 102, 105, 110, 101]⟩ then 5
  else 0
set_option maxHeartbeats 2000000 in
set_option maxRecDepth 20000 in
theorem pkind (sg : ByteArray) (w : World) : Calls Tryd.prog 35 #[.string sg] w fun e w' => e = .returned (.int .i64 (kindOf sg)) ∧ w = w' := by
  by_cases h0 : sg = ⟨#[118, 97, 114, 105, 97, 98, 108, 101]⟩
  · have e0 : (sg.toList == ([118, 97, 114, 105, 97, 98, 108, 101] : List UInt8)) = true := str_is h0
    have E := Lib.hid (show kindOf sg = 1 by rw [h0]; rfl)
    clear h0
    go_enter Tryd.func35, Tryd.ntmps35
    go_wp2_with fail
    go_ret
    exact ⟨by rw [E.out]; rfl, rfl⟩
  have n0 : (sg.toList == ([118, 97, 114, 105, 97, 98, 108, 101] : List UInt8)) = false := str_ne h0
  by_cases h1 : sg = ⟨#[108, 111, 99, 97, 108, 115]⟩
  · have e1 : (sg.toList == ([108, 111, 99, 97, 108, 115] : List UInt8)) = true := str_is h1
    have E := Lib.hid (show kindOf sg = 2 by rw [h1]; rfl)
    clear h1
    go_enter Tryd.func35, Tryd.ntmps35
    go_wp2_with fail
    go_ret
    exact ⟨by rw [E.out]; rfl, rfl⟩
  have n1 : (sg.toList == ([108, 111, 99, 97, 108, 115] : List UInt8)) = false := str_ne h1
  by_cases h2 : sg = ⟨#[110, 111, 100, 101]⟩
  · have e2 : (sg.toList == ([110, 111, 100, 101] : List UInt8)) = true := str_is h2
    have E := Lib.hid (show kindOf sg = 3 by rw [h2]; rfl)
    clear h2
    go_enter Tryd.func35, Tryd.ntmps35
    go_wp2_with fail
    go_ret
    exact ⟨by rw [E.out]; rfl, rfl⟩
  have n2 : (sg.toList == ([110, 111, 100, 101] : List UInt8)) = false := str_ne h2
  by_cases h3 : sg = ⟨#[109, 111, 100, 117, 108, 101]⟩
  · have e3 : (sg.toList == ([109, 111, 100, 117, 108, 101] : List UInt8)) = true := str_is h3
    have E := Lib.hid (show kindOf sg = 4 by rw [h3]; rfl)
    clear h3
    go_enter Tryd.func35, Tryd.ntmps35
    go_wp2_with fail
    go_ret
    exact ⟨by rw [E.out]; rfl, rfl⟩
  have n3 : (sg.toList == ([109, 111, 100, 117, 108, 101] : List UInt8)) = false := str_ne h3
  by_cases h4 : sg = ⟨#[100, 101, 102, 105, 110, 101]⟩
  · have e4 : (sg.toList == ([100, 101, 102, 105, 110, 101] : List UInt8)) = true := str_is h4
    have E := Lib.hid (show kindOf sg = 5 by rw [h4]; rfl)
    clear h4
    go_enter Tryd.func35, Tryd.ntmps35
    go_wp2_with fail
    go_ret
    exact ⟨by rw [E.out]; rfl, rfl⟩
  have n4 : (sg.toList == ([100, 101, 102, 105, 110, 101] : List UInt8)) = false := str_ne h4
  have E := Lib.hid (show kindOf sg = 0 by unfold kindOf; rw [if_neg h0, if_neg h1, if_neg h2, if_neg h3, if_neg h4])
  clear h0 h1 h2 h3 h4
  go_enter Tryd.func35, Tryd.ntmps35
  go_wp2_with fail
  go_ret
  exact ⟨by rw [E.out]; rfl, rfl⟩

theorem strKeys : Keyed Tryd.prog 9 := string_keyed Tryd.underlying9
theorem zeroUnit (w : World) : (zeroValue 109).run Tryd.prog w = .ok (.agg #[]) w := by kernel_rfl
def nameLit (x : ByteArray) : Lit := .string x.data.toList
/-- The set of names at block g. -/
def NamesAt (w : World) (g : Nat) (l : List ByteArray) : Prop := w.ownsMap (H := Unit) Tryd.prog 9 unitElem g l.length (setOf (.agg []) (l.map nameLit))
theorem NamesAt.lt {w : World} {g : Nat} {l : List ByteArray} (h : NamesAt w g l) : g < w.heap.size := World.ownsMap.lt h
theorem NamesAt.same {w w' : World} {g : Nat} {l : List ByteArray} (h : NamesAt w g l) (he : w'.heap[g]? = w.heap[g]?) : NamesAt w' g l := by
  obtain ⟨es, clock, hb, r⟩ := h
  exact ⟨es, clock, he.trans hb, r⟩
def inNames (x : ByteArray) (l : List ByteArray) : Bool := l.any fun y => decide (y = x)
theorem names_has (l : List ByteArray) (x : ByteArray) : Maps.has (setOf (H := Unit) (.agg []) (l.map nameLit)) (nameLit x) = inNames x l := by
  rw [has_setOf _ _ _ (fun y hy => by obtain ⟨z, _, rfl⟩ := List.mem_map.1 hy; simp [nameLit, WideAt.IsKeyLit])]
  rw [List.any_map, inNames]
  congr 1
  funext y
  simp only [Function.comp, nameLit, Lit.sameKey]
  by_cases h : y = x
  · subst h; simp
  · have : ¬ y.data.toList = x.data.toList := fun e => h (ByteArray.ext (Array.ext' e))
    rw [decide_eq_false h]
    simpa using this
set_option maxRecDepth 20000 in
theorem padd_name (w : World) (g : Nat) (l : List ByteArray) (x : ByteArray) (h : NamesAt w g l) (hx : x.size ≤ maxLen) (hl : l.length ≤ 100000) :
    Calls Tryd.prog 54 #[.map (some g), .string x] w fun e w' => e = .returned (.bool (!inNames x l)) ∧ w.grownBy w' (some g) ∧ NamesAt w' g (if inNames x l then l else l ++ [x]) := by
  have HN := Lib.hid h
  have hkey : keyOf Tryd.prog 9 (.string x) = some (nameLit x) := Go.WideMaps.keyOf_string_mk Tryd.underlying9 hx
  have HH := Lib.hid (names_has l x)
  have HG := Lib.hid (show w.grownBy (w.alloc (.cells #[] 109)) (some g) from World.grownBy_alloc _ _ _)
  cases hm : inNames x l
  · have HD := Lib.hid (show Maps.has (setOf (H := Unit) (.agg []) (l.map nameLit)) (nameLit x) = false by rw [HH.out]; exact hm)
    clear hm
    go_enter Tryd.func54, Tryd.ntmps54
    go_wp2_with (first
      | (at_lookup; refine wpList_lookup_own_unit _ rfl _ _ 105 rfl 9 109 strKeys Tryd.underlying105 (zeroUnit _) g l.length _ rfl HN.out _ _ rfl hkey ?_; rw [HD.out])
      | (at_mapUpdate; refine wpList_mapUpdate_own _ rfl _ _ _ 105 rfl 9 109 strKeys Tryd.underlying105 (unitElem (H := Unit)) g l.length _ rfl (World.ownsMap.alloc HN.out _) (by unfold maxLen; omega) _ _ _ rfl rfl hkey _ [] unitElem_mk ?_; intro w1 hown1 hgrow1))
    go_ret
    refine ⟨rfl, grown_trans HG.out hgrow1, ?_⟩
    show NamesAt w1 g (l ++ [x])
    unfold NamesAt
    rw [List.map_append, List.length_append]
    show w1.ownsMap _ _ _ _ _ (setOf _ (l.map nameLit ++ [nameLit x]))
    rw [setOf_snoc]
    exact hown1
  · have HD := Lib.hid (show Maps.has (setOf (H := Unit) (.agg []) (l.map nameLit)) (nameLit x) = true by rw [HH.out]; exact hm)
    clear hm
    go_enter Tryd.func54, Tryd.ntmps54
    go_wp2_with (at_lookup; refine wpList_lookup_own_unit _ rfl _ _ 105 rfl 9 109 strKeys Tryd.underlying105 (zeroUnit _) g l.length _ rfl HN.out _ _ rfl hkey ?_; rw [HD.out])
    go_ret
    exact ⟨rfl, HG.out, World.ownsMap.alloc HN.out _⟩
end Go.Proofs.YtkbbhgipajhbnaaDoor
