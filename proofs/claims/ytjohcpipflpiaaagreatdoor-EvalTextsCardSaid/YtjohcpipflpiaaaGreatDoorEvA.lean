/- Package eval: what names stand for (the map of a scope). -/
import Derived.Test.YtjohcpipflpiaaaGreatDoorValH
import Derived.Test.YtjohcpipflpiaaaGreatDoorOwn
import Derived.Maps.OwnSet
import Derived.Maps.Views
import Derived.StringKeys
namespace Go.Proofs.YtjohcpipflpiaaaGreatDoor
open Go.RowKit
set_option linter.unusedVariables false
set_option linter.unusedSimpArgs false
def keyLit (x : ByteArray) : Lit := .string x.data.toList
theorem keyLit_ne {x y : ByteArray} (h : x ≠ y) : keyLit x ≠ keyLit y := fun e => h (by
  simp only [keyLit, Lit.string.injEq] at e
  exact ByteArray.ext (Array.ext' e))
theorem keyLit_key (x : ByteArray) : WideAt.IsKeyLit (keyLit x) := by simp [keyLit, WideAt.IsKeyLit]
theorem strKeyed : Maps.Keyed Tryz.prog 9 := Maps.string_keyed Tryz.underlying9
/-- An entry reads as itself. -/
def heldV (v : Value) : Option (DataW Value × List MemPlace) := some (.held v, [])
def zeroV : Value := .agg #[.int .i64 0, .int .i64 0, .string ⟨#[]⟩, .slice none 0 0]
theorem zeroVal_run (w : World) : (zeroValue 48).run Tryz.prog w = .ok zeroV w := by kernel_rfl
/-- The map at block g of at most n names: L tells what they stand for. -/
def ScopeAt (w : World) (D g n : Nat) (L : ByteArray → Option VL) : Prop :=
  ∃ d : DataW Value, w.ownsMap Tryz.prog 9 heldV g n d ∧ ∀ x : ByteArray,
    (L x = none → Maps.has d (keyLit x) = false ∧ d.atKey (keyLit x) (.held zeroV) = .held zeroV) ∧
    (∀ v, L x = some v → Maps.has d (keyLit x) = true ∧ I64 v.num ∧ ∃ lv, d.atKey (keyLit x) (.held zeroV) = .held (v.val lv) ∧ RowRd w D v.kids lv)
theorem ScopeAt.new (w : World) (D : Nat) : ScopeAt (w.alloc (.map #[] 0)) D w.heap.size 0 (fun _ => none) :=
  ⟨.map [], World.ownsMap_made w _ _ _, fun x => ⟨fun _ => ⟨rfl, rfl⟩, fun v h => by cases h⟩⟩
theorem ScopeAt.lt {w : World} {D g n : Nat} {L : ByteArray → Option VL} (h : ScopeAt w D g n L) : g < w.heap.size := by obtain ⟨d, h, -⟩ := h; exact World.ownsMap.lt h
/-- A row stays readable where all cells stay. -/
theorem RowRd.keep {w w' : World} (k : ∀ (p : Addr) (x : Value), w.cell? p = some x → w'.cell? p = some x) : ∀ {D : Nat} {l : List VL} {lv : Value}, RowRd w D l lv → RowRd w' D l lv := by
  intro D
  induction D with
  | zero => intro l lv h; exact h
  | succ D ih =>
    intro l lv h
    obtain ⟨hl, ao, cap, rfl, hc⟩ := h
    refine ⟨hl, ao, cap, rfl, fun i u hu => ?_⟩
    obtain ⟨g, o, lu, e, c0, c1, c2, c3, hr⟩ := hc i u hu
    exact ⟨g, o, lu, e, k _ _ c0, k _ _ c1, k _ _ c2, k _ _ c3, ih hr⟩
/-- A map that grows: the cells stay. -/
theorem cells_of_map {w w' : World} {g n : Nat} {d : DataW Value} (h : w.ownsMap Tryz.prog 9 heldV g n d) (hg : w.grownBy w' (some g)) (p : Addr) (x : Value) (hx : w.cell? p = some x) : w'.cell? p = some x := by
  obtain ⟨es, clock, hb, -⟩ := h
  have hlt := World.block_lt_of_cell? w _ hx
  refine (World.cell?_of_block (hg.block p.block hlt fun e => ?_)).trans hx
  simp at e
  have : w.cell? p = none := by unfold World.cell?; rw [e, hb]
  rw [this] at hx; cases hx
theorem ScopeAt.below {w w' : World} {D g n : Nat} {L : ByteArray → Option VL} (h : ScopeAt w D g n L) (hb : Below w.heap.size w w') : ScopeAt w' D g n L := by
  have hlt := h.lt
  obtain ⟨d, hm, hx⟩ := h
  refine ⟨d, ?_, fun x => ⟨(hx x).1, fun v hv => ?_⟩⟩
  · obtain ⟨es, clock, hblk, r⟩ := hm
    exact ⟨es, clock, (hb.block g hlt).trans hblk, r⟩
  · obtain ⟨h1, hi, lv, h2, h3⟩ := (hx x).2 v hv
    exact ⟨h1, hi, lv, h2, h3.below hb⟩
theorem ScopeAt.mono {w : World} {D g n m : Nat} {L : ByteArray → Option VL} (h : ScopeAt w D g n L) (hn : n ≤ m) : ScopeAt w D g m L := by
  obtain ⟨d, hm, hx⟩ := h; exact ⟨d, hm.mono hn, hx⟩
theorem isMap_of {w : World} {g n : Nat} {d : DataW Value} (h : w.ownsMap Tryz.prog 9 heldV g n d) : Maps.IsMap d := World.ownsMap.isMap h
/-- A name is put. -/
theorem ScopeAt.put {w w' : World} {D g n : Nat} {L : ByteArray → Option VL} {d : DataW Value} {key : ByteArray} {v : VL} {lv : Value}
    (hm : w.ownsMap Tryz.prog 9 heldV g n d)
    (hx : ∀ x : ByteArray, (L x = none → Maps.has d (keyLit x) = false ∧ d.atKey (keyLit x) (.held zeroV) = .held zeroV) ∧ (∀ v, L x = some v → Maps.has d (keyLit x) = true ∧ I64 v.num ∧ ∃ lv, d.atKey (keyLit x) (.held zeroV) = .held (v.val lv) ∧ RowRd w D v.kids lv))
    (hm' : w'.ownsMap Tryz.prog 9 heldV g (n + 1) (d.put (keyLit key) (.held (v.val lv)))) (hg : w.grownBy w' (some g)) (hi : I64 v.num) (hr : RowRd w D v.kids lv) :
    ScopeAt w' D g (n + 1) (fun x => if x = key then some v else L x) := by
  have hk := cells_of_map hm hg
  have hM := isMap_of hm
  refine ⟨_, hm', fun x => ?_⟩
  by_cases hxk : x = key
  · subst hxk
    simp only [if_true]
    refine ⟨fun h => (by cases h), fun u hu => ?_⟩
    obtain rfl : v = u := by simpa using hu
    exact ⟨Maps.has_put_same hM (keyLit_key x) _, hi, lv, Maps.atKey_put_same hM (keyLit_key x) _ _, hr.keep hk⟩
  · simp only [if_neg hxk]
    rw [Maps.has_put_other (keyLit_ne hxk), Maps.atKey_put_other (keyLit_ne hxk)]
    refine ⟨(hx x).1, fun u hu => ?_⟩
    obtain ⟨h1, h2, l2, h3, h4⟩ := (hx x).2 u hu
    exact ⟨h1, h2, l2, h3, h4.keep hk⟩
section
variable {P : Program} (w : World) {ops : Array Oper} {rest : List Oper} {o : Oper} {a : Act} {Q : Exit → Act → World → Prop}
/-- A lookup in a scope: what is told is known. -/
theorem wpList_lookup_scope (hg : o.guard = none) (m x : Operand) (hop : o.op = Op.lookup 73 m x true)
    (b n : Nat) (d : DataW Value) (hm : a.eval m = .map (some b)) (hown : w.ownsMap Tryz.prog 9 heldV b n d) (s : ByteArray) (hx : a.eval x = .string s) (hs : s.size ≤ maxLen) (v : Value) (hat : d.atKey (keyLit s) (.held zeroV) = .held v) (h : Bool) (hh : Maps.has d (keyLit s) = h)
    (hK : wpList Tryz.prog ops Q rest (a.put o.dst (.tuple #[v, .bool h])) w) :
    wpList Tryz.prog ops Q (o :: rest) a w :=
  wpList_lookup_own_ok w hg m x 73 hop 9 48 strKeyed Tryz.underlying73 heldV (zeroVal_run w) (.held zeroV) [] rfl b n d hm hown (.string s) (keyLit s) hx (Go.WideMaps.keyOf_string_mk Tryz.underlying9 hs) (fun u ps hu => by
    rw [hat] at hu
    simp only [heldV, Option.some.injEq, Prod.mk.injEq, DataW.held.injEq] at hu
    rw [hu.1, hh]
    exact hK)
end
section
variable (w : World)
/-- What a name stands for, or that there is none. -/
def refR (L : ByteArray → Option VL) (s : ByteArray) : VL × Int := match L s with | some v => (v, 0) | none => (vz, 2)
set_option maxRecDepth 20000 in
theorem preferS (D g n : Nat) (L : ByteArray → Option VL) (h : ScopeAt w D g n L) (s : ByteArray) (hs : s.size ≤ maxLen) :
    Calls Tryz.prog 82 #[.map (some g), .string s] w (Tells D (refR L s) w) := by
  have HL := Lib.hid hs
  have hlt := h.lt
  obtain ⟨d, hm, hx⟩ := h
  have B0 := Lib.hid (show Below w.heap.size w (w.alloc (.cells #[.int .i64 0, .int .i64 0, .string ⟨#[]⟩, .slice none 0 0] 48)) from (Below.refl _ _).alloc (Nat.le_refl _) _)
  have M1 := Lib.hid (show (w.alloc (.cells #[.int .i64 0, .int .i64 0, .string ⟨#[]⟩, .slice none 0 0] 48)).ownsMap Tryz.prog 9 heldV g n d from World.ownsMap.alloc hm _)
  cases hl : L s with
  | none =>
    obtain ⟨h1, h2⟩ := (hx s).1 hl
    have H1 := Lib.hid h1
    have H2 := Lib.hid h2
    have E := Lib.hid (show refR L s = (vz, 2) by unfold refR; rw [hl])
    rw [E.out]
    clear hs hx hm hl h1 h2
    unfold zeroV at H2
    go_enter Tryz.func82, Tryz.ntmps82
    go_wp2_with (at_lookup; refine wpList_lookup_scope _ rfl _ _ rfl g n d rfl M1.out s rfl HL.out _ H2.out false H1.out ?_)
    exact bodyPost_ret (v := .tuple #[vz.val (.slice none 0 0), .int .i64 2]) (by simp [results, Tryz.results82, go_sem, VL.val, vz, VL.kind, VL.num, VL.text]) rfl ⟨_, rfl, RowRd.nil _ _ _ _, below_al B0.out _⟩
  | some v =>
    obtain ⟨h1, hi, lv, h2, h3⟩ := (hx s).2 v hl
    obtain ⟨ao, cap, rfl⟩ := h3.shape
    have H1 := Lib.hid h1
    have H2 := Lib.hid h2
    have H3 := Lib.hid h3
    have E := Lib.hid (show refR L s = (v, 0) by unfold refR; rw [hl])
    rw [E.out]
    clear hs hx hm hl h1 h2 h3
    unfold VL.val at H2
    go_enter Tryz.func82, Tryz.ntmps82
    go_wp2_with (at_lookup; refine wpList_lookup_scope _ rfl _ _ rfl g n d rfl M1.out s rfl HL.out _ H2.out true H1.out ?_)
    refine bodyPost_ret (v := .tuple #[v.val (.slice ao v.kids.length cap), .int .i64 0]) ?_ rfl ⟨.slice ao v.kids.length cap, rfl, ?_, ?_⟩
    · simp [results, Tryz.results82, go_sem, VL.val]
    · exact H3.out.below (below_al (below_al (Below.refl _ _) _) _)
    · exact below_al (below_al (Below.refl _ _) _) _
end
end Go.Proofs.YtjohcpipflpiaaaGreatDoor
