/- Package eval: a scope of binds: the first bind of a name counts. -/
import Derived.Test.YtndeihmclecmcaaGreatDoorValH
import Derived.Test.YtndeihmclecmcaaGreatDoorOwn
import Derived.Maps.OwnSet
import Derived.Maps.Views
import Derived.StringKeys
import Derived.Carry
namespace Go.Proofs.YtndeihmclecmcaaGreatDoor
open Go.RowKit
set_option linter.unusedVariables false
set_option linter.unusedSimpArgs false
def keyLit (x : ByteArray) : Lit := .string x.data.toList
theorem keyLit_ne {x y : ByteArray} (h : x ≠ y) : keyLit x ≠ keyLit y := fun e => h (by
  simp only [keyLit, Lit.string.injEq] at e
  exact ByteArray.ext (Array.ext' e))
theorem keyLit_key (x : ByteArray) : WideAt.IsKeyLit (keyLit x) := by simp [keyLit, WideAt.IsKeyLit]
theorem strKeyed : Maps.Keyed Tryz.prog 9 := Maps.string_keyed Tryz.underlying9
/-- An entry reads as itself. -/
def heldV (v : Value) : Option (DataW Value × List MemPlace) := some (.held v, [])
def zeroV : Value := .agg #[.int .i64 0, .int .i64 0, .string ⟨#[]⟩, .slice none 0 0]
theorem zeroVal_run (w : World) : (zeroValue 39).run Tryz.prog w = .ok zeroV w := by kernel_rfl
/-- The map at block g of at most n names: L tells what they stand for. -/
def ScopeAt (w : World) (D g n : Nat) (L : ByteArray → Option VL) : Prop :=
  ∃ d : DataW Value, w.ownsMap Tryz.prog 9 heldV g n d ∧ ∀ x : ByteArray,
    (L x = none → Maps.has d (keyLit x) = false ∧ d.atKey (keyLit x) (.held zeroV) = .held zeroV) ∧
    (∀ v, L x = some v → Maps.has d (keyLit x) = true ∧ I64 v.num ∧ ∃ lv, d.atKey (keyLit x) (.held zeroV) = .held (v.val lv) ∧ RowRd w D v.kids lv)
theorem ScopeAt.new (w : World) (D : Nat) : ScopeAt (w.alloc (.map #[] 0)) D w.heap.size 0 (fun _ => none) :=
  ⟨.map [], World.ownsMap_made w _ _ _, fun x => ⟨fun _ => ⟨rfl, rfl⟩, fun v h => by cases h⟩⟩
theorem ScopeAt.lt {w : World} {D g n : Nat} {L : ByteArray → Option VL} (h : ScopeAt w D g n L) : g < w.heap.size := by obtain ⟨d, h, -⟩ := h; exact World.ownsMap.lt h
/-- A row stays readable where all cells stay. -/
theorem RowRd.keep {w w' : World} (k : ∀ (p : Addr) (x : Value), w.cell? p = some x → w'.cell? p = some x) : ∀ {D : Nat} {l : List VL} {lv : Value}, RowRd w D l lv → RowRd w' D l lv := by
  intro D
  induction D with
  | zero => intro l lv h; exact h
  | succ D ih =>
    intro l lv h
    obtain ⟨hl, ao, cap, rfl, hc⟩ := h
    refine ⟨hl, ao, cap, rfl, fun i u hu => ?_⟩
    obtain ⟨g, o, lu, e, c0, c1, c2, c3, hr⟩ := hc i u hu
    exact ⟨g, o, lu, e, k _ _ c0, k _ _ c1, k _ _ c2, k _ _ c3, ih hr⟩
/-- A map that grows: the cells stay. -/
theorem cells_of_map {w w' : World} {g n : Nat} {d : DataW Value} (h : w.ownsMap Tryz.prog 9 heldV g n d) (hg : w.grownBy w' (some g)) (p : Addr) (x : Value) (hx : w.cell? p = some x) : w'.cell? p = some x := by
  obtain ⟨es, clock, hb, -⟩ := h
  have hlt := World.block_lt_of_cell? w _ hx
  refine (World.cell?_of_block (hg.block p.block hlt fun e => ?_)).trans hx
  simp at e
  have : w.cell? p = none := by unfold World.cell?; rw [e, hb]
  rw [this] at hx; cases hx
theorem ScopeAt.below {w w' : World} {D g n : Nat} {L : ByteArray → Option VL} (h : ScopeAt w D g n L) (hb : Below w.heap.size w w') : ScopeAt w' D g n L := by
  have hlt := h.lt
  obtain ⟨d, hm, hx⟩ := h
  refine ⟨d, ?_, fun x => ⟨(hx x).1, fun v hv => ?_⟩⟩
  · obtain ⟨es, clock, hblk, r⟩ := hm
    exact ⟨es, clock, (hb.block g hlt).trans hblk, r⟩
  · obtain ⟨h1, hi, lv, h2, h3⟩ := (hx x).2 v hv
    exact ⟨h1, hi, lv, h2, h3.below hb⟩
theorem ScopeAt.mono {w : World} {D g n m : Nat} {L : ByteArray → Option VL} (h : ScopeAt w D g n L) (hn : n ≤ m) : ScopeAt w D g m L := by
  obtain ⟨d, hm, hx⟩ := h; exact ⟨d, hm.mono hn, hx⟩
theorem isMap_of {w : World} {g n : Nat} {d : DataW Value} (h : w.ownsMap Tryz.prog 9 heldV g n d) : Maps.IsMap d := World.ownsMap.isMap h
/-- A name is put. -/
theorem ScopeAt.put {w w' : World} {D g n : Nat} {L : ByteArray → Option VL} {d : DataW Value} {key : ByteArray} {v : VL} {lv : Value}
    (hm : w.ownsMap Tryz.prog 9 heldV g n d)
    (hx : ∀ x : ByteArray, (L x = none → Maps.has d (keyLit x) = false ∧ d.atKey (keyLit x) (.held zeroV) = .held zeroV) ∧ (∀ v, L x = some v → Maps.has d (keyLit x) = true ∧ I64 v.num ∧ ∃ lv, d.atKey (keyLit x) (.held zeroV) = .held (v.val lv) ∧ RowRd w D v.kids lv))
    (hm' : w'.ownsMap Tryz.prog 9 heldV g (n + 1) (d.put (keyLit key) (.held (v.val lv)))) (hg : w.grownBy w' (some g)) (hi : I64 v.num) (hr : RowRd w D v.kids lv) :
    ScopeAt w' D g (n + 1) (fun x => if x = key then some v else L x) := by
  have hk := cells_of_map hm hg
  have hM := isMap_of hm
  refine ⟨_, hm', fun x => ?_⟩
  by_cases hxk : x = key
  · subst hxk
    simp only [if_true]
    refine ⟨fun h => (by cases h), fun u hu => ?_⟩
    obtain rfl : v = u := by simpa using hu
    exact ⟨Maps.has_put_same hM (keyLit_key x) _, hi, lv, Maps.atKey_put_same hM (keyLit_key x) _ _, hr.keep hk⟩
  · simp only [if_neg hxk]
    rw [Maps.has_put_other (keyLit_ne hxk), Maps.atKey_put_other (keyLit_ne hxk)]
    refine ⟨(hx x).1, fun u hu => ?_⟩
    obtain ⟨h1, h2, l2, h3, h4⟩ := (hx x).2 u hu
    exact ⟨h1, h2, l2, h3, h4.keep hk⟩
section
variable {P : Program} (w : World) {ops : Array Oper} {rest : List Oper} {o : Oper} {a : Act} {Q : Exit → Act → World → Prop}
/-- A lookup in a scope: what is told is known. -/
theorem wpList_lookup_scope (hg : o.guard = none) (m x : Operand) (hop : o.op = Op.lookup 114 m x true)
    (b n : Nat) (d : DataW Value) (hm : a.eval m = .map (some b)) (hown : w.ownsMap Tryz.prog 9 heldV b n d) (s : ByteArray) (hx : a.eval x = .string s) (hs : s.size ≤ maxLen) (v : Value) (hat : d.atKey (keyLit s) (.held zeroV) = .held v) (h : Bool) (hh : Maps.has d (keyLit s) = h)
    (hK : wpList Tryz.prog ops Q rest (a.put o.dst (.tuple #[v, .bool h])) w) :
    wpList Tryz.prog ops Q (o :: rest) a w :=
  wpList_lookup_own_ok w hg m x 114 hop 9 39 strKeyed Tryz.underlying114 heldV (zeroVal_run w) (.held zeroV) [] rfl b n d hm hown (.string s) (keyLit s) hx (Go.WideMaps.keyOf_string_mk Tryz.underlying9 hs) (fun u ps hu => by
    rw [hat] at hu
    simp only [heldV, Option.some.injEq, Prod.mk.injEq, DataW.held.injEq] at hu
    rw [hu.1, hh]
    exact hK)
end
section
variable (w : World)
/-- What a name stands for, or that there is none. -/
def refR (L : ByteArray → Option VL) (s : ByteArray) : VL × Int := match L s with | some v => (v, 0) | none => (vz, 2)
set_option maxRecDepth 20000 in
theorem preferS (D g n : Nat) (L : ByteArray → Option VL) (h : ScopeAt w D g n L) (s : ByteArray) (hs : s.size ≤ maxLen) :
    Calls Tryz.prog 123 #[.map (some g), .string s] w (Tells D (refR L s) w) := by
  have HL := Lib.hid hs
  have hlt := h.lt
  obtain ⟨d, hm, hx⟩ := h
  have B0 := Lib.hid (show Below w.heap.size w (w.alloc (.cells #[.int .i64 0, .int .i64 0, .string ⟨#[]⟩, .slice none 0 0] 39)) from (Below.refl _ _).alloc (Nat.le_refl _) _)
  have M1 := Lib.hid (show (w.alloc (.cells #[.int .i64 0, .int .i64 0, .string ⟨#[]⟩, .slice none 0 0] 39)).ownsMap Tryz.prog 9 heldV g n d from World.ownsMap.alloc hm _)
  cases hl : L s with
  | none =>
    obtain ⟨h1, h2⟩ := (hx s).1 hl
    have H1 := Lib.hid h1
    have H2 := Lib.hid h2
    have E := Lib.hid (show refR L s = (vz, 2) by unfold refR; rw [hl])
    rw [E.out]
    clear hs hx hm hl h1 h2
    unfold zeroV at H2
    go_enter Tryz.func123, Tryz.ntmps123
    go_wp2_with (at_lookup; refine wpList_lookup_scope _ rfl _ _ rfl g n d rfl M1.out s rfl HL.out _ H2.out false H1.out ?_)
    exact bodyPost_ret (v := .tuple #[vz.val (.slice none 0 0), .int .i64 2]) (by simp [results, Tryz.results123, go_sem, VL.val, vz, VL.kind, VL.num, VL.text]) rfl ⟨_, rfl, RowRd.nil _ _ _ _, below_al B0.out _⟩
  | some v =>
    obtain ⟨h1, hi, lv, h2, h3⟩ := (hx s).2 v hl
    obtain ⟨ao, cap, rfl⟩ := h3.shape
    have H1 := Lib.hid h1
    have H2 := Lib.hid h2
    have H3 := Lib.hid h3
    have E := Lib.hid (show refR L s = (v, 0) by unfold refR; rw [hl])
    rw [E.out]
    clear hs hx hm hl h1 h2 h3
    unfold VL.val at H2
    go_enter Tryz.func123, Tryz.ntmps123
    go_wp2_with (at_lookup; refine wpList_lookup_scope _ rfl _ _ rfl g n d rfl M1.out s rfl HL.out _ H2.out true H1.out ?_)
    refine bodyPost_ret (v := .tuple #[v.val (.slice ao v.kids.length cap), .int .i64 0]) ?_ rfl ⟨.slice ao v.kids.length cap, rfl, ?_, ?_⟩
    · simp [results, Tryz.results123, go_sem, VL.val]
    · exact H3.out.below (below_al (below_al (Below.refl _ _) _) _)
    · exact below_al (below_al (Below.refl _ _) _) _
end
end Go.Proofs.YtndeihmclecmcaaGreatDoor
namespace Go.Proofs.YtndeihmclecmcaaGreatDoor
open Go.RowKit
set_option linter.unusedVariables false
set_option linter.unusedSimpArgs false
/-- Binds as a slice value reads: names and values. -/
def BindsRd (w : World) (D : Nat) (bv : Value) (bs : List (ByteArray × VL)) : Prop :=
  ∃ ao cap, bv = .slice ao bs.length cap ∧ ∀ (i : Nat) (b : ByteArray × VL), bs[i]? = some b → ∃ (g o : Nat) (bo : Option Addr) (bc : Nat), ao = some ⟨g, o, none⟩ ∧
    w.cell? ⟨g, o + i * 5, none⟩ = some (.string b.1) ∧ w.cell? ⟨g, o + i * 5 + 1, none⟩ = some (.int .i64 b.2.kind) ∧ w.cell? ⟨g, o + i * 5 + 2, none⟩ = some (.int .i64 b.2.num) ∧
    w.cell? ⟨g, o + i * 5 + 3, none⟩ = some (.string b.2.text) ∧ w.cell? ⟨g, o + i * 5 + 4, none⟩ = some (.slice bo b.2.kids.length bc) ∧ RowRd w D b.2.kids (.slice bo b.2.kids.length bc)
theorem BindsRd.below {w w' : World} {D : Nat} {bv : Value} {bs : List (ByteArray × VL)} (h : BindsRd w D bv bs) (hb : Below w.heap.size w w') : BindsRd w' D bv bs := by
  obtain ⟨ao, cap, rfl, hc⟩ := h
  refine ⟨ao, cap, rfl, fun i b hi => ?_⟩
  obtain ⟨g, o, bo, bc, e, c0, c1, c2, c3, c4, r⟩ := hc i b hi
  exact ⟨g, o, bo, bc, e, hold hb c0, hold hb c1, hold hb c2, hold hb c3, hold hb c4, r.below hb⟩
def lookL (bs : List (ByteArray × VL)) (x : ByteArray) : Option VL := (bs.find? fun b => decide (b.1 = x)).map (·.2)
theorem lookL_snoc_have {bs : List (ByteArray × VL)} {b : ByteArray × VL} {v : VL} (h : lookL bs b.1 = some v) : lookL (bs ++ [b]) = lookL bs := by
  funext x
  unfold lookL
  rw [List.find?_append]
  cases hf : bs.find? fun b => decide (b.1 = x) with
  | some y => rfl
  | none =>
    have : ¬ b.1 = x := fun e => by
      unfold lookL at h
      rw [e, hf] at h
      cases h
    simp [List.find?, this]
theorem lookL_snoc_new {bs : List (ByteArray × VL)} {b : ByteArray × VL} (h : lookL bs b.1 = none) : lookL (bs ++ [b]) = fun x => if x = b.1 then some b.2 else lookL bs x := by
  funext x
  by_cases hx : x = b.1
  · subst hx
    simp only [if_true]
    unfold lookL at h ⊢
    rw [List.find?_append]
    cases hf : bs.find? fun y => decide (y.1 = b.1) with
    | some y => rw [hf] at h; cases h
    | none => simp [List.find?]
  · simp only [if_neg hx]
    unfold lookL
    rw [List.find?_append]
    have : ¬ b.1 = x := fun e => hx e.symm
    cases hf : bs.find? fun y => decide (y.1 = x) with
    | some y => rfl
    | none => simp [List.find?, this]
theorem take_snoc {α : Type} {l : List α} {j : Nat} {b : α} (h : l[j]? = some b) : l.take (j + 1) = l.take j ++ [b] := by
  obtain ⟨h1, h2⟩ := List.getElem?_eq_some_iff.1 h
  rw [← h2]
  simp
def ScopeRel (w : World) (D g : Nat) (bs : List (ByteArray × VL)) (m : Nat) (iv : Value) (wr : World) : Prop :=
  ∃ j : Nat, iv = .int .i64 j ∧ bs.length - j ≤ m ∧ j ≤ bs.length ∧ ScopeAt wr D g j (lookL (bs.take j)) ∧ Below w.heap.size w wr
section
variable (w : World)
set_option maxHeartbeats 1000000 in
set_option maxRecDepth 20000 in
theorem pscope (D : Nat) (bv : Value) (bs : List (ByteArray × VL)) (h : BindsRd w D bv bs) (hl : bs.length ≤ 100000) (hi : ∀ b ∈ bs, I64 b.2.num ∧ b.1.size ≤ 281474976710656) :
    Calls Tryz.prog 54 #[bv] w fun e w' => e = .returned (.map (some w.heap.size)) ∧ Below w.heap.size w w' ∧ ScopeAt w' D w.heap.size bs.length (lookL bs) := by
  have H := Lib.hid h
  have HI := Lib.hid hi
  have G0 := Lib.hid (ScopeAt.new w D)
  have BM := Lib.hid (show Below w.heap.size w (w.alloc (.map #[] 0)) from below_al (Below.refl _ _) _)
  obtain ⟨ao, cap, rfl, -⟩ := h
  clear hi
  have hmm := @run_makeMap Tryz.prog
  go_enter Tryz.func54, Tryz.ntmps54
  go_wp2_with fail
  go_loopg [11] bs.length (fun m v wr => ScopeRel w D w.heap.size bs m v wr)
  case atStart => exact ⟨0, rfl, Nat.le_refl _, Nat.zero_le _, G0.out, BM.out⟩
  case round =>
    obtain ⟨j, rfl, hm, hj, hs, hb⟩ := hrel
    have HM := Lib.hid hm
    have B := Lib.hid hb
    have HS := Lib.hid hs
    have hgl := hs.lt
    clear hm hb
    by_cases hjl : j < bs.length
    · obtain ⟨b, hb⟩ : ∃ b, bs[j]? = some b := ⟨_, List.getElem?_eq_getElem hjl⟩
      obtain ⟨hi1, hi2⟩ := HI.out b (List.mem_of_getElem? hb)
      have I1 := Lib.hid hi1
      have I2 := Lib.hid (show b.1.size ≤ maxLen by unfold maxLen; omega)
      have TK := Lib.hid (take_snoc hb)
      obtain ⟨ao2, cap2, e2, hat⟩ := H.out.below B.out
      simp at e2
      obtain ⟨rfl, rfl⟩ := e2
      obtain ⟨g, o, bo, bc, rfl, c0, c1, c2, c3, c4, hr⟩ := hat j b hb
      have HR := Lib.hid hr
      obtain ⟨d, hm, hx⟩ := hs
      have M1 := Lib.hid (show (wr.alloc (.cells #[.string b.1, .int .i64 b.2.kind, .int .i64 b.2.num, .string b.2.text, .slice bo b.2.kids.length bc] 41)).ownsMap Tryz.prog 9 heldV w.heap.size j d from World.ownsMap.alloc hm _)
      have HX := Lib.hid hx
      have HMP := Lib.hid hm
      cases hL : lookL (bs.take j) b.1 with
      | some v =>
        obtain ⟨q1, q2, lv, q3, q4⟩ := (hx b.1).2 v hL
        obtain ⟨vo, vc, rfl⟩ := q4.shape
        have Q1 := Lib.hid q1
        have Q3 := Lib.hid (show d.atKey (keyLit b.1) (.held zeroV) = .held (.agg #[.int .i64 v.kind, .int .i64 v.num, .string v.text, .slice vo v.kids.length vc]) from q3)
        have NX := Lib.hid (show lookL (bs.take (j + 1)) = lookL (bs.take j) by rw [TK.out]; exact lookL_snoc_have hL)
        clear hat hi1 hi2 hb hr hm hx hL q1 q2 q3 q4
        go_wp2_with (at_lookup; refine wpList_lookup_scope _ rfl _ _ rfl w.heap.size j d rfl M1.out b.1 rfl I2.out _ Q3.out true Q1.out ?_)
        go_roundg (bs.length - (j + 1))
        case rel => exact ⟨j + 1, rfl, Nat.le_refl _, hjl, by rw [NX.out]; exact (HS.out.below (below_al (below_al (Below.refl _ _) _) _)).mono (Nat.le_succ j), below_al (below_al B.out _) _⟩
        case measure => have := HM.out; omega
      | none =>
        obtain ⟨q1, q2⟩ := (hx b.1).1 hL
        have Q1 := Lib.hid q1
        have Q3 := Lib.hid (show d.atKey (keyLit b.1) (.held zeroV) = .held (.agg #[.int .i64 0, .int .i64 0, .string ⟨#[]⟩, .slice none 0 0]) from q2)
        have NX := Lib.hid (show lookL (bs.take (j + 1)) = fun x => if x = b.1 then some b.2 else lookL (bs.take j) x by rw [TK.out]; exact lookL_snoc_new hL)
        clear hat hi1 hi2 hb hr hm hx hL q1 q2
        go_wp2_with (first
          | (at_lookup; refine wpList_lookup_scope _ rfl _ _ rfl w.heap.size j d rfl M1.out b.1 rfl I2.out _ Q3.out false Q1.out ?_)
          | (at_mapUpdate; refine wpList_mapUpdate_own _ rfl _ _ _ 114 rfl 9 39 strKeyed Tryz.underlying114 heldV w.heap.size j d rfl (World.ownsMap.alloc M1.out _) (by unfold maxLen; omega) (.string b.1) (b.2.val (.slice bo b.2.kids.length bc)) (keyLit b.1) rfl rfl (Go.WideMaps.keyOf_string_mk Tryz.underlying9 I2.out) _ [] rfl ?_; intro w1 hown1 hgrow1))
        have BW := Lib.hid (show Below w.heap.size w w1 from Below.grown (below_al (below_al B.out _) _) hgrow1 (by have := B.out.size; simp; omega) (fun k hk => by simp at hk; omega))
        have SW := Lib.hid (show ScopeAt w1 D w.heap.size (j + 1) (lookL (bs.take (j + 1))) by
          rw [NX.out]
          exact ScopeAt.put (World.ownsMap.alloc M1.out _) (fun x => by
            refine ⟨(HX.out x).1, fun v hv => ?_⟩
            obtain ⟨h1, h2, l2, h3, h4⟩ := (HX.out x).2 v hv
            exact ⟨h1, h2, l2, h3, h4.below (below_al (below_al (Below.refl _ _) _) _)⟩) hown1 hgrow1 I1.out (HR.out.below (below_al (below_al (Below.refl _ _) _) _)))
        clear hown1 hgrow1
        go_wp2_with fail
        go_roundg (bs.length - (j + 1))
        case rel => exact ⟨j + 1, rfl, Nat.le_refl _, hjl, SW.out, BW.out⟩
        case measure => have := HM.out; omega
    · have hz : j = bs.length := by omega
      subst hz
      go_wp2_with fail
      go_ret
      exact ⟨rfl, B.out, by have := HS.out; rwa [List.take_length] at this⟩
end
end Go.Proofs.YtndeihmclecmcaaGreatDoor
