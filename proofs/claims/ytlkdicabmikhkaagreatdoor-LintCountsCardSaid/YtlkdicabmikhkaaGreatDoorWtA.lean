/- Attributes as they are read; what package parse asks of attributes that may be. -/
import Derived.Test.YtlkdicabmikhkaaGreatDoorOwn
import Derived.Maps.OwnSet
import Derived.Maps.Views
import Derived.StringKeys
import Derived.Test.YtlkdicabmikhkaaGreatDoorNodU
import Derived.Test.YtlkdicabmikhkaaGreatDoorLexJ0
import Derived.Carry
namespace Go.Proofs.YtlkdicabmikhkaaGreatDoor
open Go.RowKit Go.Maps
set_option linter.unusedVariables false
set_option linter.unusedSimpArgs false
/-- Attributes as a slice value reads: names, expressions. -/
def AttrsRd (w : World) (v : Value) (al : List (ByteArray × List NodeL)) : Prop :=
  ∃ ao cap, v = .slice ao al.length cap ∧ ∀ (i : Nat) (a : ByteArray × List NodeL), al[i]? = some a → ∃ (g o : Nat) (no : Option Addr) (nc : Nat), ao = some ⟨g, o, none⟩ ∧
    w.cell? ⟨g, o + i * 2, none⟩ = some (.string a.1) ∧ w.cell? ⟨g, o + i * 2 + 1, none⟩ = some (.slice no a.2.length nc) ∧ NodesRd w (.slice no a.2.length nc) a.2
theorem AttrsRd.below {w w' : World} {v : Value} {al : List (ByteArray × List NodeL)} (h : AttrsRd w v al) (hb : Below w.heap.size w w') : AttrsRd w' v al := by
  obtain ⟨ao, cap, rfl, hc⟩ := h
  refine ⟨ao, cap, rfl, fun i b hi => ?_⟩
  obtain ⟨g, o, no, nc, e, c0, c1, r⟩ := hc i b hi
  exact ⟨g, o, no, nc, e, hold hb c0, hold hb c1, r.below hb⟩
theorem strKeyed : Maps.Keyed Tryz.prog 9 := Maps.string_keyed Tryz.underlying9
theorem take_snocW {α : Type} {l : List α} {j : Nat} {b : α} (h : l[j]? = some b) : l.take (j + 1) = l.take j ++ [b] := by
  obtain ⟨h1, h2⟩ := List.getElem?_eq_some_iff.1 h
  rw [← h2]
  simp
/-- No name stands twice. -/
def NamesOnce (al : List (ByteArray × List NodeL)) : Prop := ∀ (j : Nat) (a : ByteArray × List NodeL), al[j]? = some a → ∀ z ∈ al.take j, z.1 ≠ a.1
/-- Each expression is a tree. -/
def TreesOK (al : List (ByteArray × List NodeL)) : Prop := ∀ a ∈ al, treeP a.2 = true ∧ a.2.length ≤ 1000 ∧ ∀ n ∈ a.2, Few n ∧ n.text.size ≤ 100000 ∧ n.kids.length ≤ 100000
theorem zeroUnitW (w : World) : (zeroValue 93).run Tryz.prog w = .ok (.agg #[]) w := by kernel_rfl
def nameLitW (x : ByteArray) : Lit := .string x.data.toList
/-- The set of names at block g. -/
def NamesAtW (w : World) (g : Nat) (l : List ByteArray) : Prop := w.ownsMap (H := Unit) Tryz.prog 9 unitElem g l.length (setOf (.agg []) (l.map nameLitW))
theorem NamesAtW.lt {w : World} {g : Nat} {l : List ByteArray} (h : NamesAtW w g l) : g < w.heap.size := World.ownsMap.lt h
theorem NamesAtW.below {w w' : World} {g : Nat} {l : List ByteArray} (h : NamesAtW w g l) (hb : Below w.heap.size w w') : NamesAtW w' g l := by
  have hl := h.lt
  obtain ⟨es, clock, h1, r⟩ := h
  exact ⟨es, clock, (hb.block g hl).trans h1, r⟩
theorem NamesAtW.new (w : World) : NamesAtW (w.alloc (.map #[] 0)) w.heap.size [] := World.ownsMap_made w _ _ _
def inNamesW (x : ByteArray) (l : List ByteArray) : Bool := l.any fun y => decide (y = x)
theorem names_hasW (l : List ByteArray) (x : ByteArray) : Maps.has (setOf (H := Unit) (.agg []) (l.map nameLitW)) (nameLitW x) = inNamesW x l := by
  rw [has_setOf _ _ _ (fun y hy => by obtain ⟨z, _, rfl⟩ := List.mem_map.1 hy; simp [nameLitW, WideAt.IsKeyLit])]
  rw [List.any_map, inNamesW]
  congr 1
  funext y
  simp only [Function.comp, nameLitW, Lit.sameKey]
  by_cases h : y = x
  · subst h; simp
  · have : ¬ y.data.toList = x.data.toList := fun e => h (ByteArray.ext (Array.ext' e))
    rw [decide_eq_false h]
    simpa using this
set_option maxRecDepth 20000 in
theorem padd_nameW (w : World) (g : Nat) (l : List ByteArray) (x : ByteArray) (h : NamesAtW w g l) (hx : x.size ≤ maxLen) (hl : l.length ≤ 100000) (hm : inNamesW x l = false) :
    Calls Tryz.prog 40 #[.map (some g), .string x] w fun e w' => e = .returned (.bool true) ∧ w.grownBy w' (some g) ∧ NamesAtW w' g (l ++ [x]) := by
  have HN := Lib.hid h
  have hkey : keyOf Tryz.prog 9 (.string x) = some (nameLitW x) := Go.WideMaps.keyOf_string_mk Tryz.underlying9 hx
  have HG := Lib.hid (show w.grownBy (w.alloc (.cells #[] 93)) (some g) from World.grownBy_alloc _ _ _)
  have HD := Lib.hid (show Maps.has (setOf (H := Unit) (.agg []) (l.map nameLitW)) (nameLitW x) = false by rw [names_hasW]; exact hm)
  clear hm
  go_enter Tryz.func40, Tryz.ntmps40
  go_wp2_with (first
    | (at_lookup; refine wpList_lookup_own_unit _ rfl _ _ 80 rfl 9 93 strKeyed Tryz.underlying80 (zeroUnitW _) g l.length _ rfl HN.out _ _ rfl hkey ?_; rw [HD.out])
    | (at_mapUpdate; refine wpList_mapUpdate_own _ rfl _ _ _ 80 rfl 9 93 strKeyed Tryz.underlying80 (unitElem (H := Unit)) g l.length _ rfl (World.ownsMap.alloc HN.out _) (by unfold maxLen; omega) _ _ _ rfl rfl hkey _ [] unitElem_mk ?_; intro w1 hown1 hgrow1))
  go_ret
  refine ⟨rfl, grown_trans HG.out hgrow1, ?_⟩
  show NamesAtW w1 g (l ++ [x])
  unfold NamesAtW
  rw [List.map_append, List.length_append]
  show w1.ownsMap _ _ _ _ _ (setOf _ (l.map nameLitW ++ [nameLitW x]))
  rw [setOf_snoc]
  exact hown1
theorem once_not {al : List (ByteArray × List NodeL)} {j : Nat} {a : ByteArray × List NodeL} (h : NamesOnce al) (ha : al[j]? = some a) : inNamesW a.1 ((al.take j).map (·.1)) = false := by
  have := h j a ha
  unfold inNamesW
  rw [List.any_eq_false]
  intro y hy
  obtain ⟨z, hz, rfl⟩ := List.mem_map.1 hy
  simpa using this z hz
/-- Attributes as they may be. -/
structure AttrsOK (al : List (ByteArray × List NodeL)) : Prop where
  few : al.length ≤ 1000
  size : ∀ a ∈ al, a.1.size ≤ 100000
  name : ∀ a ∈ al, nameP a.1 = true
  once : NamesOnce al
  tree : TreesOK al
def AtRel (w : World) (al : List (ByteArray × List NodeL)) (m : Nat) (iv : Value) (wr : World) : Prop :=
  ∃ j : Nat, iv = .int .i64 j ∧ al.length - j ≤ m ∧ j ≤ al.length ∧ NamesAtW wr w.heap.size ((al.take j).map (·.1)) ∧ Below w.heap.size w wr
section
variable (w : World)
set_option maxHeartbeats 1000000 in
set_option maxRecDepth 20000 in
theorem pattrsT (av : Value) (al : List (ByteArray × List NodeL)) (h : AttrsRd w av al) (ho : AttrsOK al) (hv : ErrVar w) :
    Calls Tryz.prog 26 #[av] w (Made (.bool true) w) := by
  have H := Lib.hid h
  have HO := Lib.hid ho
  have V := Lib.hid hv
  have hl := ho.few
  have G0 := Lib.hid (NamesAtW.new w)
  have BM := Lib.hid (show Below w.heap.size w (w.alloc (.map #[] 0)) from below_al (Below.refl _ _) _)
  obtain ⟨ao, cap, rfl, -⟩ := h
  clear ho hv
  have hmm := @run_makeMap Tryz.prog
  go_enter Tryz.func26, Tryz.ntmps26
  go_wp2_with fail
  go_loopg [9] al.length (fun m v wr => AtRel w al m v wr)
  case atStart => exact ⟨0, rfl, Nat.le_refl _, Nat.zero_le _, G0.out, BM.out⟩
  case round =>
    obtain ⟨j, rfl, hm, hj, hs, hb⟩ := hrel
    have HM := Lib.hid hm
    have B := Lib.hid hb
    have HS := Lib.hid hs
    have hgl := hs.lt
    clear hm hb hs
    by_cases hjl : j < al.length
    · obtain ⟨b, hb⟩ : ∃ b, al[j]? = some b := ⟨_, List.getElem?_eq_getElem hjl⟩
      have hmem := List.mem_of_getElem? hb
      have I2 := Lib.hid (show b.1.size ≤ maxLen by have := HO.out.size b hmem; unfold maxLen; omega)
      have NP := Lib.hid (HO.out.name b hmem)
      have NO := Lib.hid (once_not HO.out.once hb)
      have TK := Lib.hid (show (al.take (j + 1)).map (·.1) = (al.take j).map (·.1) ++ [b.1] by rw [take_snocW hb]; simp)
      obtain ⟨t1, t2, t3⟩ := HO.out.tree b hmem
      have HBJ := Lib.hid hb
      obtain ⟨ao2, cap2, e2, hat⟩ := H.out
      simp at e2
      obtain ⟨rfl, rfl⟩ := e2
      obtain ⟨g, o, no, nc, rfl, c0, c1, hr⟩ := hat j b hb
      have C1 := Lib.hid c1
      replace hr := hr.below B.out
      replace c0 := hold B.out c0
      replace c1 := hold B.out c1
      have CN := Lib.hid (show Calls Tryz.prog 39 #[.string b.1] (wr.alloc (.cells #[.string b.1, .slice no b.2.length nc] 38)) (Made (.bool true) _) from by
        have := pnamep (wr.alloc (.cells #[.string b.1, .slice no b.2.length nc] 38)) b.1 I2.out (V.out.below (below_al B.out _) V.out.lt)
        rw [NP.out] at this
        exact this)
      have HR := Lib.hid hr
      have TT := Lib.hid (And.intro t1 (And.intro t2 t3))
      have BA := Lib.hid (below_al B.out (.cells #[.string b.1, .slice no b.2.length nc] 38))
      have BA1 := Lib.hid (below_al (Below.refl wr.heap.size wr) (.cells #[.string b.1, .slice no b.2.length nc] 38))
      have LJ := Lib.hid (show ((al.take j).map (·.1)).length ≤ 100000 by rw [List.length_map, List.length_take]; omega)
      clear hat hb hr hmem t1 t2 t3
      have BS := Lib.hid (HS.out.below BA1.out)
      have SB := Lib.hid (cell_of_row _ _ 0 _ _ _ (heap_alloc_new wr (.cells #[.string b.1, .slice no b.2.length nc] 38)))
      have SB1 := Lib.hid (cell_of_row _ _ 1 _ _ _ (heap_alloc_new wr (.cells #[.string b.1, .slice no b.2.length nc] 38)))
      have HG := Lib.hid hgl
      have HRA := Lib.hid (HR.out.below BA1.out)
      clear hgl
      go_wp2_with fail
      generalize wr.alloc (.cells #[.string b.1, .slice no b.2.length nc] 38) = wa at *
      refine CN.out.mono ?_
      rintro e w1 ⟨rfl, hb1⟩
      have B1 := Lib.hid (BA.out.trans (hb1.mono BA.out.size))
      have k0 := hold hb1 SB.out
      have k1 := hold hb1 SB1.out
      simp at k0 k1
      have N1 := Lib.hid (BS.out.below hb1)
      have R1 := Lib.hid (HRA.out.below hb1)
      have Z1 := Lib.hid (Nat.lt_of_lt_of_le HG.out (Nat.le_trans BA1.out.size hb1.size))
      have BH1 := Lib.hid (BA1.out.trans (hb1.mono BA1.out.size))
      clear hb1 CN SB SB1 BS HRA
      go_wp2_with fail
      refine (padd_nameW w1 w.heap.size _ b.1 N1.out I2.out LJ.out NO.out).mono ?_
      rintro e w2 ⟨rfl, hg2, hn2⟩
      have B2 := Lib.hid (Below.grown B1.out hg2 B1.out.size (fun k hk => by simp at hk; omega))
      have k2 := World.cell?_of_block (a := ⟨wr.heap.size, 1, none⟩) (hg2.block wr.heap.size (World.block_lt_of_cell? _ _ k1) (by simp; have := HG.out; omega)) |>.trans k1
      have N2 := Lib.hid hn2
      have R2 := Lib.hid (H.out.below B2.out)
      obtain ⟨ao3, cap3, e3, hat3⟩ := H.out.below B2.out
      simp at e3
      obtain ⟨rfl, rfl⟩ := e3
      obtain ⟨g4, o4, no4, nc4, e4, d0, d1, hr4⟩ := hat3 j b HBJ.out
      simp at e4
      obtain ⟨rfl, rfl⟩ := e4
      have e5 := (hold B2.out C1.out).symm.trans d1
      simp at e5
      obtain ⟨rfl, rfl⟩ := e5
      have PT := Lib.hid (ptreeT w2 _ b.2 hr4 TT.out.2.2 (by have := TT.out.2.1; omega) (V.out.below B2.out V.out.lt))
      rw [TT.out.1] at PT
      clear hg2 hn2 k0 k1 hat3 d0 d1 hr4
      go_wp2_with fail
      refine PT.out.mono ?_
      rintro e w3 ⟨rfl, hb3⟩
      have B3 := Lib.hid (B2.out.trans (hb3.mono B2.out.size))
      have N3 := Lib.hid (show NamesAtW w3 w.heap.size ((al.take (j + 1)).map (·.1)) by rw [TK.out]; exact N2.out.below hb3)
      clear hb3
      go_wp2_with fail
      go_roundg (al.length - (j + 1))
      case rel => exact ⟨j + 1, rfl, Nat.le_refl _, hjl, N3.out, B3.out⟩
      case measure => have := HM.out; omega
    · go_wp2_with fail
      go_ret
      exact ⟨rfl, B.out⟩
end
end Go.Proofs.YtlkdicabmikhkaaGreatDoor
