/- Package refs: the places of names; what is no tree. -/
import Derived.Test.YtdaphajnioiakaaGreatDoorRcA
import Derived.Test.YtdaphajnioiakaaGreatDoorEvB
import Derived.Carry
namespace Go.Proofs.YtdaphajnioiakaaGreatDoor
open Go.RowKit
set_option linter.unusedVariables false
set_option linter.unusedSimpArgs false
/-- Attributes as a slice value reads: names, expressions. -/
def AttrsRd (w : World) (v : Value) (al : List (ByteArray × List NodeL)) : Prop :=
  ∃ ao cap, v = .slice ao al.length cap ∧ ∀ (i : Nat) (a : ByteArray × List NodeL), al[i]? = some a → ∃ (g o : Nat) (no : Option Addr) (nc : Nat), ao = some ⟨g, o, none⟩ ∧
    w.cell? ⟨g, o + i * 2, none⟩ = some (.string a.1) ∧ w.cell? ⟨g, o + i * 2 + 1, none⟩ = some (.slice no a.2.length nc) ∧ NodesRd w (.slice no a.2.length nc) a.2
theorem AttrsRd.below {w w' : World} {v : Value} {al : List (ByteArray × List NodeL)} (h : AttrsRd w v al) (hb : Below w.heap.size w w') : AttrsRd w' v al := by
  obtain ⟨ao, cap, rfl, hc⟩ := h
  refine ⟨ao, cap, rfl, fun i b hi => ?_⟩
  obtain ⟨g, o, no, nc, e, c0, c1, r⟩ := hc i b hi
  exact ⟨g, o, no, nc, e, hold hb c0, hold hb c1, r.below hb⟩
theorem zeroInt_run (w : World) : (zeroValue 3).run Tryz.prog w = .ok (.int .i64 0) w := by kernel_rfl
/-- The map at block g of at most n names: L tells their places. -/
def PlacesAt (w : World) (g n : Nat) (L : ByteArray → Option Nat) : Prop :=
  ∃ d : DataW Value, w.ownsMap Tryz.prog 9 heldV g n d ∧ ∀ x : ByteArray,
    (L x = none → Maps.has d (keyLit x) = false ∧ d.atKey (keyLit x) (.held (.int .i64 0)) = .held (.int .i64 0)) ∧
    (∀ p, L x = some p → Maps.has d (keyLit x) = true ∧ d.atKey (keyLit x) (.held (.int .i64 0)) = .held (.int .i64 (p : Int)))
theorem PlacesAt.new (w : World) : PlacesAt (w.alloc (.map #[] 0)) w.heap.size 0 (fun _ => none) :=
  ⟨.map [], World.ownsMap_made w _ _ _, fun x => ⟨fun _ => ⟨rfl, rfl⟩, fun v h => by cases h⟩⟩
theorem PlacesAt.lt {w : World} {g n : Nat} {L : ByteArray → Option Nat} (h : PlacesAt w g n L) : g < w.heap.size := by obtain ⟨d, h, -⟩ := h; exact World.ownsMap.lt h
theorem PlacesAt.below {w w' : World} {g n : Nat} {L : ByteArray → Option Nat} (h : PlacesAt w g n L) (hb : Below w.heap.size w w') : PlacesAt w' g n L := by
  have hlt := h.lt
  obtain ⟨d, hm, hx⟩ := h
  refine ⟨d, ?_, hx⟩
  obtain ⟨es, clock, hblk, r⟩ := hm
  exact ⟨es, clock, (hb.block g hlt).trans hblk, r⟩
theorem PlacesAt.put {w' : World} {g n : Nat} {L : ByteArray → Option Nat} {d : DataW Value} {key : ByteArray} {p : Nat} (hM : Maps.IsMap d)
    (hx : ∀ x : ByteArray, (L x = none → Maps.has d (keyLit x) = false ∧ d.atKey (keyLit x) (.held (.int .i64 0)) = .held (.int .i64 0)) ∧ (∀ p, L x = some p → Maps.has d (keyLit x) = true ∧ d.atKey (keyLit x) (.held (.int .i64 0)) = .held (.int .i64 (p : Int))))
    (hm' : w'.ownsMap Tryz.prog 9 heldV g (n + 1) (d.put (keyLit key) (.held (.int .i64 (p : Int))))) :
    PlacesAt w' g (n + 1) (fun x => if x = key then some p else L x) := by
  refine ⟨_, hm', fun x => ?_⟩
  by_cases hxk : x = key
  · subst hxk
    simp only [if_true]
    refine ⟨fun h => (by cases h), fun u hu => ?_⟩
    obtain rfl : p = u := by simpa using hu
    exact ⟨Maps.has_put_same hM (keyLit_key x) _, Maps.atKey_put_same hM (keyLit_key x) _ _⟩
  · simp only [if_neg hxk]
    rw [Maps.has_put_other (keyLit_ne hxk), Maps.atKey_put_other (keyLit_ne hxk)]
    exact hx x
section
variable {P : Program} (w : World) {ops : Array Oper} {rest : List Oper} {o : Oper} {a : Act} {Q : Exit → Act → World → Prop}
theorem wpList_lookup_place (hg : o.guard = none) (m x : Operand) (hop : o.op = Op.lookup 56 m x true)
    (b n : Nat) (d : DataW Value) (hm : a.eval m = .map (some b)) (hown : w.ownsMap Tryz.prog 9 heldV b n d) (s : ByteArray) (hx : a.eval x = .string s) (hs : s.size ≤ maxLen) (v : Value) (hat : d.atKey (keyLit s) (.held (.int .i64 0)) = .held v) (h : Bool) (hh : Maps.has d (keyLit s) = h)
    (hK : wpList Tryz.prog ops Q rest (a.put o.dst (.tuple #[v, .bool h])) w) :
    wpList Tryz.prog ops Q (o :: rest) a w :=
  wpList_lookup_own_ok w hg m x 56 hop 9 3 strKeyed Tryz.underlying56 heldV (zeroInt_run w) (.held (.int .i64 0)) [] rfl b n d hm hown (.string s) (keyLit s) hx (Go.WideMaps.keyOf_string_mk Tryz.underlying9 hs) (fun u ps hu => by
    rw [hat] at hu
    simp only [heldV, Option.some.injEq, Prod.mk.injEq, DataW.held.injEq] at hu
    rw [hu.1, hh]
    exact hK)
end
/-- The place of a name. -/
def placeL (al : List (ByteArray × List NodeL)) (x : ByteArray) : Option Nat := al.findIdx? fun a => decide (a.1 = x)
theorem placeL_snoc {al : List (ByteArray × List NodeL)} {a : ByteArray × List NodeL} (h : placeL al a.1 = none) : placeL (al ++ [a]) = fun x => if x = a.1 then some al.length else placeL al x := by
  funext x
  unfold placeL at *
  rw [List.findIdx?_append]
  by_cases hx : x = a.1
  · subst hx
    rw [h]
    simp
  · have h2 : ¬ a.1 = x := fun e => hx e.symm
    have e : ([a] : List (ByteArray × List NodeL)).findIdx? (fun a => decide (a.1 = x)) = none := by simp [h2]
    rw [e, if_neg hx]
    simp
def PlRel (w : World) (g : Nat) (al : List (ByteArray × List NodeL)) (m : Nat) (iv : Value) (wr : World) : Prop :=
  ∃ j : Nat, iv = .int .i64 j ∧ al.length - j ≤ m ∧ j ≤ al.length ∧ PlacesAt wr g j (placeL (al.take j)) ∧ Below w.heap.size w wr
/-- No name stands twice. -/
def NamesOnce (al : List (ByteArray × List NodeL)) : Prop := ∀ j a, al[j]? = some a → placeL (al.take j) a.1 = none
section
variable (w : World)
set_option maxHeartbeats 1000000 in
set_option maxRecDepth 20000 in
theorem pplaces (av : Value) (al : List (ByteArray × List NodeL)) (h : AttrsRd w av al) (hl : al.length ≤ 1000) (hz : ∀ a ∈ al, a.1.size ≤ 100000) (ho : NamesOnce al) :
    Calls Tryz.prog 16 #[av] w fun e w' => e = .returned (.tuple #[.map (some w.heap.size), .int .i64 0]) ∧ Below w.heap.size w w' ∧ PlacesAt w' w.heap.size al.length (placeL al) := by
  have H := Lib.hid h
  have HZ := Lib.hid hz
  have HO := Lib.hid ho
  have G0 := Lib.hid (PlacesAt.new w)
  have BM := Lib.hid (show Below w.heap.size w (w.alloc (.map #[] 0)) from below_al (Below.refl _ _) _)
  obtain ⟨ao, cap, rfl, -⟩ := h
  clear hz ho
  have hmm := @run_makeMap Tryz.prog
  go_enter Tryz.func16, Tryz.ntmps16
  go_wp2_with fail
  go_loopg [12] al.length (fun m v wr => PlRel w w.heap.size al m v wr)
  case atStart => exact ⟨0, rfl, Nat.le_refl _, Nat.zero_le _, G0.out, BM.out⟩
  case round =>
    obtain ⟨j, rfl, hm, hj, hs, hb⟩ := hrel
    have HM := Lib.hid hm
    have B := Lib.hid hb
    have HS := Lib.hid hs
    have hgl := hs.lt
    clear hm hb
    by_cases hjl : j < al.length
    · obtain ⟨b, hb⟩ : ∃ b, al[j]? = some b := ⟨_, List.getElem?_eq_getElem hjl⟩
      have I2 := Lib.hid (show b.1.size ≤ maxLen by have := HZ.out b (List.mem_of_getElem? hb); unfold maxLen; omega)
      have hL := HO.out j b hb
      have TK := Lib.hid (take_snocR hb)
      obtain ⟨ao2, cap2, e2, hat⟩ := H.out.below B.out
      simp at e2
      obtain ⟨rfl, rfl⟩ := e2
      obtain ⟨g, o, no, nc, rfl, c0, c1, hr⟩ := hat j b hb
      obtain ⟨d, hm, hx⟩ := hs
      have M1 := Lib.hid (show (wr.alloc (.cells #[.string b.1, .slice no b.2.length nc] 36)).ownsMap Tryz.prog 9 heldV w.heap.size j d from World.ownsMap.alloc hm _)
      have HX := Lib.hid hx
      have HMP := Lib.hid hm
      obtain ⟨q1, q2⟩ := (hx b.1).1 hL
      have Q1 := Lib.hid q1
      have Q3 := Lib.hid q2
      have NX := Lib.hid (show placeL (al.take (j + 1)) = fun x => if x = b.1 then some j else placeL (al.take j) x by
        rw [TK.out, placeL_snoc hL, List.length_take, Nat.min_eq_left hj])
      clear hat hb hr hm hx hL q1 q2
      go_wp2_with (first
        | (at_lookup; refine wpList_lookup_place _ rfl _ _ rfl w.heap.size j d rfl M1.out b.1 rfl I2.out _ Q3.out false Q1.out ?_)
        | (at_mapUpdate; refine wpList_mapUpdate_own _ rfl _ _ _ 56 rfl 9 3 strKeyed Tryz.underlying56 heldV w.heap.size j d rfl M1.out (by unfold maxLen; omega) (.string b.1) (.int .i64 (j : Int)) (keyLit b.1) rfl rfl (Go.WideMaps.keyOf_string_mk Tryz.underlying9 I2.out) _ [] rfl ?_; intro w1 hown1 hgrow1))
      have BW := Lib.hid (show Below w.heap.size w w1 from Below.grown (below_al B.out _) hgrow1 (by have := B.out.size; simp; omega) (fun k hk => by simp at hk; omega))
      have SW := Lib.hid (show PlacesAt w1 w.heap.size (j + 1) (placeL (al.take (j + 1))) by
        rw [NX.out]
        exact PlacesAt.put (isMap_of HMP.out) HX.out hown1)
      clear hown1 hgrow1
      go_wp2_with fail
      go_roundg (al.length - (j + 1))
      case rel => exact ⟨j + 1, rfl, Nat.le_refl _, hjl, SW.out, BW.out⟩
      case measure => have := HM.out; omega
    · have hz : j = al.length := by omega
      subst hz
      go_wp2_with fail
      exact bodyPost_ret (v := .tuple #[.map (some w.heap.size), .int .i64 0]) (by simp [results, Tryz.results16, go_sem]) rfl ⟨rfl, B.out, by have := HS.out; rwa [List.take_length] at this⟩
/-- Each expression is a tree. -/
def TreesOK (al : List (ByteArray × List NodeL)) : Prop := ∀ a ∈ al, treeP a.2 = true ∧ a.2.length ≤ 1000 ∧ ∀ n ∈ a.2, Few n ∧ n.text.size ≤ 100000 ∧ n.kids.length ≤ 100000
set_option maxRecDepth 20000 in
theorem pnoTree (a : ByteArray × List NodeL) (no : Option Addr) (nc : Nat) (h : NodesRd w (.slice no a.2.length nc) a.2) (ht : treeP a.2 = true) (hl : a.2.length ≤ 1000) (hf : ∀ n ∈ a.2, Few n ∧ n.text.size ≤ 100000 ∧ n.kids.length ≤ 100000) (hv : ErrVar w) :
    Calls Tryz.prog 18 #[.agg #[.string a.1, .slice no a.2.length nc]] w (Made (.bool false) w) := by
  have B := Lib.hid (below_al (Below.refl w.heap.size w) (.cells #[.string a.1, .slice no a.2.length nc] 36))
  have HT := Lib.hid (ptreeT _ _ a.2 (h.below B.out) hf (by omega) (hv.below B.out hv.lt))
  rw [ht] at HT
  clear h hf hv
  go_enter Tryz.func18, Tryz.ntmps18
  go_wp2_with fail
  refine HT.out.mono ?_
  rintro e w1 ⟨rfl, hb1⟩
  go_wp2_with fail
  go_ret
  exact ⟨rfl, B.out.trans (hb1.mono B.out.size)⟩
set_option maxHeartbeats 1000000 in
set_option maxRecDepth 20000 in
theorem pindexTree (av : Value) (al : List (ByteArray × List NodeL)) (h : AttrsRd w av al) (hl : al.length ≤ 1000) (ht : TreesOK al) (hv : ErrVar w) :
    Calls Tryz.prog 26 #[av, .func (.func 18) #[] #[]] w (Made (.int .i64 (-1)) w) := by
  have H := Lib.hid h
  have HT := Lib.hid ht
  have V := Lib.hid hv
  obtain ⟨ao, cap, rfl, -⟩ := h
  clear ht hv
  go_enter Tryz.func26, Tryz.ntmps26
  go_wp2_with fail
  go_loopg [8] al.length (fun m v wr => ∃ j : Nat, v = .int .i64 j ∧ al.length - j ≤ m ∧ j ≤ al.length ∧ Hid (Below w.heap.size w wr))
  case atStart => exact ⟨0, rfl, Nat.le_refl _, Nat.zero_le _, Lib.hid (Below.refl _ _)⟩
  case round =>
    obtain ⟨j, rfl, hm, hj, B⟩ := hrel
    have HM := Lib.hid hm
    clear hm
    by_cases hjl : j < al.length
    · obtain ⟨b, hb⟩ : ∃ b, al[j]? = some b := ⟨_, List.getElem?_eq_getElem hjl⟩
      obtain ⟨t1, t2, t3⟩ := HT.out b (List.mem_of_getElem? hb)
      obtain ⟨ao2, cap2, e2, hat⟩ := H.out.below B.out
      simp at e2
      obtain ⟨rfl, rfl⟩ := e2
      obtain ⟨g, o, no, nc, rfl, c0, c1, hr⟩ := hat j b hb
      have CC := Lib.hid (pnoTree wr b no nc hr t1 t2 t3 (V.out.below B.out V.out.lt))
      clear hat hb hr t1 t2 t3
      go_wp2_with fail
      refine CC.out.mono ?_
      rintro e w1 ⟨rfl, hb1⟩
      have B1 := Lib.hid (B.out.trans (hb1.mono B.out.size))
      clear hb1
      go_wp2_with fail
      go_roundg (al.length - (j + 1))
      case rel => exact ⟨j + 1, rfl, Nat.le_refl _, hjl, B1⟩
      case measure => have := HM.out; omega
    · go_wp2_with fail
      go_ret
      exact ⟨rfl, B.out⟩
set_option maxRecDepth 20000 in
theorem pcontains (av : Value) (al : List (ByteArray × List NodeL)) (h : AttrsRd w av al) (hl : al.length ≤ 1000) (ht : TreesOK al) (hv : ErrVar w) :
    Calls Tryz.prog 17 #[av, .func (.func 18) #[] #[]] w (Made (.bool false) w) := by
  have C := Lib.hid (pindexTree w av al h hl ht hv)
  clear h ht hv
  go_enter Tryz.func17, Tryz.ntmps17
  go_wp2_with fail
  refine C.out.mono ?_
  rintro e w1 ⟨rfl, hb1⟩
  go_wp2_with fail
  go_ret
  exact ⟨rfl, hb1⟩
end
end Go.Proofs.YtdaphajnioiakaaGreatDoor
