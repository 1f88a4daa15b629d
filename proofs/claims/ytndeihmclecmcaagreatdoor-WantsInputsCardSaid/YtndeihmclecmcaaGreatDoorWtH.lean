/- Package expand: parents, counts, which attributes there may be. -/
import Derived.Test.YtndeihmclecmcaaGreatDoorWtB
import Derived.Test.YtndeihmclecmcaaGreatDoorWtE
import Derived.Test.YtndeihmclecmcaaGreatDoorEvU
namespace Go.Proofs.YtndeihmclecmcaaGreatDoor
open Go.RowKit
set_option linter.unusedVariables false
set_option linter.unusedSimpArgs false
/-- A scope at block p. -/
def ScAt (w : World) (p : Nat) (av : Value) (lb : ByteArray) (bv : Value) (pf : ByteArray) (gi gn : Nat) : Prop :=
  w.heap[p]? = some (.cells #[av, .string lb, bv, .string pf, .map (some gi), .map (some gn)] 74 (0, 0))
theorem ScAt.cells {w : World} {p : Nat} {av : Value} {lb : ByteArray} {bv : Value} {pf : ByteArray} {gi gn : Nat} (h : ScAt w p av lb bv pf gi gn) :
    w.cell? ⟨p, 0, none⟩ = some av ∧ w.cell? ⟨p, 1, none⟩ = some (.string lb) ∧ w.cell? ⟨p, 2, none⟩ = some bv ∧ w.cell? ⟨p, 3, none⟩ = some (.string pf) ∧ w.cell? ⟨p, 4, none⟩ = some (.map (some gi)) ∧ w.cell? ⟨p, 5, none⟩ = some (.map (some gn)) :=
  ⟨cell_of_row _ _ 0 _ _ _ h, cell_of_row _ _ 1 _ _ _ h, cell_of_row _ _ 2 _ _ _ h, cell_of_row _ _ 3 _ _ _ h, cell_of_row _ _ 4 _ _ _ h, cell_of_row _ _ 5 _ _ _ h⟩
theorem ScAt.lt {w : World} {p : Nat} {av : Value} {lb : ByteArray} {bv : Value} {pf : ByteArray} {gi gn : Nat} (h : ScAt w p av lb bv pf gi gn) : p < w.heap.size := (Array.getElem?_eq_some_iff.1 h).1
theorem ScAt.below {w w' : World} {p : Nat} {av : Value} {lb : ByteArray} {bv : Value} {pf : ByteArray} {gi gn : Nat} (h : ScAt w p av lb bv pf gi gn) (hb : Below w.heap.size w w') : ScAt w' p av lb bv pf gi gn := (hb.block p h.lt).trans h
/-- An expression's nodes are a tree, and worth r where L tells what names stand for. -/
structure Worth (L : ByteArray → Option VL) (hd : List (ByteArray × VL)) (ns : List NodeL) (r : VL × Int) : Prop where
  tree : treeP ns = true
  tame : Tame ns
  few : ∀ n ∈ ns, Few n ∧ n.text.size ≤ 100000 ∧ n.kids.length ≤ 100000
  asks : (askedL L ns).length ≤ 1000
  head : hd.length ≤ 100 ∧ ∀ b ∈ hd, I64 b.2.num ∧ b.1.size ≤ 281474976710656
  walk : ∃ M, Walk TabOK (lookL (hd ++ askedL L ns)) ns M r
theorem askOne_mem {L : ByteArray → Option VL} {x : ByteArray} {b : ByteArray × VL} (h : b ∈ askOne L x) : b.1 = x ∧ L x = some b.2 := by
  unfold askOne at h
  split at h
  · rename_i v hv
    obtain rfl := List.mem_singleton.1 h
    exact ⟨rfl, hv⟩
  · cases h
theorem askedL_mem {L : ByteArray → Option VL} {ns : List NodeL} (ht : Tame ns) {b : ByteArray × VL} (h : b ∈ askedL L ns) : L b.1 = some b.2 ∧ b.1.size ≤ 100000 := by
  unfold askedL at h
  obtain ⟨n, hn, h⟩ := List.mem_flatMap.1 h
  unfold askNode at h
  rcases List.mem_append.1 h with h | h
  · split at h
    · obtain ⟨h1, h2⟩ := askOne_mem h
      rw [h1]
      exact ⟨h2, ht.text n hn⟩
    · cases h
  · unfold askParts at h
    obtain ⟨p, hp, h⟩ := List.mem_flatMap.1 h
    split at h
    · obtain ⟨h1, h2⟩ := askOne_mem h
      rw [h1]
      exact ⟨h2, ht.part n hn p hp⟩
    · cases h
section
variable (w : World)
set_option maxHeartbeats 2000000 in
set_option maxRecDepth 20000 in
theorem psvalue (p gi gn nn : Nat) (ar : Value) (lb pf : ByteArray) (bv : Value) (L : ByteArray → Option VL) (nv hv : Value) (hd : List (ByteArray × VL)) (ns : List NodeL) (r : VL × Int)
    (hs : ScAt w p ar lb bv pf gi gn) (hn : ScopeAt w 0 gn nn L) (hns : NodesRd w nv ns) (hh : BindsRd w 0 hv hd) (hw : Worth L hd ns r) (ht : TabOK w) (he : ErrVar w) :
    Calls Tryz.prog 102 #[.pointer (some ⟨p, 0, none⟩), nv, hv] w (Told r w) := by
  have B0 := Lib.hid (below_al (Below.refl w.heap.size w) (.cells #[.int .i64 0, .int .i64 0, .string ⟨#[]⟩, .slice none 0 0] 39))
  have NB := Lib.hid (NBlk.new w 0 0 ⟨#[]⟩)
  have c5 := hold B0.out hs.cells.2.2.2.2.2
  have HNS := Lib.hid (hns.below B0.out)
  have HH := Lib.hid (hh.below B0.out)
  have HW := Lib.hid hw
  have HT := Lib.hid (ht.below B0.out)
  have HE := Lib.hid (he.below B0.out he.lt)
  have HN := Lib.hid (hn.below B0.out)
  have HX := Lib.hid (show ∀ b ∈ hd ++ askedL L ns, I64 b.2.num ∧ b.1.size ≤ 281474976710656 from fun b hb => by
    rcases List.mem_append.1 hb with hb | hb
    · exact hw.head.2 b hb
    · obtain ⟨h1, h2⟩ := askedL_mem hw.tame hb
      obtain ⟨d, -, hx⟩ := hn
      exact ⟨((hx b.1).2 b.2 h1).2.1, by omega⟩)
  obtain ⟨ao, cap, rfl, -⟩ := hns.at
  obtain ⟨ho, hc, rfl, -⟩ := hh
  have PA := Lib.hid (pasked _ gn nn L _ ns HN.out HNS.out HW.out.tame)
  have ha1 := hw.asks
  have ha2 := hw.head.1
  clear hs hn hns hw ht he
  go_enter Tryz.func102, Tryz.ntmps102
  go_wp2_with fail
  generalize w.alloc (.cells #[.int .i64 0, .int .i64 0, .string ⟨#[]⟩, .slice none 0 0] 39) = wa at *
  refine PA.out.mono ?_
  rintro e w1 ⟨v1, ps1, rfl, hb1, ho1, hp1, hl1⟩
  obtain ⟨vo, vc, rfl⟩ := own_len ho1
  have BD := Lib.hid (binds_of_own ho1 hl1)
  rw [hp1] at BD
  have LE : ps1.length = (askedL L ns).length := by rw [← hp1, List.length_map]
  have B1 := Lib.hid (B0.out.trans (hb1.mono B0.out.size))
  have B1a := Lib.hid hb1
  clear hb1 ho1 hp1 hl1 PA
  rw [LE] at BD ⊢
  clear LE
  go_wp2_with fail
  have BZ := Lib.hid (below_al (Below.refl w1.heap.size w1) (.cells #[.slice ho hd.length hc, .slice vo (askedL L ns).length vc] 36))
  have RZ := heap_alloc_new w1 (.cells #[.slice ho hd.length hc, .slice vo (askedL L ns).length vc] 36)
  have PC := Lib.hid (pconcat2 _ w1.heap.size 0 2 _ _ hd (askedL L ns) ((HH.out.below B1a.out).below BZ.out) (BD.out.below BZ.out) (by omega) ha1 (cell_of_row _ _ 0 _ _ _ RZ) (cell_of_row _ _ 1 _ _ _ RZ))
  have B2 := Lib.hid (below_tr B1.out BZ.out)
  have B2a := Lib.hid (below_tr B1a.out BZ.out)
  clear RZ BZ
  generalize w1.alloc (.cells #[.slice ho hd.length hc, .slice vo (askedL L ns).length vc] 36) = w2 at *
  refine PC.out.mono ?_
  rintro e w3 ⟨v3, ps3, rfl, hb3, ho3, hp3, hl3⟩
  obtain ⟨vo3, vc3, rfl⟩ := own_len ho3
  have BD3 := Lib.hid (binds_of_own ho3 hl3)
  rw [hp3] at BD3
  have B3 := Lib.hid (below_tr B2.out hb3)
  have B3a := Lib.hid (below_tr B2a.out hb3)
  obtain ⟨M, hM⟩ := HW.out.walk
  have HM := Lib.hid hM
  have PX := Lib.hid (pexpr_yes w3 TabOK (HT.out.below B3a.out) _ _ ns (hd ++ askedL L ns) M r (HNS.out.below B3a.out) HW.out.few (HE.out.below B3a.out HE.out.lt) HW.out.tree BD3.out (by rw [List.length_append]; omega) HX.out HM.out)
  clear hb3 ho3 hp3 hl3 PC hM
  go_wp2_with fail
  refine PX.out.mono ?_
  rintro e w4 ⟨rfl, hb4⟩
  obtain ⟨⟨z0, z1, z2, z3, z4⟩, f0, f1, f2, f3⟩ := (NB.out.below (below_tr B3a.out hb4)).full
  have B4 := Lib.hid (below_tr B3.out hb4)
  clear hb4 PX
  go_wp2_with fail
  refine bodyPost_ret (v := .tuple #[.agg #[.int .i64 r.1.kind, .int .i64 r.1.num, .string r.1.text, .slice none 0 0], .int .i64 r.2]) ?_ rfl ⟨rfl, below_set4 B4.out (Nat.le_refl _) _ _ _ _⟩
  simp [results, Tryz.results102, go_sem, z0, z1, z2, z3, z4]
/-- The value in a turn of a block. -/
theorem ptvalue (p gi gn nn : Nat) (ar : Value) (lb pf : ByteArray) (bv : Value) (L : ByteArray → Option VL) (nv hv : Value) (nm : ByteArray) (hd : List (ByteArray × VL)) (ns : List NodeL) (r : VL × Int)
    (hs : ScAt w p ar lb bv pf gi gn) (hn : ScopeAt w 0 gn nn L) (hns : NodesRd w nv ns) (hh : BindsRd w 0 hv hd) (hw : Worth L hd ns r) (ht : TabOK w) (he : ErrVar w) :
    Calls Tryz.prog 104 #[.agg #[.pointer (some ⟨p, 0, none⟩), .string nm, hv], nv] w (Told r w) := by
  have B0 := Lib.hid (below_al (below_al (Below.refl w.heap.size w) (.cells #[.pointer (some ⟨p, 0, none⟩), .string nm, hv] 120)) (.cells #[.int .i64 0, .int .i64 0, .string ⟨#[]⟩, .slice none 0 0] 39))
  have PV := Lib.hid (psvalue _ p gi gn nn ar lb pf bv L nv hv hd ns r (hs.below B0.out) (hn.below B0.out) (hns.below B0.out) (hh.below B0.out) hw (ht.below B0.out) (he.below B0.out he.lt))
  have NB := Lib.hid (show NBlk ((w.alloc (.cells #[.pointer (some ⟨p, 0, none⟩), .string nm, hv] 120)).alloc (.cells #[.int .i64 0, .int .i64 0, .string ⟨#[]⟩, .slice none 0 0] 39)) (w.heap.size + 1) 0 0 ⟨#[]⟩ from heap_at (by simp))
  obtain ⟨ao, cap, rfl, -⟩ := hns.at
  obtain ⟨ho, hc, rfl, -⟩ := hh
  clear hs hn hns hw ht he
  go_enter Tryz.func104, Tryz.ntmps104
  go_wp2_with fail
  generalize (w.alloc (.cells #[.pointer (some ⟨p, 0, none⟩), .string nm, .slice ho hd.length hc] 120)).alloc (.cells #[.int .i64 0, .int .i64 0, .string ⟨#[]⟩, .slice none 0 0] 39) = wa at *
  refine PV.out.mono ?_
  rintro e w4 ⟨rfl, hb4⟩
  obtain ⟨⟨z0, z1, z2, z3, z4⟩, f0, f1, f2, f3⟩ := (NB.out.below hb4).full
  have B4 := Lib.hid (below_tr B0.out hb4)
  clear hb4 PV
  go_wp2_with fail
  refine bodyPost_ret (v := .tuple #[.agg #[.int .i64 r.1.kind, .int .i64 r.1.num, .string r.1.text, .slice none 0 0], .int .i64 r.2]) ?_ rfl ⟨rfl, below_set4 B4.out (Nat.le_succ _) _ _ _ _⟩
  simp [results, Tryz.results104, go_sem, z0, z1, z2, z3, z4]
end
end Go.Proofs.YtndeihmclecmcaaGreatDoor
namespace Go.Proofs.YtndeihmclecmcaaGreatDoor
open Go.RowKit
set_option linter.unusedVariables false
set_option linter.unusedSimpArgs false
/-- An amount's number, or its error. -/
def amountR (v : VL) : Int × Int := if v.kind ≠ 1 then (0, 7) else if v.num < 0 ∨ 1099511627776 < v.num then (0, 1) else (v.num, 0)
def Pair (x : Value) (e : Int) (w : World) (en : Ending) (w' : World) : Prop := en = .returned (.tuple #[x, .int .i64 e]) ∧ Below w.heap.size w w'
def valV (v : VL) : Value := .agg #[.int .i64 v.kind, .int .i64 v.num, .string v.text, .slice none 0 0]
section
variable (w : World)
set_option maxHeartbeats 1000000 in
set_option maxRecDepth 20000 in
theorem pamount (v : VL) : Calls Tryz.prog 106 #[valV v] w (Pair (.int .i64 (amountR v).1) (amountR v).2 w) := by
  unfold valV
  by_cases k : v.kind = 1
  · have k1 : (v.kind != 1) = false := by simpa using k
    by_cases n0 : v.num < 0
    · have E := Lib.hid (show amountR v = (0, 1) by unfold amountR; rw [if_neg (by simpa using k), if_pos (.inl n0)])
      rw [E.out]
      have d0 : decide (v.num < 0) = true := decide_eq_true n0
      go_enter Tryz.func106, Tryz.ntmps106
      go_wp2_with fail
      exact bodyPost_ret (v := .tuple #[.int .i64 0, .int .i64 1]) (by simp [results, Tryz.results106, go_sem]) rfl ⟨rfl, below_al (Below.refl _ _) _⟩
    · by_cases n1 : 1099511627776 < v.num
      · have E := Lib.hid (show amountR v = (0, 1) by unfold amountR; rw [if_neg (by simpa using k), if_pos (.inr n1)])
        rw [E.out]
        go_enter Tryz.func106, Tryz.ntmps106
        go_wp2_with fail
        exact bodyPost_ret (v := .tuple #[.int .i64 0, .int .i64 1]) (by simp [results, Tryz.results106, go_sem]) rfl ⟨rfl, below_al (Below.refl _ _) _⟩
      · have E := Lib.hid (show amountR v = (v.num, 0) by unfold amountR; rw [if_neg (by simpa using k), if_neg (by omega)])
        rw [E.out]
        go_enter Tryz.func106, Tryz.ntmps106
        go_wp2_with fail
        exact bodyPost_ret (v := .tuple #[.int .i64 v.num, .int .i64 0]) (by simp [results, Tryz.results106, go_sem]) rfl ⟨rfl, below_al (Below.refl _ _) _⟩
  · have k1 : (v.kind != 1) = true := by simpa using k
    have E := Lib.hid (show amountR v = (0, 7) by unfold amountR; rw [if_pos k])
    rw [E.out]
    go_enter Tryz.func106, Tryz.ntmps106
    go_wp2_with fail
    exact bodyPost_ret (v := .tuple #[.int .i64 0, .int .i64 7]) (by simp [results, Tryz.results106, go_sem]) rfl ⟨rfl, below_al (Below.refl _ _) _⟩
/-- The first attribute of a name. -/
def attrL (al : List (ByteArray × List NodeL)) (x : ByteArray) : Option (List NodeL) := (al.find? fun a => decide (a.1 = x)).map (·.2)
theorem attrL_take {al : List (ByteArray × List NodeL)} {x : ByteArray} {j : Nat} {a : ByteArray × List NodeL} (h : ∀ z ∈ al.take j, z.1 ≠ x) (ha : al[j]? = some a) (e : a.1 = x) : attrL al x = some a.2 := by
  unfold attrL
  have e1 : al = al.take j ++ a :: al.drop (j + 1) := by
    obtain ⟨h1, h2⟩ := List.getElem?_eq_some_iff.1 ha
    rw [← h2, ← List.drop_eq_getElem_cons h1, List.take_append_drop]
  rw [e1, List.find?_append, List.find?_eq_none.2 (fun z hz => by simpa using h z hz), Option.none_or, List.find?_cons_of_pos (by simpa using e)]
  rfl
theorem attrL_none {al : List (ByteArray × List NodeL)} {x : ByteArray} (h : ∀ z ∈ al, z.1 ≠ x) : attrL al x = none := by
  unfold attrL
  rw [List.find?_eq_none.2 (fun z hz => by simpa using h z hz)]
  rfl
/-- What is told of an attribute: its expression. -/
def AttrTold (w0 : World) (al : List (ByteArray × List NodeL)) (x : ByteArray) (w : World) (e : Ending) (w' : World) : Prop := Below w.heap.size w w' ∧
  match attrL al x with
  | none => e = .returned (.tuple #[.slice none 0 0, .bool false])
  | some ns => ∃ nv, e = .returned (.tuple #[nv, .bool true]) ∧ NodesRd w' nv ns
set_option maxHeartbeats 1000000 in
set_option maxRecDepth 20000 in
theorem pattribute (b : BlkL) (ato : Option Addr) (atc : Nat) (bo : Option Addr) (bc : Nat) (ha : AttrsRd w (.slice ato b.attrs.length atc) b.attrs) (hl : b.attrs.length ≤ 1000) (hz : ∀ a ∈ b.attrs, a.1.size ≤ 100000) (x : ByteArray) (hx : x.size ≤ 100000) :
    Calls Tryz.prog 58 #[blkV b ato atc bo bc, .string x] w (AttrTold w b.attrs x w) := by
  have H := Lib.hid ha
  have B0 := Lib.hid (below_al (Below.refl w.heap.size w) (.cells #[.int .i64 b.kind, .string b.label, .slice ato b.attrs.length atc, .slice bo b.blocks.length bc] 30))
  unfold blkV
  clear ha
  go_enter Tryz.func58, Tryz.ntmps58
  go_wp2_with fail
  go_loopg [11] b.attrs.length (fun m v wr => ∃ j : Nat, v = .int .i64 j ∧ b.attrs.length - j ≤ m ∧ j ≤ b.attrs.length ∧ Hid (Below w.heap.size w wr) ∧ Hid (∀ z ∈ b.attrs.take j, z.1 ≠ x))
  case atStart => exact ⟨0, rfl, Nat.le_refl _, Nat.zero_le _, B0, Lib.hid (fun z hz => by simp at hz)⟩
  case round =>
    obtain ⟨j, rfl, hm, hj, B, HJ⟩ := hrel
    have HM := Lib.hid hm
    clear hm
    by_cases hjl : j < b.attrs.length
    · obtain ⟨a, ha⟩ : ∃ a, b.attrs[j]? = some a := ⟨_, List.getElem?_eq_getElem hjl⟩
      obtain ⟨ao2, cap2, e2, hat⟩ := H.out.below B.out
      simp at e2
      obtain ⟨rfl, rfl⟩ := e2
      obtain ⟨g, o, no, nc, rfl, c0, c1, hr⟩ := hat j a ha
      have BA := Lib.hid (below_al (Below.refl wr.heap.size wr) (.cells #[.string a.1, .slice no a.2.length nc] 26))
      have B1 := Lib.hid (below_tr B.out BA.out)
      have se : (a.1.toList == x.toList) = decide (a.1 = x) := str_eq _ _
      by_cases hax : a.1 = x
      · rw [decide_eq_true hax] at se
        have AE := Lib.hid (attrL_take HJ.out ha hax)
        have HR := Lib.hid (hr.below BA.out)
        clear hat ha hr hax BA
        go_wp2_with fail
        exact bodyPost_ret (v := .tuple #[.slice no a.2.length nc, .bool true]) (by simp [results, Tryz.results58, go_sem]) rfl ⟨B1.out, by rw [AE.out]; exact ⟨_, rfl, HR.out⟩⟩
      · rw [decide_eq_false hax] at se
        have HK := Lib.hid (show ∀ z ∈ b.attrs.take (j + 1), z.1 ≠ x from fun z hz => by
          rw [take_snocW ha] at hz
          rcases List.mem_append.1 hz with hz | hz
          · exact HJ.out z hz
          · obtain rfl := List.mem_singleton.1 hz; exact hax)
        clear hat ha hr hax BA
        go_wp2_with fail
        go_roundg (b.attrs.length - (j + 1))
        case rel => exact ⟨j + 1, rfl, Nat.le_refl _, hjl, B1, HK⟩
        case measure => have := HM.out; omega
    · have hz : j = b.attrs.length := by omega
      subst hz
      have AE := Lib.hid (attrL_none (al := b.attrs) (x := x) (fun z hz => HJ.out z (by rwa [List.take_length])))
      go_wp2_with fail
      exact bodyPost_ret (v := .tuple #[.slice none 0 0, .bool false]) (by simp [results, Tryz.results58, go_sem]) rfl ⟨B.out, by rw [AE.out]⟩
end
end Go.Proofs.YtndeihmclecmcaaGreatDoor
namespace Go.Proofs.YtndeihmclecmcaaGreatDoor
open Go.RowKit
set_option linter.unusedVariables false
set_option linter.unusedSimpArgs false
def slashB : ByteArray := ⟨#[47]⟩
/-- The parent that is meant, or the error. -/
def parentR (pf : ByteArray) (v : VL) : ByteArray × Int :=
  if v.kind ≠ 2 then (⟨#[]⟩, 7) else if Lib.hasPrefix v.text.data.toList [47] then (⟨(Lib.trimPrefix v.text.data.toList [47]).toArray⟩, 0) else if v.text = ⟨#[]⟩ then (⟨#[]⟩, 0) else (pf ++ v.text, 0)
/-- How often, or the error. -/
def countR (r : VL × Int) : Int × Int := if r.2 ≠ 0 then (0, r.2) else if r.1.kind ≠ 1 then (0, 7) else if r.1.num < 0 then (0, 1) else if 20 < r.1.num then (0, 4) else (r.1.num, 0)
/-- Texts as they lie side by side. -/
def TextsRd (w : World) (v : Value) (xs : List ByteArray) : Prop := ∃ g o cap, v = .slice (some ⟨g, o, none⟩) xs.length cap ∧ ∀ (i : Nat) (x : ByteArray), xs[i]? = some x → w.cell? ⟨g, o + i, none⟩ = some (.string x)
theorem TextsRd.below {w w' : World} {v : Value} {xs : List ByteArray} (h : TextsRd w v xs) (hb : Below w.heap.size w w') : TextsRd w' v xs := by
  obtain ⟨g, o, cap, rfl, hc⟩ := h
  exact ⟨g, o, cap, rfl, fun i x hx => hold hb (hc i x hx)⟩
section
variable (w : World)
set_option maxHeartbeats 1000000 in
set_option maxRecDepth 20000 in
theorem pparent (p gi gn : Nat) (ar : Value) (lb pf : ByteArray) (bv : Value) (hs : ScAt w p ar lb bv pf gi gn) (v : VL) (hv : v.text.size ≤ 100000) (hp : pf.size ≤ 100000) :
    Calls Tryz.prog 105 #[.pointer (some ⟨p, 0, none⟩), valV v] w (Pair (.string (parentR pf v).1) (parentR pf v).2 w) := by
  have B0 := Lib.hid (below_al (Below.refl w.heap.size w) (.cells #[.int .i64 v.kind, .int .i64 v.num, .string v.text, .slice none 0 0] 39))
  have c3 := hold B0.out hs.cells.2.2.2.1
  unfold valV
  clear hs
  by_cases k : v.kind = 2
  · have k1 : (v.kind != 2) = false := by simpa using k
    have CP := Lib.hid (Tryz.strings_CutPrefix v.text slashB (w.alloc (.cells #[.int .i64 v.kind, .int .i64 v.num, .string v.text, .slice none 0 0] 39)))
    unfold slashB at CP
    cases hpre : Lib.hasPrefix v.text.data.toList [47] with
    | true =>
      have E := Lib.hid (show parentR pf v = (⟨(Lib.trimPrefix v.text.data.toList [47]).toArray⟩, 0) by unfold parentR; rw [if_neg (by simpa using k), if_pos hpre])
      rw [E.out]
      rw [show (⟨#[47]⟩ : ByteArray).data.toList = [47] from rfl, hpre] at CP
      clear k hpre
      go_enter Tryz.func105, Tryz.ntmps105
      go_wp2_with fail
      refine CP.out.mono ?_
      rintro e w1 ⟨rfl, rfl⟩
      go_wp2_with fail
      exact bodyPost_ret (v := .tuple #[.string ⟨(Lib.trimPrefix v.text.data.toList [47]).toArray⟩, .int .i64 0]) (by simp [results, Tryz.results105, go_sem]) rfl ⟨rfl, B0.out⟩
    | false =>
      have e0 : Lib.trimPrefix v.text.data.toList [47] = v.text.data.toList := by unfold Lib.trimPrefix; rw [hpre]; rfl
      have CQ := Lib.hid (show Calls Tryz.prog 92 #[.string v.text, .string ⟨#[47]⟩] (w.alloc (.cells #[.int .i64 v.kind, .int .i64 v.num, .string v.text, .slice none 0 0] 39)) (fun e w' => e = .returned (.tuple #[.string v.text, .bool false]) ∧ w' = w.alloc (.cells #[.int .i64 v.kind, .int .i64 v.num, .string v.text, .slice none 0 0] 39)) from by
        have h := CP.out
        rw [show (⟨#[47]⟩ : ByteArray).data.toList = [47] from rfl, hpre, e0] at h
        exact h)
      clear CP
      by_cases he : v.text = ⟨#[]⟩
      · have E := Lib.hid (show parentR pf v = (⟨#[]⟩, 0) by unfold parentR; rw [if_neg (by simpa using k), if_neg (by rw [hpre]; simp), if_pos he])
        rw [E.out]
        have L0 : (v.text.toList == ([] : List UInt8)) = true := str_is he
        have L1 : v.text.toList.isEmpty = true := by simpa using L0
        have HE := Lib.hid he
        clear k hpre e0 he
        go_enter Tryz.func105, Tryz.ntmps105
        go_wp2_with fail
        refine CQ.out.mono ?_
        rintro e w1 ⟨rfl, rfl⟩
        go_wp2_with fail
        exact bodyPost_ret (v := .tuple #[.string v.text, .int .i64 0]) (by simp [results, Tryz.results105, go_sem]) rfl ⟨by rw [HE.out], B0.out⟩
      · have E := Lib.hid (show parentR pf v = (pf ++ v.text, 0) by unfold parentR; rw [if_neg (by simpa using k), if_neg (by rw [hpre]; simp), if_neg he])
        rw [E.out]
        have L0 : (v.text.toList == ([] : List UInt8)) = false := str_ne he
        have L1 : v.text.toList.isEmpty = false := by simpa using L0
        have hsz : pf.size + v.text.size ≤ 9223372036854775807 := by omega
        have hsz2 : ¬ 9223372036854775807 < pf.size + v.text.size := by omega
        have hst : v.text.size ≤ 9223372036854775807 := by omega
        have hsp : pf.size ≤ 9223372036854775807 := by omega
        have c2a := cell_of_row _ _ 2 _ _ _ (heap_alloc_new w (.cells #[.int .i64 v.kind, .int .i64 v.num, .string v.text, .slice none 0 0] 39))
        simp at c2a
        clear k hpre e0 he
        go_enter Tryz.func105, Tryz.ntmps105
        go_wp2_with fail
        refine CQ.out.mono ?_
        rintro e w1 ⟨rfl, rfl⟩
        go_wp2_with fail
        go_quiet (fail)
        go_wp2
        exact bodyPost_ret (v := .tuple #[.string (pf ++ v.text), .int .i64 0]) (by simp [results, Tryz.results105, go_sem]) rfl ⟨rfl, below_drewN B0.out _⟩
  · have k1 : (v.kind != 2) = true := by simpa using k
    have E := Lib.hid (show parentR pf v = (⟨#[]⟩, 7) by unfold parentR; rw [if_pos k])
    rw [E.out]
    go_enter Tryz.func105, Tryz.ntmps105
    go_wp2_with fail
    exact bodyPost_ret (v := .tuple #[.string ⟨#[]⟩, .int .i64 7]) (by simp [results, Tryz.results105, go_sem]) rfl ⟨rfl, B0.out⟩
set_option maxHeartbeats 2000000 in
set_option maxRecDepth 20000 in
theorem pcount (p gi gn nn : Nat) (ar : Value) (lb pf : ByteArray) (bv : Value) (L : ByteArray → Option VL) (nv : Value) (ns : List NodeL) (r : VL × Int)
    (hs : ScAt w p ar lb bv pf gi gn) (hn : ScopeAt w 0 gn nn L) (hns : NodesRd w nv ns) (hw : Worth L [] ns r) (ht : TabOK w) (he : ErrVar w) (hr : I64 r.1.num) :
    Calls Tryz.prog 74 #[.pointer (some ⟨p, 0, none⟩), nv] w (Pair (.int .i64 (countR r).1) (countR r).2 w) := by
  have PV := Lib.hid (psvalue w p gi gn nn ar lb pf bv L nv (.slice none 0 0) [] ns r hs hn hns (binds_nil _ _ _ _) hw ht he)
  obtain ⟨ao, cap, rfl, -⟩ := hns.at
  clear hs hn hns hw ht he
  have goal : ∀ (x e : Int), countR r = (x, e) → (∀ w1, Below w.heap.size w w1 → True) → True := fun _ _ _ _ => trivial
  clear goal
  by_cases h2 : r.2 = 0
  · have g2 : (r.2 != 0) = false := by simpa using h2
    by_cases k : r.1.kind = 1
    · have k1 : (r.1.kind != 1) = false := by simpa using k
      by_cases n0 : r.1.num < 0
      · have E := Lib.hid (show countR r = (0, 1) by unfold countR; rw [if_neg (by simpa using h2), if_neg (by simpa using k), if_pos n0])
        rw [E.out]
        clear h2 k
        go_enter Tryz.func74, Tryz.ntmps74
        go_wp2_with fail
        refine PV.out.mono ?_
        rintro e w1 ⟨rfl, hb1⟩
        go_wp2_with fail
        exact bodyPost_ret (v := .tuple #[.int .i64 0, .int .i64 1]) (by simp [results, Tryz.results74, go_sem]) rfl ⟨rfl, below_al hb1 _⟩
      · by_cases n1 : 20 < r.1.num
        · have E := Lib.hid (show countR r = (0, 4) by unfold countR; rw [if_neg (by simpa using h2), if_neg (by simpa using k), if_neg n0, if_pos n1])
          rw [E.out]
          clear h2 k
          go_enter Tryz.func74, Tryz.ntmps74
          go_wp2_with fail
          refine PV.out.mono ?_
          rintro e w1 ⟨rfl, hb1⟩
          go_wp2_with fail
          exact bodyPost_ret (v := .tuple #[.int .i64 0, .int .i64 4]) (by simp [results, Tryz.results74, go_sem]) rfl ⟨rfl, below_al hb1 _⟩
        · have E := Lib.hid (show countR r = (r.1.num, 0) by unfold countR; rw [if_neg (by simpa using h2), if_neg (by simpa using k), if_neg n0, if_neg n1])
          rw [E.out]
          clear h2 k
          go_enter Tryz.func74, Tryz.ntmps74
          go_wp2_with fail
          refine PV.out.mono ?_
          rintro e w1 ⟨rfl, hb1⟩
          go_wp2_with fail
          exact bodyPost_ret (v := .tuple #[.int .i64 r.1.num, .int .i64 0]) (by simp [results, Tryz.results74, go_sem]) rfl ⟨rfl, below_al hb1 _⟩
    · have k1 : (r.1.kind != 1) = true := by simpa using k
      have E := Lib.hid (show countR r = (0, 7) by unfold countR; rw [if_neg (by simpa using h2), if_pos k])
      rw [E.out]
      clear h2 k
      go_enter Tryz.func74, Tryz.ntmps74
      go_wp2_with fail
      refine PV.out.mono ?_
      rintro e w1 ⟨rfl, hb1⟩
      go_wp2_with fail
      exact bodyPost_ret (v := .tuple #[.int .i64 0, .int .i64 7]) (by simp [results, Tryz.results74, go_sem]) rfl ⟨rfl, below_al hb1 _⟩
  · have g2 : (r.2 != 0) = true := by simpa using h2
    have E := Lib.hid (show countR r = (0, r.2) by unfold countR; rw [if_pos h2])
    rw [E.out]
    clear h2
    go_enter Tryz.func74, Tryz.ntmps74
    go_wp2_with fail
    refine PV.out.mono ?_
    rintro e w1 ⟨rfl, hb1⟩
    go_wp2_with fail
    exact bodyPost_ret (v := .tuple #[.int .i64 0, .int .i64 r.2]) (by simp [results, Tryz.results74, go_sem]) rfl ⟨rfl, below_al hb1 _⟩
set_option maxHeartbeats 1000000 in
set_option maxRecDepth 20000 in
theorem pindexS (v : Value) (xs : List ByteArray) (h : TextsRd w v xs) (hl : xs.length ≤ 1000) (x : ByteArray) :
    Calls Tryz.prog 88 #[v, .string x] w fun e w' => w = w' ∧ ∃ r : Int, e = .returned (.int .i64 r) ∧ decide (0 ≤ r) = inNamesW x xs := by
  obtain ⟨g, o, cap, rfl, hc⟩ := h
  have HC := Lib.hid hc
  clear hc
  go_enter Tryz.func88, Tryz.ntmps88
  go_wp2_with fail
  go_loopg [8] xs.length (fun m v wr => ∃ j : Nat, v = .int .i64 j ∧ xs.length - j ≤ m ∧ j ≤ xs.length ∧ w = wr ∧ Hid (∀ z ∈ xs.take j, z ≠ x))
  case atStart => exact ⟨0, rfl, Nat.le_refl _, Nat.zero_le _, rfl, Lib.hid (fun z hz => by simp at hz)⟩
  case round =>
    obtain ⟨j, rfl, hm, hj, rfl, HJ⟩ := hrel
    have HM := Lib.hid hm
    clear hm
    by_cases hjl : j < xs.length
    · obtain ⟨a, ha⟩ : ∃ a, xs[j]? = some a := ⟨_, List.getElem?_eq_getElem hjl⟩
      have c0 := HC.out j a ha
      have se : (x.toList == a.toList) = decide (x = a) := str_eq _ _
      by_cases hax : x = a
      · rw [decide_eq_true hax] at se
        have IN := Lib.hid (show inNamesW x xs = true by unfold inNamesW; rw [List.any_eq_true]; exact ⟨a, List.mem_of_getElem? ha, by simpa using hax.symm⟩)
        clear ha hax
        go_wp2_with fail
        go_ret
        exact ⟨rfl, _, rfl, by rw [IN.out]; simp⟩
      · rw [decide_eq_false hax] at se
        have HK := Lib.hid (show ∀ z ∈ xs.take (j + 1), z ≠ x from fun z hz => by
          rw [take_snocW ha] at hz
          rcases List.mem_append.1 hz with hz | hz
          · exact HJ.out z hz
          · obtain rfl := List.mem_singleton.1 hz; exact fun e => hax e.symm)
        clear ha hax
        go_wp2_with fail
        go_roundg (xs.length - (j + 1))
        case rel => exact ⟨j + 1, rfl, Nat.le_refl _, hjl, rfl, HK⟩
        case measure => have := HM.out; omega
    · have hz : j = xs.length := by omega
      subst hz
      have NI := Lib.hid (show inNamesW x xs = false by unfold inNamesW; rw [List.any_eq_false]; intro y hy; simpa using HJ.out y (by rwa [List.take_length]))
      go_wp2_with fail
      go_ret
      exact ⟨rfl, _, rfl, by rw [NI.out]; rfl⟩
theorem pcontainsS (v : Value) (xs : List ByteArray) (h : TextsRd w v xs) (hl : xs.length ≤ 1000) (x : ByteArray) :
    Calls Tryz.prog 64 #[v, .string x] w fun e w' => w = w' ∧ e = .returned (.bool (inNamesW x xs)) := by
  have C := Lib.hid (pindexS w v xs h hl x)
  obtain ⟨g, o, cap, rfl, -⟩ := h
  go_enter Tryz.func64, Tryz.ntmps64
  go_wp2_with fail
  refine C.out.mono ?_
  rintro e w1 ⟨rfl, r, rfl, hr⟩
  go_wp2_with fail
  go_ret
  exact ⟨rfl, by rw [← hr]; rfl⟩
end
end Go.Proofs.YtndeihmclecmcaaGreatDoor
