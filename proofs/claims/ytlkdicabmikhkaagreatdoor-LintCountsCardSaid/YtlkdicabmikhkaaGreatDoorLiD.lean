/- Package lint: whether a name is used; a scope's variables. -/
import Derived.Test.YtlkdicabmikhkaaGreatDoorLiC
namespace Go.Proofs.YtlkdicabmikhkaaGreatDoor
open Go.RowKit Go.Sort
set_option linter.unusedVariables false
set_option linter.unusedSimpArgs false
def usedB (ns : List ByteArray) (x : ByteArray) : Bool := hasBS (fun j => ns.getD j ⟨#[]⟩) ns.length x
def sVar : ByteArray := ⟨#[118, 97, 114, 46]⟩
def sLoc : ByteArray := ⟨#[108, 111, 99, 97, 108, 46]⟩
def warnCells (l : List (Int × ByteArray)) : List Value := l.flatMap fun x => [.int .i64 x.1, .string x.2]
def varW (ns : List ByteArray) (p : ByteArray) (b : BlkL) : List (Int × ByteArray) := if b.kind = 1 ∧ usedB ns (sVar ++ b.label) = false then [(1, p ++ b.label)] else []
def varsW (ns : List ByteArray) (p : ByteArray) (l : List BlkL) : List (Int × ByteArray) := l.flatMap (varW ns p)
def locW (ns : List ByteArray) (p : ByteArray) (a : ByteArray × List NodeL) : List (Int × ByteArray) := if usedB ns (sLoc ++ a.1) = false then [(2, p ++ a.1)] else []
def locB1 (ns : List ByteArray) (p : ByteArray) (b : BlkL) : List (Int × ByteArray) := if b.kind = 2 then b.attrs.flatMap (locW ns p) else []
def locsW (ns : List ByteArray) (p : ByteArray) (l : List BlkL) : List (Int × ByteArray) := l.flatMap (locB1 ns p)
/-- What a scope warns of. -/
def scopeW (p : ByteArray) (l : List BlkL) : List (Int × ByteArray) := varsW (namesU (refsL l)) p l ++ locsW (namesU (refsL l)) p l
section
variable (w : World)
set_option maxRecDepth 20000 in
theorem pused (B : Nat) (nv : Value) (ns : List ByteArray) (x : ByteArray) (h : StrsIn w B nv ns) (hl : ns.length ≤ 100000) :
    Calls Tryz.prog 22 #[nv, .string x] w (Made (.bool (usedB ns x)) w) := by
  have H := Lib.hid h
  obtain ⟨ao, cap, rfl, -⟩ := h
  by_cases h0 : ns.length = 0
  · have C := Lib.hid (psearch0 w ao cap x)
    rw [h0]
    go_enter Tryz.func22, Tryz.ntmps22
    go_wp2_with fail
    refine C.out.mono ?_
    rintro e w1 ⟨⟨r, rfl⟩, q, rfl⟩
    go_wp2_with fail
    go_ret
    exact ⟨by simp [usedB, hasBS, h0], ⟨rfl, rfl, rfl, Nat.le_refl _, fun _ _ => rfl⟩⟩
  · obtain ⟨b, off, rfl⟩ : ∃ b off, ao = some ⟨b, off, none⟩ := by
      obtain ⟨ao2, c2, e, hc⟩ := H.out
      simp only [Value.slice.injEq] at e
      obtain ⟨rfl, -, rfl⟩ := e
      obtain ⟨g, o, e, -⟩ := hc 0 _ (List.getElem?_eq_getElem (by omega))
      exact ⟨g, o, e⟩
    have C := Lib.hid (psearch w b off ns.length cap (fun j => ns.getD j ⟨#[]⟩) x hl (fun j hj => by
      obtain ⟨ao2, c2, e, hc⟩ := H.out
      simp only [Value.slice.injEq] at e
      obtain ⟨e, -, rfl⟩ := e
      obtain ⟨g, o, e2, -, -, c⟩ := hc j _ (List.getElem?_eq_getElem hj)
      rw [e2] at e
      cases e
      rw [c]; simp [hj]))
    go_enter Tryz.func22, Tryz.ntmps22
    go_wp2_with fail
    refine C.out.mono ?_
    rintro e w1 ⟨⟨r, rfl⟩, q, rfl⟩
    go_wp2_with fail
    go_ret
    exact ⟨rfl, ⟨rfl, rfl, rfl, Nat.le_refl _, fun _ _ => rfl⟩⟩
set_option maxRecDepth 20000 in
theorem pwarn (nv bv : Value) (p x : ByteArray) (k : Int) (hp : p.size ≤ 200000) (hx : x.size ≤ 100000) : Calls Tryz.prog 30 #[.agg #[nv, bv, .string p], .int .i64 k, .string x] w (Made (.agg #[.int .i64 k, .string (p ++ x)]) w) := by
  go_enter Tryz.func30, Tryz.ntmps30
  go_wp2_with fail
  exact bodyPost_ret (v := .agg #[.int .i64 k, .string (p ++ x)]) (by simp [results, Tryz.results30, go_sem]) rfl ⟨rfl, below_al (below_al (Below.refl _ _) _) _⟩
theorem StrsIn.hold {w w' : World} {B : Nat} {v : Value} {xs : List ByteArray} (h : StrsIn w B v xs) (hb : Below w.heap.size w w') : StrsIn w' B v xs := by
  obtain ⟨ao, cap, rfl, hc⟩ := h
  refine ⟨ao, cap, rfl, fun j x hx => ?_⟩
  obtain ⟨g, o, e, h1, h2, h3⟩ := hc j x hx
  exact ⟨g, o, e, h1, Nat.lt_of_lt_of_le h2 hb.size, Go.Proofs.YtlkdicabmikhkaaGreatDoor.hold hb h3⟩
theorem info_warn : (Tryz.prog.info? 40).map (fun i => (i.zero, i.size, i.bytes)) = some (some (.agg #[.int .i64 0, .string ⟨#[]⟩]), 2, 24) := by kernel_rfl
theorem warn_one (l : List (Int × ByteArray)) : ∀ u ∈ warnCells l, u.oneCell' = true := by
  intro u hu
  unfold warnCells at hu
  obtain ⟨x, -, hx⟩ := List.mem_flatMap.1 hu
  simp at hx
  rcases hx with rfl | rfl <;> rfl
theorem warn_len (l : List (Int × ByteArray)) : (warnCells l).length = l.length * 2 := by
  unfold warnCells
  induction l with
  | nil => rfl
  | cons a l ih => rw [List.flatMap_cons, List.length_append, ih, List.length_cons]; simp; omega
theorem warn_app (l m : List (Int × ByteArray)) : warnCells (l ++ m) = warnCells l ++ warnCells m := by unfold warnCells; rw [List.flatMap_append]
theorem flat_snoc {α β : Type} (f : α → List β) {l : List α} {j : Nat} {a : α} (h : l[j]? = some a) : (l.take (j + 1)).flatMap f = (l.take j).flatMap f ++ f a := by
  rw [take_snocR h, List.flatMap_append]; simp
theorem flat_few {α β : Type} (f : α → List β) (k : Nat) (hf : ∀ a, (f a).length ≤ k) : ∀ l : List α, (l.flatMap f).length ≤ l.length * k := by
  intro l
  induction l with
  | nil => simp
  | cons a l ih => rw [List.flatMap_cons, List.length_append, List.length_cons, Nat.succ_mul]; have := hf a; omega
theorem varW_one (ns : List ByteArray) (p : ByteArray) (b : BlkL) : (varW ns p b).length ≤ 1 := by unfold varW; split <;> simp
def VsRel (w W : World) (ns : List ByteArray) (p : ByteArray) (l : List BlkL) (m : Nat) (sv iv : Value) (wr : World) : Prop :=
  ∃ j : Nat, iv = .int .i64 j ∧ l.length - j ≤ m ∧ j ≤ l.length ∧ Below W.heap.size W wr ∧ wr.ownsRow W.heap.size 40 2 sv (varsW ns p (l.take j)).length (warnCells (varsW ns p (l.take j)))
set_option maxHeartbeats 4000000 in
set_option maxRecDepth 20000 in
theorem pvariables (d Bn : Nat) (nv bv : Value) (ns : List ByteArray) (l : List BlkL) (p : ByteArray) (hn : StrsIn w Bn nv ns) (hnl : ns.length ≤ 100000) (h : BlksRd (d + 1) w bv l) (hl : l.length ≤ 1000) (hz : ∀ b ∈ l, b.label.size ≤ 100000) (hp : p.size ≤ 200000) :
    Calls Tryz.prog 18 #[.agg #[nv, bv, .string p]] w fun e w' => ∃ v, e = .returned v ∧ w'.ownsRow w.heap.size 40 2 v (varsW ns p l).length (warnCells (varsW ns p l)) ∧ Below w.heap.size w w' := by
  obtain ⟨no, nc, rfl, -⟩ := id hn
  obtain ⟨ao, cap, rfl⟩ := h.len
  obtain ⟨i0, hi0, hz0, hz1, hz2⟩ := info_parts info_warn
  have HZ := Lib.hid hz
  have BA := Lib.hid (below_al (Below.refl w.heap.size w) (.cells #[.slice no ns.length nc, .slice ao l.length cap, .string p] 53))
  have NB := Lib.hid (heap_alloc_new w (.cells #[.slice no ns.length nc, .slice ao l.length cap, .string p] 53))
  have HN := Lib.hid (hn.hold BA.out)
  have H := Lib.hid (h.below BA.out)
  clear hn h hz
  go_enter Tryz.func18, Tryz.ntmps18
  go_wp2_with fail
  generalize hW : w.alloc (.cells #[.slice no ns.length nc, .slice ao l.length cap, .string p] 53) = W at *
  have WS := Lib.hid (show W.heap.size = w.heap.size + 1 by rw [← hW]; simp)
  clear hW
  go_loopg [3, 9] l.length (fun m sv iv wr => VsRel w W ns p l m sv iv wr)
  case atStart => exact ⟨0, rfl, Nat.le_refl _, Nat.zero_le _, Below.refl _ _, World.ownsRow_nil _ _ _ _⟩
  case round =>
    obtain ⟨j, rfl, hm, hj, hb, ho⟩ := hrel
    have HM := Lib.hid hm
    have B := Lib.hid hb
    obtain ⟨so, sc, rfl⟩ := own_lenR ho
    clear hm
    by_cases hjl : j < l.length
    · obtain ⟨b, hbj⟩ : ∃ b, l[j]? = some b := ⟨_, List.getElem?_eq_getElem hjl⟩
      have hbz := HZ.out b (List.mem_of_getElem? hbj)
      have SN := Lib.hid (show varsW ns p (l.take (j + 1)) = varsW ns p (l.take j) ++ varW ns p b from flat_snoc _ hbj)
      have LE := Lib.hid (show (varsW ns p (l.take j)).length ≤ 1000 by
        have := flat_few (varW ns p) 1 (varW_one ns p) (l.take j)
        have h2 : (l.take j).length ≤ l.length := List.length_take_le' _ _
        unfold varsW; omega)
      obtain ⟨ao2, cap2, e2, hat⟩ := H.out
      simp at e2
      obtain ⟨rfl, rfl⟩ := e2
      obtain ⟨g, o, ato, atc, bo, bc, rfl, c0, c1, c2, c3, -, -⟩ := hat j b hbj
      replace c0 := hold hb c0
      replace c1 := hold hb c1
      replace c2 := hold hb c2
      replace c3 := hold hb c3
      have BA2 := Lib.hid (below_al hb (.cells #[.int .i64 b.kind, .string b.label, .slice ato b.attrs.length atc, .slice bo b.blocks.length bc] 28))
      have OA := Lib.hid (World.ownsRow.alloc ho (.cells #[.int .i64 b.kind, .string b.label, .slice ato b.attrs.length atc, .slice bo b.blocks.length bc] 28))
      have NW := Lib.hid (heap_alloc_new wr (.cells #[.int .i64 b.kind, .string b.label, .slice ato b.attrs.length atc, .slice bo b.blocks.length bc] 28))
      have NS := (BA2.out.block _ (Array.getElem?_eq_some_iff.1 NB.out).1).trans NB.out
      have n0 := cell_of_row _ _ 0 _ _ _ NS
      have n1 := cell_of_row _ _ 1 _ _ _ NS
      have n2 := cell_of_row _ _ 2 _ _ _ NS
      simp only [List.getElem?_toArray, List.getElem?_cons_zero, List.getElem?_cons_succ] at n0 n1 n2
      clear hat hbj ho NS
      by_cases k1 : b.kind = 1
      · have g1 : (b.kind == 1) = true := by simpa using k1
        have PU := Lib.hid (pused _ Bn _ ns (sVar ++ b.label) (HN.out.hold BA2.out) hnl)
        have hs1 : (⟨#[118, 97, 114, 46]⟩ ++ b.label : ByteArray).size ≤ maxLen := by
          rw [ByteArray.size_append]; unfold maxLen; show 4 + b.label.size ≤ _; omega
        cases hu : usedB ns (sVar ++ b.label)
        · have VW := Lib.hid (show varW ns p b = [(1, p ++ b.label)] by unfold varW; rw [if_pos ⟨k1, hu⟩])
          rw [hu] at PU
          clear hu k1 hb
          go_wp2_with fail
          refine PU.out.mono ?_
          rintro e w2 ⟨rfl, hb2⟩
          have B2 := Lib.hid (BA2.out.trans (hb2.mono BA2.out.size))
          have O2 := Lib.hid (own_below OA.out hb2)
          have m0 := hold hb2 n0
          have m1 := hold hb2 n1
          have m2 := hold hb2 n2
          have m3 : w2.cell? ⟨wr.heap.size, 1, none⟩ = some (.string b.label) := hold hb2 (cell_of_row _ _ 1 _ _ _ NW.out)
          have s2 : W.heap.size ≤ w2.heap.size := B2.out.size
          have PW := Lib.hid (pwarn w2 (.slice no ns.length nc) (.slice (some ⟨g, o, none⟩) l.length cap) p b.label 1 hp hbz)
          have TK := Lib.hid (show varsW ns p (l.take (j + 1)) = varsW ns p (l.take j) ++ [(1, p ++ b.label)] by rw [SN.out, VW.out])
          generalize hacc : varsW ns p (l.take j) = acc at *
          clear hb2 PU NW n0 n1 n2 SN VW hacc
          go_wp2_with fail
          refine PW.out.mono ?_
          rintro e w3 ⟨rfl, hb3⟩
          have B3 := Lib.hid (B2.out.trans (hb3.mono B2.out.size))
          have O3 := Lib.hid (own_below O2.out hb3)
          have s3 : W.heap.size ≤ (w3.alloc (.cells #[.int .i64 1, .string (p ++ b.label)] 40)).heap.size := by have := B3.out.size; simp; omega
          have hsm : acc.length + 1 ≤ maxLen ∧ (acc.length + 1) * 24 ≤ 140737488355328 := by have := LE.out; unfold maxLen; omega
          clear hb3 PW m0 m1 m2 m3 s2
          go_wp2_with (at_builtin; refine wpList_append_own _ rfl _ _ 25 rfl W.heap.size 40 i0 _ 2 24 Tryz.underlying25 hi0 hz0 hz1 hz2 rfl (by decide) (.slice so acc.length sc) acc.length (warnCells acc) rfl (O3.out.alloc _) ⟨w3.heap.size, 0, none⟩ 1 1 [.int .i64 1, .string (p ++ b.label)] rfl rfl ?nw (by simp [Value.oneCell']) hsm.1 hsm.2 s3 ?_)
          case nw => exact news_new w3 #[.int .i64 1, .string (p ++ b.label)] 40
          intro v9 w9 hown hgrow _
          have hr9 : ∀ k, (Value.slice so acc.length sc).ownBlock = some k → W.heap.size ≤ k := fun k hk => (World.ownsRow.lt O3.out k hk).1
          have B9 := Lib.hid (below_grown B3.out hgrow hr9)
          have O9 := Lib.hid (show w9.ownsRow W.heap.size 40 2 v9 (varsW ns p (l.take (j + 1))).length (warnCells (varsW ns p (l.take (j + 1)))) by
            rw [TK.out, List.length_append, warn_app]; exact hown)
          clear hown hgrow hsm
          go_wp2_with fail
          go_roundg (l.length - (j + 1))
          case rel => exact ⟨j + 1, rfl, Nat.le_refl _, hjl, B9.out, O9.out⟩
          case measure => have := HM.out; omega
        · have VW := Lib.hid (show varW ns p b = [] by unfold varW; rw [if_neg (by rw [hu]; simp)])
          rw [VW.out, List.append_nil] at SN
          rw [hu] at PU
          clear hu k1 hb
          go_wp2_with fail
          refine PU.out.mono ?_
          rintro e w2 ⟨rfl, hb2⟩
          have B2 := Lib.hid (BA2.out.trans (hb2.mono BA2.out.size))
          have O2 := Lib.hid (own_below OA.out hb2)
          clear hb2
          go_wp2_with fail
          go_roundg (l.length - (j + 1))
          case rel => exact ⟨j + 1, rfl, Nat.le_refl _, hjl, B2.out, by rw [SN.out]; exact O2.out⟩
          case measure => have := HM.out; omega
      · have g1 : (b.kind == 1) = false := by simpa using k1
        have VW := Lib.hid (show varW ns p b = [] by unfold varW; rw [if_neg (fun h => k1 h.1)])
        rw [VW.out, List.append_nil] at SN
        clear k1 hb
        go_wp2_with fail
        go_roundg (l.length - (j + 1))
        case rel => exact ⟨j + 1, rfl, Nat.le_refl _, hjl, BA2.out, by rw [SN.out]; exact OA.out⟩
        case measure => have := HM.out; omega
    · obtain rfl : j = l.length := by omega
      rw [List.take_length] at ho
      have OW := Lib.hid (own_base ho (by have := WS.out; omega : w.heap.size ≤ W.heap.size))
      have BW := Lib.hid (BA.out.trans (hb.mono BA.out.size))
      rw [List.take_length]
      clear ho hb
      go_wp2_with fail
      go_ret
      exact ⟨_, rfl, OW.out, BW.out⟩
end
end Go.Proofs.YtlkdicabmikhkaaGreatDoor
