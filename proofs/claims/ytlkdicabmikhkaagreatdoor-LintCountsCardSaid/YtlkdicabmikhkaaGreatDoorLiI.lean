/- Package lint: defines that nobody uses. -/
import Derived.Test.YtlkdicabmikhkaaGreatDoorLiH
namespace Go.Proofs.YtlkdicabmikhkaaGreatDoor
open Go.RowKit Go.Sort
set_option linter.unusedVariables false
set_option linter.unusedSimpArgs false
/-- The labels that modules say; none, where one says none. -/
def labelsOf : List (List NodeL) → Option (List ByteArray)
  | [] => some []
  | ns :: ls => match labelL ns, labelsOf ls with
    | some x, some xs => some (x :: xs)
    | _, _ => none
theorem labelsOf_snoc (ls : List (List NodeL)) (ns : List NodeL) : labelsOf (ls ++ [ns]) = match labelsOf ls, labelL ns with
    | some xs, some x => some (xs ++ [x])
    | _, _ => none := by
  induction ls with
  | nil =>
    show labelsOf [ns] = _
    rw [labelsOf, labelsOf]
    cases labelL ns <;> rfl
  | cons a ls ih =>
    rw [List.cons_append, labelsOf, ih, labelsOf]
    cases labelL a <;> cases labelsOf ls <;> cases labelL ns <;> rfl
theorem labelsOf_none {ls : List (List NodeL)} {j : Nat} {ns : List NodeL} (h : ls[j]? = some ns) (hn : labelL ns = none) : labelsOf ls = none := by
  induction ls generalizing j with
  | nil => simp at h
  | cons a ls ih =>
    cases j with
    | zero => simp at h; subst h; rw [labelsOf, hn]
    | succ j =>
      rw [labelsOf, ih (by simpa using h)]
      cases labelL a <;> rfl
theorem labelsOf_len {ls : List (List NodeL)} : ∀ {xs : List ByteArray}, labelsOf ls = some xs → xs.length = ls.length := by
  induction ls with
  | nil => intro xs h; cases h; rfl
  | cons a ls ih =>
    intro xs h
    rw [labelsOf] at h
    cases h1 : labelL a <;> rw [h1] at h <;> cases h2 : labelsOf ls <;> rw [h2] at h <;> simp at h
    subst h
    simp [ih h2]
def defW (said : List ByteArray) (b : BlkL) : List (Int × ByteArray) := if b.kind = 5 ∧ usedB said b.label = false then [(3, b.label)] else []
def definesL (u : List (List NodeL)) (l : List BlkL) : List (Int × ByteArray) := match labelsOf u with
  | none => []
  | some ls => l.flatMap (defW (namesU ls))
theorem defW_one (s : List ByteArray) (b : BlkL) : (defW s b).length ≤ 1 := by unfold defW; split <;> simp
def LbRel (w w1 : World) (ls : List (List NodeL)) (m : Nat) (sv iv : Value) (wr : World) : Prop :=
  ∃ (j : Nat) (xs : List ByteArray), iv = .int .i64 j ∧ ls.length - j ≤ m ∧ j ≤ ls.length ∧ Below w1.heap.size w1 wr ∧ wr.ownsRow w1.heap.size 9 1 sv xs.length (xs.map .string) ∧ labelsOf (ls.take j) = some xs
def DfRel (w w2 : World) (said : List ByteArray) (l : List BlkL) (m : Nat) (sv iv : Value) (wr : World) : Prop :=
  ∃ j : Nat, iv = .int .i64 j ∧ l.length - j ≤ m ∧ j ≤ l.length ∧ Below w2.heap.size w2 wr ∧ wr.ownsRow w2.heap.size 40 2 sv ((l.take j).flatMap (defW said)).length (warnCells ((l.take j).flatMap (defW said)))
section
variable (w : World)
set_option maxHeartbeats 4000000 in
set_option maxRecDepth 20000 in
theorem pdefines (d : Nat) (bv : Value) (l : List BlkL) (h : BlksRd (d + 1) w bv l) (ho : BlksOK (d + 1) l) (hr : (usesD (d + 1) l).length ≤ 90000) (hn : ∀ ns ∈ usesD (d + 1) l, ns.length ≤ 1000 ∧ ∀ n ∈ ns, n.parts.length ≤ 100000) :
    Calls Tryz.prog 13 #[bv] w fun e w' => ∃ v, e = .returned v ∧ w'.ownsRow w.heap.size 40 2 v (definesL (usesD (d + 1) l) l).length (warnCells (definesL (usesD (d + 1) l) l)) ∧ Below w.heap.size w w' := by
  have PU := Lib.hid (puses (d + 1) w w bv l h (Below.refl _ _) ho hr)
  have HR := Lib.hid hr
  have hls := hr
  have H := Lib.hid h
  have hl := ho.few
  have HZ := Lib.hid (fun b hb => (ho.2 b hb).2.1)
  have HNN := Lib.hid hn
  obtain ⟨ao, cap, rfl⟩ := h.len
  obtain ⟨i0, hi0, hz0, hz1, hz2⟩ := info_parts info_strR
  obtain ⟨j0, hj0, hy0, hy1, hy2⟩ := info_parts info_warn
  clear h ho hr hn
  generalize usesD (d + 1) l = ls at *
  go_enter Tryz.func13, Tryz.ntmps13
  go_wp2_with fail
  refine PU.out.mono ?_
  rintro e w1 ⟨v1, rfl, hn1, hb1⟩
  obtain ⟨vs, hv1, hv2, hv3⟩ := hn1
  obtain ⟨uo, uc, rfl⟩ := own_lenR hv2
  have V1 := Lib.hid hv1
  have V2 := Lib.hid hv2
  have V3 := Lib.hid hv3
  have B1 := Lib.hid hb1
  have UC := Lib.hid (own_srcX hv2)
  clear hv1 hv2 hv3 hb1 PU
  go_wp2_with fail
  go_loopg [3, 15] ls.length (fun m sv iv wr => LbRel w w1 ls m sv iv wr)
  case atStart => exact ⟨0, [], rfl, Nat.le_refl _, Nat.zero_le _, Below.refl _ _, World.ownsRow_nil _ _ _ _, rfl⟩
  case round =>
    obtain ⟨j, xs, rfl, hm, hj, hb, hx, hlb⟩ := hrel
    have HM := Lib.hid hm
    have B := Lib.hid hb
    have LB := Lib.hid hlb
    obtain ⟨so, sc, rfl⟩ := own_lenR hx
    have XO := Lib.hid hx
    clear hm hb hx hlb
    by_cases hjl : j < ls.length
    · obtain ⟨ns, hnj⟩ : ∃ ns, ls[j]? = some ns := ⟨_, List.getElem?_eq_getElem hjl⟩
      obtain ⟨nl, np⟩ := HNN.out ns (List.mem_of_getElem? hnj)
      obtain ⟨u, hu⟩ : ∃ u, vs[j]? = some u := ⟨_, List.getElem?_eq_getElem (by rw [V1.out]; exact hjl)⟩
      have VN := V3.out j u ns hu hnj
      have CL := Lib.hid (fun W (hW : Below w.heap.size w W) => plabelN W u ns (VN.below hW) nl np)
      obtain ⟨g, hg, u0⟩ : ∃ g, uo = some ⟨g, 0, none⟩ ∧ wr.cell? ⟨g, j, none⟩ = some u := by
        rcases V2.out.2 with ⟨e, h0⟩ | ⟨g, c, cur, e, -, h1, -⟩
        · omega
        · simp only [Value.slice.injEq] at e
          obtain ⟨rfl, -, -⟩ := e
          have := UC.out.2 _ rfl j u hu
          have ha : (⟨g, 0, none⟩ : Addr).add j = ⟨g, 0 + j, none⟩ := by unfold Addr.add; split <;> simp_all
          rw [ha, Nat.zero_add] at this
          exact ⟨g, rfl, hold B.out this⟩
      subst hg
      obtain ⟨no, nc, rfl, -⟩ := VN.at
      have SN := Lib.hid (show labelsOf (ls.take (j + 1)) = match labelsOf (ls.take j), labelL ns with
        | some xs, some x => some (xs ++ [x])
        | _, _ => none by rw [take_snocR hnj, labelsOf_snoc])
      have BT := Lib.hid (B1.out.trans (B.out.mono B1.out.size))
      cases hlx : labelL ns with
      | none =>
        have LN := Lib.hid (labelsOf_none hnj hlx)
        have CX := Lib.hid (fun W (hW : Below w.heap.size w W) => show Calls Tryz.prog 21 #[.slice no ns.length nc] W fun e w' => e = .returned (.tuple #[.string ⟨#[]⟩, .bool false]) ∧ W = w' from by
          have := CL.out W hW
          rw [hlx] at this
          exact this)
        clear hlx VN hu hnj CL SN
        go_wp2_with fail
        refine (CX.out _ BT.out).mono ?_
        rintro e w2 ⟨rfl, rfl⟩
        go_wp2_with fail
        go_ret
        exact ⟨_, rfl, by unfold definesL; rw [LN.out]; exact World.ownsRow_nil _ _ _ _, BT.out⟩
      | some x =>
        have CX := Lib.hid (fun W (hW : Below w.heap.size w W) => show Calls Tryz.prog 21 #[.slice no ns.length nc] W fun e w' => e = .returned (.tuple #[.string x, .bool true]) ∧ W = w' from by
          have := CL.out W hW
          rw [hlx] at this
          exact this)
        have S2 := Lib.hid (show labelsOf (ls.take (j + 1)) = some (xs ++ [x]) by rw [SN.out, LB.out, hlx])
        have XL := Lib.hid (show xs.length ≤ 90000 by
          have h1 := labelsOf_len LB.out
          rw [h1, List.length_take]
          have := HR.out
          omega)
        clear hlx VN hu hnj CL SN
        go_wp2_with fail
        refine (CX.out _ BT.out).mono ?_
        rintro e w2 ⟨rfl, rfl⟩
        have s3 : w1.heap.size ≤ (wr.alloc (.cells #[.string x] 9)).heap.size := by have := B.out.size; simp; omega
        have hsm : xs.length + 1 ≤ maxLen ∧ (xs.length + 1) * 16 ≤ 140737488355328 := by have := XL.out; unfold maxLen; omega
        go_wp2_with (at_builtin; refine wpList_append_own _ rfl _ _ 50 rfl w1.heap.size 9 i0 _ 1 16 Tryz.underlying50 hi0 hz0 hz1 hz2 rfl (by decide) (.slice so xs.length sc) xs.length (xs.map .string) rfl (World.ownsRow.alloc XO.out _) ⟨wr.heap.size, 0, none⟩ 1 1 [.string x] rfl rfl ?nw (by simp [Value.oneCell']) hsm.1 hsm.2 s3 ?_)
        case nw => exact news_new wr #[.string x] 9
        intro v9 w9 hown hgrow _
        have hr9 : ∀ k, (Value.slice so xs.length sc).ownBlock = some k → w1.heap.size ≤ k := fun k hk => (World.ownsRow.lt XO.out k hk).1
        have B9 := Lib.hid (below_grown B.out hgrow hr9)
        have O9 := Lib.hid (show w9.ownsRow w1.heap.size 9 1 v9 (xs ++ [x]).length ((xs ++ [x]).map .string) by
          rw [List.length_append, List.map_append]; exact hown)
        clear hown hgrow hsm hr9
        go_wp2_with fail
        go_roundg (ls.length - (j + 1))
        case rel => exact ⟨j + 1, xs ++ [x], rfl, Nat.le_refl _, hjl, B9.out, O9.out, S2.out⟩
        case measure => have := HM.out; omega
    · obtain rfl : j = ls.length := by omega
      have LS := Lib.hid (show labelsOf ls = some xs by have := LB.out; rw [List.take_length] at this; exact this)
      have XL := Lib.hid (show xs.length ≤ 90000 by
        have h1 := labelsOf_len LS.out
        have := HR.out
        omega)
      have DL := Lib.hid (show definesL ls l = l.flatMap (defW (namesU xs)) by unfold definesL; rw [LS.out])
      have BT := Lib.hid (B1.out.trans (B.out.mono B1.out.size))
      have PN := Lib.hid (pnames wr w1.heap.size _ xs XO.out XL.out)
      have NL := Lib.hid (show (namesU xs).length ≤ 100000 by have := namesU_le xs; have := XL.out; omega)
      clear LB
      go_wp2_with fail
      refine PN.out.mono ?_
      rintro e w2 ⟨v2, rfl, hs2, hb2⟩
      have B2 := Lib.hid (B1.out.trans ((B.out.trans hb2).mono B1.out.size))
      have HS := Lib.hid hs2
      obtain ⟨no, nc, rfl, -⟩ := hs2
      generalize hnn : namesU xs = said at *
      clear hb2 PN hnn XO
      go_wp2_with fail
      clear hls
      go_loopg [9, 35] l.length (fun m sv iv wr => DfRel w w2 said l m sv iv wr)
      case atStart => exact ⟨0, rfl, Nat.le_refl _, Nat.zero_le _, Below.refl _ _, World.ownsRow_nil _ _ _ _⟩
      case round =>
        obtain ⟨j, rfl, hm, hj, hb, ho⟩ := hrel
        have HM := Lib.hid hm
        have B := Lib.hid hb
        have BT := Lib.hid (B2.out.trans (hb.mono B2.out.size))
        obtain ⟨so, sc, rfl⟩ := own_lenR ho
        clear hm
        by_cases hjl : j < l.length
        · obtain ⟨b, hbj⟩ : ∃ b, l[j]? = some b := ⟨_, List.getElem?_eq_getElem hjl⟩
          have hbz := HZ.out b (List.mem_of_getElem? hbj)
          have SN := Lib.hid (show (l.take (j + 1)).flatMap (defW said) = (l.take j).flatMap (defW said) ++ defW said b from flat_snoc _ hbj)
          have LE := Lib.hid (show ((l.take j).flatMap (defW said)).length ≤ 1000 by
            have := flat_few (defW said) 1 (defW_one said) (l.take j)
            have h2 : (l.take j).length ≤ l.length := List.length_take_le' _ _
            omega)
          generalize (l.take j).flatMap (defW said) = acc at *
          obtain ⟨ao2, cap2, e2, hat⟩ := H.out
          simp at e2
          obtain ⟨rfl, rfl⟩ := e2
          obtain ⟨g, o, ato, atc, bo, bc, rfl, c0, c1, c2, c3, -, -⟩ := hat j b hbj
          replace c0 := hold BT.out c0
          replace c1 := hold BT.out c1
          replace c2 := hold BT.out c2
          replace c3 := hold BT.out c3
          have BA2 := Lib.hid (below_al hb (.cells #[.int .i64 b.kind, .string b.label, .slice ato b.attrs.length atc, .slice bo b.blocks.length bc] 28))
          have OA := Lib.hid (World.ownsRow.alloc ho (.cells #[.int .i64 b.kind, .string b.label, .slice ato b.attrs.length atc, .slice bo b.blocks.length bc] 28))
          have NW := Lib.hid (heap_alloc_new wr (.cells #[.int .i64 b.kind, .string b.label, .slice ato b.attrs.length atc, .slice bo b.blocks.length bc] 28))
          clear hat hbj ho
          by_cases k1 : b.kind = 5
          · have g1 : (b.kind == 5) = true := by simpa using k1
            have PU := Lib.hid (pused _ w1.heap.size _ said b.label (HS.out.hold BA2.out) NL.out)
            cases hu : usedB said b.label
            · have VW := Lib.hid (show defW said b = [(3, b.label)] by unfold defW; rw [if_pos ⟨k1, hu⟩])
              rw [hu] at PU
              have TK := Lib.hid (show (l.take (j + 1)).flatMap (defW said) = acc ++ [(3, b.label)] by rw [SN.out, VW.out])
              clear hu k1 hb SN VW
              go_wp2_with fail
              refine PU.out.mono ?_
              rintro e w3 ⟨rfl, hb3⟩
              have B3 := Lib.hid (BA2.out.trans (hb3.mono BA2.out.size))
              have O3 := Lib.hid (own_below OA.out hb3)
              have m3 : w3.cell? ⟨wr.heap.size, 1, none⟩ = some (.string b.label) := hold hb3 (cell_of_row _ _ 1 _ _ _ NW.out)
              have s3 : w2.heap.size ≤ (w3.alloc (.cells #[.int .i64 3, .string b.label] 40)).heap.size := by have := B3.out.size; simp; omega
              have hsm : acc.length + 1 ≤ maxLen ∧ (acc.length + 1) * 24 ≤ 140737488355328 := by have := LE.out; unfold maxLen; omega
              clear hb3 PU
              go_wp2_with (at_builtin; refine wpList_append_own _ rfl _ _ 25 rfl w2.heap.size 40 j0 _ 2 24 Tryz.underlying25 hj0 hy0 hy1 hy2 rfl (by decide) (.slice so acc.length sc) acc.length (warnCells acc) rfl (O3.out.alloc _) ⟨w3.heap.size, 0, none⟩ 1 1 [.int .i64 3, .string b.label] rfl rfl ?nw9 (by simp [Value.oneCell']) hsm.1 hsm.2 s3 ?_)
              case nw9 => exact news_new w3 #[.int .i64 3, .string b.label] 40
              intro v9 w9 hown hgrow _
              have hr9 : ∀ k, (Value.slice so acc.length sc).ownBlock = some k → w2.heap.size ≤ k := fun k hk => (World.ownsRow.lt O3.out k hk).1
              have B9 := Lib.hid (below_grown B3.out hgrow hr9)
              have O9 := Lib.hid (show w9.ownsRow w2.heap.size 40 2 v9 ((l.take (j + 1)).flatMap (defW said)).length (warnCells ((l.take (j + 1)).flatMap (defW said))) by
                rw [TK.out, List.length_append, warn_app]; exact hown)
              clear hown hgrow hsm
              go_wp2_with fail
              go_roundg (l.length - (j + 1))
              case rel => exact ⟨j + 1, rfl, Nat.le_refl _, hjl, B9.out, O9.out⟩
              case measure => have := HM.out; omega
            · have VW := Lib.hid (show defW said b = [] by unfold defW; rw [if_neg (by rw [hu]; simp)])
              rw [VW.out, List.append_nil] at SN
              rw [hu] at PU
              clear hu k1 hb
              go_wp2_with fail
              refine PU.out.mono ?_
              rintro e w3 ⟨rfl, hb3⟩
              have B3 := Lib.hid (BA2.out.trans (hb3.mono BA2.out.size))
              have O3 := Lib.hid (own_below OA.out hb3)
              clear hb3
              go_wp2_with fail
              go_roundg (l.length - (j + 1))
              case rel => exact ⟨j + 1, rfl, Nat.le_refl _, hjl, B3.out, by rw [SN.out]; exact O3.out⟩
              case measure => have := HM.out; omega
          · have g1 : (b.kind == 5) = false := by simpa using k1
            have VW := Lib.hid (show defW said b = [] by unfold defW; rw [if_neg (fun h => k1 h.1)])
            rw [VW.out, List.append_nil] at SN
            clear k1 hb
            go_wp2_with fail
            go_roundg (l.length - (j + 1))
            case rel => exact ⟨j + 1, rfl, Nat.le_refl _, hjl, BA2.out, by rw [SN.out]; exact OA.out⟩
            case measure => have := HM.out; omega
        · obtain rfl : j = l.length := by omega
          rw [List.take_length] at ho
          have OW := Lib.hid (own_base ho B2.out.size)
          clear ho hb
          go_wp2_with fail
          go_ret
          exact ⟨_, rfl, by rw [DL.out, List.take_length]; exact OW.out, BT.out⟩
end
end Go.Proofs.YtlkdicabmikhkaaGreatDoor
