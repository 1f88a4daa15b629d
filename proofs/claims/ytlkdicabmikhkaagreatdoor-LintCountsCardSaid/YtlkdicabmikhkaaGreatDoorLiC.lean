/- Package lint: what blocks refer to. -/
import Derived.Test.YtlkdicabmikhkaaGreatDoorLiB
import Derived.Test.YtlkdicabmikhkaaGreatDoorOwnX
namespace Go.Proofs.YtlkdicabmikhkaaGreatDoor
open Go.RowKit Go.Sort
set_option linter.unusedVariables false
set_option linter.unusedSimpArgs false
/-- What attributes, and blocks but variables, refer to. -/
def refsA (al : List (ByteArray × List NodeL)) : List ByteArray := al.flatMap fun a => refsG a.2
def refsB (b : BlkL) : List ByteArray := if b.kind = 1 then [] else refsA b.attrs
def refsL (l : List BlkL) : List ByteArray := l.flatMap refsB
/-- Expressions, trees all, of not too many references. -/
def RefsOK (al : List (ByteArray × List NodeL)) : Prop := ∀ a ∈ al, treeP a.2 = true ∧ a.2.length ≤ 1000 ∧ (∀ n ∈ a.2, Few n ∧ n.text.size ≤ 100000 ∧ n.kids.length ≤ 100000) ∧ (rawG a.2).length ≤ 90000
theorem refsA_snoc {al : List (ByteArray × List NodeL)} {j : Nat} {a : ByteArray × List NodeL} (h : al[j]? = some a) : refsA (al.take (j + 1)) = refsA (al.take j) ++ refsG a.2 := by
  rw [take_snocR h]; unfold refsA; rw [List.flatMap_append]; simp
theorem refsL_snoc {l : List BlkL} {j : Nat} {b : BlkL} (h : l[j]? = some b) : refsL (l.take (j + 1)) = refsL (l.take j) ++ refsB b := by
  rw [take_snocR h]; unfold refsL; rw [List.flatMap_append]; simp
theorem flat_le {α β : Type} (f : α → List β) {l : List α} {j : Nat} {a : α} (h : l[j]? = some a) : ((l.take j).flatMap f).length + (f a).length ≤ (l.flatMap f).length := by
  obtain ⟨h1, h2⟩ := List.getElem?_eq_some_iff.1 h
  have e : l.flatMap f = (l.take j).flatMap f ++ (f a ++ (l.drop (j + 1)).flatMap f) := by
    conv => lhs; rw [← List.take_append_drop j l, List.drop_eq_getElem_cons h1, h2]
    rw [List.flatMap_append, List.flatMap_cons]
  rw [e]; simp only [List.length_append]; omega
theorem strs_src {w : World} {B n cap : Nat} {ao : Option Addr} {xs : List ByteArray} (h : StrsIn w B (.slice ao n cap) xs) : n = xs.length ∧ (ao = none → n = 0) ∧ ∀ ad, ao = some ad → ∀ j u, (xs.map Value.string)[j]? = some u → w.cell? (ad.add j) = some u := by
  obtain ⟨ao2, c2, e, hc⟩ := h
  simp only [Value.slice.injEq] at e
  obtain ⟨rfl, rfl, rfl⟩ := e
  refine ⟨rfl, fun hn => ?_, fun ad had j u hj => ?_⟩
  · by_cases h0 : xs.length = 0
    · exact h0
    · obtain ⟨g, o, e, -⟩ := hc 0 _ (List.getElem?_eq_getElem (by omega))
      rw [hn] at e; cases e
  · rw [List.getElem?_map] at hj
    obtain ⟨x, hx, rfl⟩ := Option.map_eq_some_iff.1 hj
    obtain ⟨g, o, e, -, -, hc⟩ := hc j x hx
    rw [had] at e
    cases e
    have ha : (⟨g, o, none⟩ : Addr).add j = ⟨g, o + j, none⟩ := by unfold Addr.add; split <;> simp_all
    rw [ha]; exact hc
def RfRel (w : World) (l : List BlkL) (m : Nat) (sv iv : Value) (wr : World) : Prop :=
  ∃ j : Nat, iv = .int .i64 j ∧ l.length - j ≤ m ∧ j ≤ l.length ∧ Below w.heap.size w wr ∧ wr.ownsRow w.heap.size 9 1 sv (refsL (l.take j)).length ((refsL (l.take j)).map .string)
def RfARel (w : World) (rs : List ByteArray) (al : List (ByteArray × List NodeL)) (m : Nat) (sv iv : Value) (wr : World) : Prop :=
  ∃ q : Nat, iv = .int .i64 q ∧ al.length - q ≤ m ∧ q ≤ al.length ∧ Below w.heap.size w wr ∧ wr.ownsRow w.heap.size 9 1 sv (rs ++ refsA (al.take q)).length ((rs ++ refsA (al.take q)).map .string)
section
variable (w : World)
set_option maxHeartbeats 4000000 in
set_option maxRecDepth 20000 in
theorem preferences (d : Nat) (bv : Value) (l : List BlkL) (h : BlksRd (d + 1) w bv l) (hl : l.length ≤ 1000) (ho : ∀ b ∈ l, b.attrs.length ≤ 1000 ∧ RefsOK b.attrs) (hr : (refsL l).length ≤ 90000) (hv : ErrVar w) :
    Calls Tryz.prog 17 #[bv] w fun e w' => ∃ v, e = .returned v ∧ w'.ownsRow w.heap.size 9 1 v (refsL l).length ((refsL l).map .string) ∧ Below w.heap.size w w' := by
  have H := Lib.hid h
  have HO := Lib.hid ho
  have HR := Lib.hid hr
  have V := Lib.hid hv
  obtain ⟨ao, cap, rfl⟩ := h.len
  obtain ⟨i0, hi0, hz0, hz1, hz2⟩ := info_parts info_strR
  clear h hr ho hv
  go_enter Tryz.func17, Tryz.ntmps17
  go_wp2_with fail
  go_loopg [3, 10] l.length (fun m sv iv wr => RfRel w l m sv iv wr)
  case atStart => exact ⟨0, rfl, Nat.le_refl _, Nat.zero_le _, Below.refl _ _, World.ownsRow_nil _ _ _ _⟩
  case round =>
    obtain ⟨j, rfl, hm, hj, hb, ho⟩ := hrel
    have HM := Lib.hid hm
    have B := Lib.hid hb
    obtain ⟨so, sc, rfl⟩ := own_lenR ho
    clear hm
    by_cases hjl : j < l.length
    · obtain ⟨b, hbj⟩ : ∃ b, l[j]? = some b := ⟨_, List.getElem?_eq_getElem hjl⟩
      have hmem := List.mem_of_getElem? hbj
      have hal := (HO.out b hmem).1
      have HA := Lib.hid (HO.out b hmem).2
      have SN := Lib.hid (refsL_snoc hbj)
      have LE := Lib.hid (show (refsL (l.take j)).length + (refsB b).length ≤ 90000 from Nat.le_trans (flat_le refsB hbj) HR.out)
      obtain ⟨ao2, cap2, e2, hat⟩ := H.out
      simp at e2
      obtain ⟨rfl, rfl⟩ := e2
      obtain ⟨g, o, ato, atc, bo, bc, rfl, c0, c1, c2, c3, hra, -⟩ := hat j b hbj
      replace c0 := hold hb c0
      replace c1 := hold hb c1
      replace c2 := hold hb c2
      replace c3 := hold hb c3
      have HRA := Lib.hid hra
      have BA := Lib.hid (below_al hb (.cells #[.int .i64 b.kind, .string b.label, .slice ato b.attrs.length atc, .slice bo b.blocks.length bc] 28))
      have OA := Lib.hid (World.ownsRow.alloc ho (.cells #[.int .i64 b.kind, .string b.label, .slice ato b.attrs.length atc, .slice bo b.blocks.length bc] 28))
      have AA := Lib.hid (below_al (Below.refl wr.heap.size wr) (.cells #[.int .i64 b.kind, .string b.label, .slice ato b.attrs.length atc, .slice bo b.blocks.length bc] 28))
      clear hat hbj hmem ho hra hb
      by_cases k1 : b.kind = 1
      · have g1 : (b.kind == 1) = true := by simpa using k1
        have RB := Lib.hid (show refsB b = [] by unfold refsB; rw [if_pos k1])
        rw [RB.out, List.append_nil] at SN
        clear k1
        go_wp2_with fail
        go_roundg (l.length - (j + 1))
        case rel => exact ⟨j + 1, rfl, Nat.le_refl _, hjl, BA.out, by rw [SN.out]; exact OA.out⟩
        case measure => have := HM.out; omega
      · have g1 : (b.kind == 1) = false := by simpa using k1
        have RB := Lib.hid (show refsB b = refsA b.attrs by unfold refsB; rw [if_neg k1])
        rw [RB.out] at SN LE
        clear k1 AA
        generalize hacc : refsL (l.take j) = acc at *
        have HACC := Lib.hid hacc
        clear hacc
        go_wp2_with fail
        generalize wr.alloc (.cells #[.int .i64 b.kind, .string b.label, .slice ato b.attrs.length atc, .slice bo b.blocks.length bc] 28) = wa at *
        go_loopg [3, 20] b.attrs.length (fun m sv v wx => RfARel w acc b.attrs m sv v wx)
        case atStart => exact ⟨0, rfl, Nat.le_refl _, Nat.zero_le _, BA.out, by rw [List.take_zero]; show World.ownsRow _ _ _ _ _ (acc ++ []).length ((acc ++ []).map .string); rw [List.append_nil]; exact OA.out⟩
        case round =>
          obtain ⟨q, rfl, hm7, hq7, hb7, ho7⟩ := hrel
          have M7 := Lib.hid hm7
          have B7 := Lib.hid hb7
          obtain ⟨qo, qc, rfl⟩ := own_lenR ho7
          have O7 := Lib.hid ho7
          clear hm7
          by_cases hql : q < b.attrs.length
          · obtain ⟨a, haq⟩ : ∃ a, b.attrs[q]? = some a := ⟨_, List.getElem?_eq_getElem hql⟩
            obtain ⟨t1, t2, t3, t4⟩ := HA.out a (List.mem_of_getElem? haq)
            have TK := Lib.hid (show acc ++ refsA (b.attrs.take (q + 1)) = (acc ++ refsA (b.attrs.take q)) ++ refsG a.2 by rw [refsA_snoc haq, List.append_assoc])
            have LQ := Lib.hid (show (acc ++ refsA (b.attrs.take q)).length + (refsG a.2).length ≤ 90000 by
              have h1 := flat_le (fun a : ByteArray × List NodeL => refsG a.2) haq
              have h2 := LE.out
              rw [List.length_append]
              unfold refsA at h2 ⊢
              omega)
            obtain ⟨aao, acap, e3, hata⟩ := HRA.out.below B7.out
            simp at e3
            obtain ⟨rfl, rfl⟩ := e3
            obtain ⟨ga, oa, no, nc, rfl, d0, d1, hnr⟩ := hata q a haq
            have B8 := Lib.hid (below_al B7.out (.cells #[.string a.1, .slice no a.2.length nc] 38))
            have O8 := Lib.hid (World.ownsRow.alloc ho7 (.cells #[.string a.1, .slice no a.2.length nc] 38))
            have PO := Lib.hid (pOfG (wr.alloc (.cells #[.string a.1, .slice no a.2.length nc] 38)) _ a.2 (hnr.below (below_al (Below.refl wr.heap.size wr) _)) t1 t3 t2 t4 (V.out.below B8.out V.out.lt))
            clear hata haq hnr t1 t2 t3 t4 ho7 hb7
            generalize hrq : acc ++ refsA (b.attrs.take q) = rq at *
            go_wp2_with fail
            refine PO.out.mono ?_
            rintro e w2 ⟨v, rfl, hv2, hb2⟩
            obtain ⟨vo, vc, rfl, hst⟩ := hv2
            obtain ⟨-, S1, S2⟩ := strs_src ⟨vo, vc, rfl, hst⟩
            have O2 := Lib.hid (own_below O8.out hb2)
            have B2 := Lib.hid (B8.out.trans (hb2.mono B8.out.size))
            have s1 := Lib.hid S1
            have s2 := Lib.hid S2
            have hbs : w.heap.size ≤ w2.heap.size := B2.out.size
            have hsm : rq.length + (refsG a.2).length ≤ maxLen ∧ (rq.length + (refsG a.2).length) * 16 ≤ 140737488355328 := by have := LQ.out; unfold maxLen; omega
            clear hst hb2 S1 S2 PO
            generalize hrs : refsG a.2 = rs at *
            go_wp2_with (at_builtin; refine wpList_append_any _ rfl _ _ 50 rfl w.heap.size 9 i0 _ 1 16 Tryz.underlying50 hi0 hz0 hz1 hz2 rfl (by decide) (.slice qo rq.length qc) rq.length (rq.map .string) rfl O2.out vo rs.length vc (rs.map .string) rfl (by simp) s1.out s2.out (by intro u hu; obtain ⟨x, -, rfl⟩ := List.mem_map.1 hu; rfl) hsm.1 hsm.2 hbs ?_)
            intro v9 w9 hown hgrow
            have hr9 : ∀ k, (Value.slice qo rq.length qc).ownBlock = some k → w.heap.size ≤ k := fun k hk => (World.ownsRow.lt O2.out k hk).1
            have B9 := Lib.hid (below_grown' B2.out hgrow hr9)
            have O9 := Lib.hid (show w9.ownsRow w.heap.size 9 1 v9 (acc ++ refsA (b.attrs.take (q + 1))).length ((acc ++ refsA (b.attrs.take (q + 1))).map .string) by
              rw [TK.out, List.length_append, List.map_append]; exact hown)
            clear hown hgrow hsm
            go_wp2_with fail
            go_roundg (b.attrs.length - (q + 1))
            case rel => exact ⟨q + 1, rfl, Nat.le_refl _, hql, B9.out, O9.out⟩
            case measure => have := M7.out; omega
          · obtain rfl : q = b.attrs.length := by omega
            have O9 := Lib.hid (show wr.ownsRow w.heap.size 9 1 (.slice qo (acc ++ refsA (b.attrs.take b.attrs.length)).length qc) (refsL (l.take (j + 1))).length ((refsL (l.take (j + 1))).map .string) by
              rw [SN.out]
              have := O7.out
              rw [List.take_length] at this ⊢
              exact this)
            clear ho7
            go_wp2_with fail
            go_roundg (l.length - (j + 1))
            case rel => exact ⟨j + 1, rfl, Nat.le_refl _, hjl, B7.out, O9.out⟩
            case measure => have := HM.out; omega
    · obtain rfl : j = l.length := by omega
      rw [List.take_length] at ho
      have OW := Lib.hid ho
      rw [List.take_length]
      clear ho hb
      go_wp2_with fail
      go_ret
      exact ⟨_, rfl, OW.out, B.out⟩
end
end Go.Proofs.YtlkdicabmikhkaaGreatDoor
