/- The law of circles. -/
import Derived.Test.YtdaphajnioiakaaGreatDoorRcN
import Derived.Test.YtdaphajnioiakaaGreatDoorRfF
namespace Go.Proofs.YtdaphajnioiakaaGreatDoor
open Go.RowKit
set_option linter.unusedVariables false
set_option linter.unusedSimpArgs false
theorem info_attr : (Tryz.prog.info? 36).map (fun i => (i.zero, i.size, i.bytes)) = some (some (.agg #[.string ⟨#[]⟩, .slice none 0 0]), 2, 40) := by kernel_rfl
def AttrRow (w : World) : List (ByteArray × List NodeL) → List Value → Prop
  | [], xs => xs = []
  | a :: al, xs => ∃ g n rest, xs = .string a.1 :: .slice (some ⟨g, 0, none⟩) 1 1 :: rest ∧ a.2 = [n] ∧ NodeAt w g n ∧ AttrRow w al rest
theorem AttrRow.snoc {w : World} {s : ByteArray} {n : NodeL} {g : Nat} (hn : NodeAt w g n) : ∀ {al : List (ByteArray × List NodeL)} {xs : List Value}, AttrRow w al xs → AttrRow w (al ++ [(s, [n])]) (xs ++ [.string s, .slice (some ⟨g, 0, none⟩) 1 1]) := by
  intro al
  induction al with
  | nil => intro xs h; obtain rfl : xs = [] := h; exact ⟨g, n, [], rfl, rfl, hn, rfl⟩
  | cons a al ih => intro xs h; obtain ⟨g', n', rest, rfl, h2, h3, h4⟩ := h; exact ⟨g', n', rest ++ [.string s, .slice (some ⟨g, 0, none⟩) 1 1], rfl, h2, h3, ih h4⟩
theorem AttrRow.move {w w' : World} (hm : ∀ g n, NodeAt w g n → w'.heap[g]? = w.heap[g]?) : ∀ {al : List (ByteArray × List NodeL)} {xs : List Value}, AttrRow w al xs → AttrRow w' al xs := by
  intro al
  induction al with
  | nil => intro xs h; exact h
  | cons a al ih => intro xs h; obtain ⟨g', n', rest, rfl, h2, h3, h4⟩ := h; exact ⟨g', n', rest, rfl, h2, ⟨h3.1, h3.2.1, (hm _ _ h3).trans h3.2.2⟩, ih h4⟩
theorem AttrRow.get {w : World} : ∀ {al : List (ByteArray × List NodeL)} {xs : List Value}, AttrRow w al xs → ∀ {i : Nat} {a : ByteArray × List NodeL}, al[i]? = some a → ∃ g n, xs[i * 2]? = some (.string a.1) ∧ xs[i * 2 + 1]? = some (.slice (some ⟨g, 0, none⟩) 1 1) ∧ a.2 = [n] ∧ NodeAt w g n := by
  intro al
  induction al with
  | nil => intro xs h i a hi; simp at hi
  | cons b al ih =>
    intro xs h i a hi
    obtain ⟨g', n', rest, rfl, h2, h3, h4⟩ := h
    cases i with
    | zero => simp at hi; subst hi; exact ⟨g', n', rfl, rfl, h2, h3⟩
    | succ i =>
      obtain ⟨g, n, q1, q2, q3, q4⟩ := ih h4 (by simpa using hi)
      refine ⟨g, n, ?_, ?_, q3, q4⟩
      · rw [← q1, show (i + 1) * 2 = (i * 2 + 1) + 1 by omega]; rfl
      · rw [← q2, show (i + 1) * 2 + 1 = (i * 2 + 1 + 1) + 1 by omega]; rfl
/-- Attributes of a list of one's own. -/
def AttrsB (w : World) (B : Nat) (lv : Value) (al : List (ByteArray × List NodeL)) : Prop := ∃ xs, w.ownsRow B 36 2 lv al.length xs ∧ AttrRow w al xs
theorem AttrsB.below {w w' : World} {B : Nat} {lv : Value} {al : List (ByteArray × List NodeL)} (h : AttrsB w B lv al) (hb : Below w.heap.size w w') : AttrsB w' B lv al := by
  obtain ⟨xs, h1, h2⟩ := h
  exact ⟨xs, own_below h1 hb, h2.move (fun g n hn => hb.block g (Array.getElem?_eq_some_iff.1 hn.2.2).1)⟩
theorem AttrsB.app {w w1 : World} {B : Nat} {lv lv' : Value} {al : List (ByteArray × List NodeL)} {xs : List Value} {s : ByteArray} {n : NodeL} {g : Nat} (h1 : w.ownsRow B 36 2 lv al.length xs) (h2 : AttrRow w al xs) (hn : NodeAt w g n) (hg : w.grownBy w1 lv.ownBlock)
    (ho : w1.ownsRow B 36 2 lv' (al.length + 1) (xs ++ [.string s, .slice (some ⟨g, 0, none⟩) 1 1])) : AttrsB w1 B lv' (al ++ [(s, [n])]) := by
  have mv : ∀ g n, NodeAt w g n → w1.heap[g]? = w.heap[g]? := fun g n hn => hg.block g (Array.getElem?_eq_some_iff.1 hn.2.2).1 (fun e => by
    obtain ⟨-, c, hc⟩ := own_type h1 e.symm
    exact type_ne hc hn.2.2 (by decide) rfl)
  refine ⟨_, by rw [List.length_append]; exact ho, AttrRow.snoc ⟨hn.1, hn.2.1, (mv _ _ hn).trans hn.2.2⟩ (h2.move mv)⟩
theorem AttrsB.rd {w : World} {B : Nat} {lv : Value} {al : List (ByteArray × List NodeL)} (h : AttrsB w B lv al) : AttrsRd w lv al := by
  obtain ⟨xs, h1, h2⟩ := h
  rcases h1.2 with ⟨rfl, h0⟩ | ⟨g, cap, cur, rfl, hB, hg, r⟩
  · obtain rfl : al = [] := List.eq_nil_of_length_eq_zero h0
    exact ⟨none, 0, rfl, fun i a hi => by simp at hi⟩
  · refine ⟨some ⟨g, 0, none⟩, cap, rfl, fun i a hi => ?_⟩
    obtain ⟨g', n, q1, q2, q3, q4⟩ := h2.get hi
    have hlt := (List.getElem?_eq_some_iff.1 hi).1
    refine ⟨g, 0, some ⟨g', 0, none⟩, 1, rfl, ?_, ?_, ?_⟩
    · rw [Nat.zero_add, World.ownsRow.cellAt h1 (i * 2) (by omega)]; exact q1
    · rw [Nat.zero_add, q3, World.ownsRow.cellAt h1 (i * 2 + 1) (by omega)]; exact q2
    · rw [q3]; exact q4.rd
theorem attrsA_take {k h j : Nat} (hj : j < k) : (attrsA k h).take (j + 1) = (attrsA k h).take j ++ [(nameA j, [nodeA k h j])] := take_snocR (attrsA_get hj)
theorem five_new (w : World) (X0 X1 X2 X3 X4 : Obj) : (((((w.alloc X0).alloc X1).alloc X2).alloc X3).alloc X4).heap[w.heap.size]? = some X0 ∧ (((((w.alloc X0).alloc X1).alloc X2).alloc X3).alloc X4).heap[w.heap.size + 1]? = some X1 ∧ (((((w.alloc X0).alloc X1).alloc X2).alloc X3).alloc X4).heap[w.heap.size + 1 + 1]? = some X2 ∧
    (((((w.alloc X0).alloc X1).alloc X2).alloc X3).alloc X4).heap[w.heap.size + 1 + 1 + 1]? = some X3 ∧ (((((w.alloc X0).alloc X1).alloc X2).alloc X3).alloc X4).heap[w.heap.size + 1 + 1 + 1 + 1]? = some X4 := by
  obtain ⟨a0, a1, a2⟩ := three_new w X0 X1 X2
  obtain ⟨b0, b1, b2⟩ := three_new ((w.alloc X0).alloc X1) X2 X3 X4
  have s2 : ((w.alloc X0).alloc X1).heap.size = w.heap.size + 1 + 1 := by simp
  have s3 : (((w.alloc X0).alloc X1).alloc X2).heap.size = w.heap.size + 1 + 1 + 1 := by simp
  rw [s2] at b0 b1 b2
  have k := below_al (below_al (Below.refl _ (((w.alloc X0).alloc X1).alloc X2)) X3) X4
  exact ⟨(k.block _ (by omega)).trans a0, (k.block _ (by omega)).trans a1, b0, b1, b2⟩
def CirRel (w : World) (K h : Nat) (m : Nat) (lv iv : Value) (wr : World) : Prop := ∃ j : Nat, iv = .int .i64 j ∧ K - j ≤ m ∧ j ≤ K ∧ AttrsB wr w.heap.size lv ((attrsA K h).take j) ∧ Below w.heap.size w wr
section
variable (w : World)
set_option maxHeartbeats 4000000 in
set_option maxRecDepth 20000 in
theorem law_circle (n h : Nat) (hn : n < 256) (hh : h < 256) (hv : ErrVar w) : Calls Tryz.prog 4 #[.int .u8 n, .int .u8 h] w (Made (.bool true) w) := by
  obtain ⟨i0, hi0, hz0, hz1, hz2⟩ := info_parts info_attr
  have V := Lib.hid hv
  clear hv
  go_enter Tryz.func4, Tryz.ntmps4
  go_wp2_with fail
  obtain ⟨K, hK⟩ : ∃ K : Nat, K = 2 + n % 12 := ⟨_, rfl⟩
  rw [show (2 + (n : Int) % 12) = (K : Int) by omega]
  have hK2 : 2 ≤ K ∧ K < 14 := by omega
  clear hK
  obtain ⟨r, hr⟩ : ∃ r, r = h % 3 := ⟨_, rfl⟩
  have hr3 : r < 3 := by omega
  have hmod : (h : Int) % 3 = (r : Int) := by omega
  clear hr
  go_loopg [6, 7] K (fun m lv iv wr => CirRel w K r m lv iv wr)
  case atStart => exact ⟨0, rfl, Nat.le_refl _, Nat.zero_le _, ⟨[], World.ownsRow_nil _ _ _ _, rfl⟩, Below.refl _ _⟩
  case round =>
    obtain ⟨j, rfl, hm, hj, ha, hb⟩ := hrel
    have HM := Lib.hid hm
    have HA := Lib.hid ha
    have BB := Lib.hid hb
    clear hm ha hb
    by_cases hjl : j < K
    · have D1 : ∀ W, Calls Tryz.prog 11 #[.int .i64 ((j : Int) + 1)] W (Made (.string ⟨(dec2 (j + 1)).toArray⟩) W) := fun W => by
        have := rdigs_pos W (j + 1) (by omega)
        rw [dec2_eq (by omega)] at this
        exact this
      have D0 : ∀ W, Calls Tryz.prog 11 #[.int .i64 (j : Int)] W (Made (.string ⟨(dec2 j).toArray⟩) W) := fun W => by
        have := rdigs_pos W j (by omega)
        rw [dec2_eq (by omega)] at this
        exact this
      have D1h := Lib.hid D1
      have D0h := Lib.hid D0
      clear D1 D0
      go_wp2_with fail
      refine (D1h.out _).mono ?_
      rintro e w1 ⟨rfl, hb1⟩
      have A1 := Lib.hid (HA.out.below hb1)
      have B1 := Lib.hid (BB.out.trans (hb1.mono BB.out.size))
      clear hb1
      have hd1 : (⟨(dec2 (j + 1)).toArray⟩ : ByteArray).size ≤ 2 := by
        show (dec2 (j + 1)).toArray.size ≤ 2
        rw [List.size_toArray]; unfold dec2; split <;> simp
      have hd0 : (⟨(dec2 j).toArray⟩ : ByteArray).size ≤ 2 := by
        show (dec2 j).toArray.size ≤ 2
        rw [List.size_toArray]; unfold dec2; split <;> simp
      have E1 := Lib.hid (show (⟨#[108, 111, 99, 97, 108, 46, 97]⟩ : ByteArray) ++ ⟨(dec2 (j + 1)).toArray⟩ = locA (j + 1) from rfl)
      have E0 := Lib.hid (show (⟨#[97]⟩ : ByteArray) ++ ⟨(dec2 j).toArray⟩ = nameA j from rfl)
      generalize (⟨(dec2 (j + 1)).toArray⟩ : ByteArray) = d1 at *
      generalize (⟨(dec2 j).toArray⟩ : ByteArray) = d0 at *
      have hs1 : (⟨#[108, 111, 99, 97, 108, 46, 97]⟩ : ByteArray).size = 7 := rfl
      have hs0 : (⟨#[97]⟩ : ByteArray).size = 1 := rfl
      have hss : 7 + d1.size ≤ 9223372036854775807 := by omega
      by_cases hjk : j + 1 = K
      · have gq : ((j : Int) == (K : Int) - 1) = true := by simp; omega
        have EN := Lib.hid (show nodeA K r j = lastN r by unfold nodeA; rw [if_pos hjk])
        have hjk' := Lib.hid hjk
        clear hjk
        have hr012 : r = 0 ∨ r = 1 ∨ r = 2 := by omega
        rcases hr012 with rfl | rfl | rfl
        · go_wp2_with fail
          rw [E1.out]
          obtain ⟨z0, z1, z2, z3, z4⟩ := five_new w1 (.cells #[.int .i64 4, .int .i64 0, .string (locA (j + 1)), .slice none 0 0, .slice none 0 0] 41) (.cells #[.int .i64 1, .int .i64 0, .string ⟨#[]⟩, .slice none 0 0, .slice none 0 0] 41) (.cells #[.int .i64 4, .int .i64 0, .string ⟨#[108, 111, 99, 97, 108, 46, 97, 48]⟩, .slice none 0 0, .slice none 0 0] 41) (.cells #[.int .i64 4, .int .i64 0, .string ⟨#[108, 111, 99, 97, 108, 46, 110, 111, 110, 101]⟩, .slice none 0 0, .slice none 0 0] 41) (.cells #[.slice (some ⟨w1.heap.size + 1, 0, none⟩) 1 1, .slice (some ⟨w1.heap.size + 1 + 1, 0, none⟩) 1 1, .slice (some ⟨w1.heap.size + 1 + 1 + 1, 0, none⟩) 1 1] 34)
          have BZ := Lib.hid (below_al (below_al (below_al (below_al (below_al (Below.refl w1.heap.size w1) (.cells #[.int .i64 4, .int .i64 0, .string (locA (j + 1)), .slice none 0 0, .slice none 0 0] 41)) (.cells #[.int .i64 1, .int .i64 0, .string ⟨#[]⟩, .slice none 0 0, .slice none 0 0] 41)) (.cells #[.int .i64 4, .int .i64 0, .string ⟨#[108, 111, 99, 97, 108, 46, 97, 48]⟩, .slice none 0 0, .slice none 0 0] 41)) (.cells #[.int .i64 4, .int .i64 0, .string ⟨#[108, 111, 99, 97, 108, 46, 110, 111, 110, 101]⟩, .slice none 0 0, .slice none 0 0] 41)) (.cells #[.slice (some ⟨w1.heap.size + 1, 0, none⟩) 1 1, .slice (some ⟨w1.heap.size + 1 + 1, 0, none⟩) 1 1, .slice (some ⟨w1.heap.size + 1 + 1 + 1, 0, none⟩) 1 1] 34))
          have NX := Lib.hid (show NodeAt _ (w1.heap.size + 1) (nodeA K 0 j) from by rw [EN.out]; exact ⟨rfl, rfl, z1⟩)
          have AX := Lib.hid (A1.out.below BZ.out)
          have BX := Lib.hid (B1.out.trans (BZ.out.mono B1.out.size))
          clear z0 z1 z2 z3 z4 BZ
          refine (D0h.out _).mono ?_
          rintro e w2 ⟨rfl, hb2⟩
          have A2 := Lib.hid (AX.out.below hb2)
          have N2 := Lib.hid (show NodeAt w2 (w1.heap.size + 1) (nodeA K 0 j) from ⟨NX.out.1, NX.out.2.1, (hb2.block _ (Array.getElem?_eq_some_iff.1 NX.out.2.2).1).trans NX.out.2.2⟩)
          have B2 := Lib.hid (BX.out.trans (hb2.mono BX.out.size))
          clear hb2
          obtain ⟨xs, ho2, hr2⟩ := A2.out
          have HO := Lib.hid ho2
          have HR := Lib.hid hr2
          have hlt : ((attrsA K 0).take j).length ≤ 100 := by rw [List.length_take]; omega
          have TK := Lib.hid (attrsA_take (h := 0) hjl)
          obtain ⟨lo, lc, rfl⟩ := own_lenR ho2
          clear ho2 hr2 AX NX BX HA A1 A2
          generalize (attrsA K 0).take j = al at *
          generalize hml : al.length = ml at *
          have HML := Lib.hid hml
          clear hml
          go_wp2_with (at_builtin; refine wpList_append_lies _ rfl _ _ 24 rfl w.heap.size 36 i0 _ 2 40 Tryz.underlying24 hi0 hz0 hz1 hz2 rfl (by decide) (.slice lo ml lc) ml xs rfl (World.ownsRow.alloc HO.out _) ⟨w2.heap.size, 0, none⟩ 1 1 [.string (⟨#[97]⟩ ++ d0), .slice (some ⟨w1.heap.size + 1, 0, none⟩) 1 1] rfl rfl (by exact news_new w2 #[.string (⟨#[97]⟩ ++ d0), .slice (some ⟨w1.heap.size + 1, 0, none⟩) 1 1] 36) (by simp [Value.oneCell']) (by decide) (by unfold maxLen; omega) (by omega) (by have := B2.out.size; simp; omega) (w2.heap.size + 1) (by simp) ?_; intro g5 c5 w5 hown5 hgrow5 hat5 hlt5)
          have A5 := Lib.hid (show AttrsB w5 w.heap.size (.slice (some ⟨g5, 0, none⟩) (ml + 1) c5) ((attrsA K 0).take (j + 1)) by
            rw [TK.out, ← E0.out]
            obtain rfl := HML.out
            exact AttrsB.app HO.out HR.out N2.out (grown_trans (World.grownBy_alloc w2 _ _) hgrow5) hown5)
          have B5 := Lib.hid (Below.grown B2.out (grown_trans (World.grownBy_alloc w2 _ _) hgrow5) B2.out.size (fun k hk => (World.ownsRow.lt HO.out k hk).1))
          clear hown5 hgrow5 hat5 hlt5
          go_roundg (K - (j + 1))
          case rel => exact ⟨j + 1, rfl, Nat.le_refl _, hjl, A5.out, B5.out⟩
          case measure => have := HM.out; omega
        · go_wp2_with fail
          rw [E1.out]
          obtain ⟨z0, z1, z2, z3, z4⟩ := five_new w1 (.cells #[.int .i64 4, .int .i64 0, .string (locA (j + 1)), .slice none 0 0, .slice none 0 0] 41) (.cells #[.int .i64 1, .int .i64 0, .string ⟨#[]⟩, .slice none 0 0, .slice none 0 0] 41) (.cells #[.int .i64 4, .int .i64 0, .string ⟨#[108, 111, 99, 97, 108, 46, 97, 48]⟩, .slice none 0 0, .slice none 0 0] 41) (.cells #[.int .i64 4, .int .i64 0, .string ⟨#[108, 111, 99, 97, 108, 46, 110, 111, 110, 101]⟩, .slice none 0 0, .slice none 0 0] 41) (.cells #[.slice (some ⟨w1.heap.size + 1, 0, none⟩) 1 1, .slice (some ⟨w1.heap.size + 1 + 1, 0, none⟩) 1 1, .slice (some ⟨w1.heap.size + 1 + 1 + 1, 0, none⟩) 1 1] 34)
          have BZ := Lib.hid (below_al (below_al (below_al (below_al (below_al (Below.refl w1.heap.size w1) (.cells #[.int .i64 4, .int .i64 0, .string (locA (j + 1)), .slice none 0 0, .slice none 0 0] 41)) (.cells #[.int .i64 1, .int .i64 0, .string ⟨#[]⟩, .slice none 0 0, .slice none 0 0] 41)) (.cells #[.int .i64 4, .int .i64 0, .string ⟨#[108, 111, 99, 97, 108, 46, 97, 48]⟩, .slice none 0 0, .slice none 0 0] 41)) (.cells #[.int .i64 4, .int .i64 0, .string ⟨#[108, 111, 99, 97, 108, 46, 110, 111, 110, 101]⟩, .slice none 0 0, .slice none 0 0] 41)) (.cells #[.slice (some ⟨w1.heap.size + 1, 0, none⟩) 1 1, .slice (some ⟨w1.heap.size + 1 + 1, 0, none⟩) 1 1, .slice (some ⟨w1.heap.size + 1 + 1 + 1, 0, none⟩) 1 1] 34))
          have NX := Lib.hid (show NodeAt _ (w1.heap.size + 1 + 1) (nodeA K 1 j) from by rw [EN.out]; exact ⟨rfl, rfl, z2⟩)
          have AX := Lib.hid (A1.out.below BZ.out)
          have BX := Lib.hid (B1.out.trans (BZ.out.mono B1.out.size))
          clear z0 z1 z2 z3 z4 BZ
          refine (D0h.out _).mono ?_
          rintro e w2 ⟨rfl, hb2⟩
          have A2 := Lib.hid (AX.out.below hb2)
          have N2 := Lib.hid (show NodeAt w2 (w1.heap.size + 1 + 1) (nodeA K 1 j) from ⟨NX.out.1, NX.out.2.1, (hb2.block _ (Array.getElem?_eq_some_iff.1 NX.out.2.2).1).trans NX.out.2.2⟩)
          have B2 := Lib.hid (BX.out.trans (hb2.mono BX.out.size))
          clear hb2
          obtain ⟨xs, ho2, hr2⟩ := A2.out
          have HO := Lib.hid ho2
          have HR := Lib.hid hr2
          have hlt : ((attrsA K 1).take j).length ≤ 100 := by rw [List.length_take]; omega
          have TK := Lib.hid (attrsA_take (h := 1) hjl)
          obtain ⟨lo, lc, rfl⟩ := own_lenR ho2
          clear ho2 hr2 AX NX BX HA A1 A2
          generalize (attrsA K 1).take j = al at *
          generalize hml : al.length = ml at *
          have HML := Lib.hid hml
          clear hml
          go_wp2_with (at_builtin; refine wpList_append_lies _ rfl _ _ 24 rfl w.heap.size 36 i0 _ 2 40 Tryz.underlying24 hi0 hz0 hz1 hz2 rfl (by decide) (.slice lo ml lc) ml xs rfl (World.ownsRow.alloc HO.out _) ⟨w2.heap.size, 0, none⟩ 1 1 [.string (⟨#[97]⟩ ++ d0), .slice (some ⟨w1.heap.size + 1 + 1, 0, none⟩) 1 1] rfl rfl (by exact news_new w2 #[.string (⟨#[97]⟩ ++ d0), .slice (some ⟨w1.heap.size + 1 + 1, 0, none⟩) 1 1] 36) (by simp [Value.oneCell']) (by decide) (by unfold maxLen; omega) (by omega) (by have := B2.out.size; simp; omega) (w2.heap.size + 1) (by simp) ?_; intro g5 c5 w5 hown5 hgrow5 hat5 hlt5)
          have A5 := Lib.hid (show AttrsB w5 w.heap.size (.slice (some ⟨g5, 0, none⟩) (ml + 1) c5) ((attrsA K 1).take (j + 1)) by
            rw [TK.out, ← E0.out]
            obtain rfl := HML.out
            exact AttrsB.app HO.out HR.out N2.out (grown_trans (World.grownBy_alloc w2 _ _) hgrow5) hown5)
          have B5 := Lib.hid (Below.grown B2.out (grown_trans (World.grownBy_alloc w2 _ _) hgrow5) B2.out.size (fun k hk => (World.ownsRow.lt HO.out k hk).1))
          clear hown5 hgrow5 hat5 hlt5
          go_roundg (K - (j + 1))
          case rel => exact ⟨j + 1, rfl, Nat.le_refl _, hjl, A5.out, B5.out⟩
          case measure => have := HM.out; omega
        · go_wp2_with fail
          rw [E1.out]
          obtain ⟨z0, z1, z2, z3, z4⟩ := five_new w1 (.cells #[.int .i64 4, .int .i64 0, .string (locA (j + 1)), .slice none 0 0, .slice none 0 0] 41) (.cells #[.int .i64 1, .int .i64 0, .string ⟨#[]⟩, .slice none 0 0, .slice none 0 0] 41) (.cells #[.int .i64 4, .int .i64 0, .string ⟨#[108, 111, 99, 97, 108, 46, 97, 48]⟩, .slice none 0 0, .slice none 0 0] 41) (.cells #[.int .i64 4, .int .i64 0, .string ⟨#[108, 111, 99, 97, 108, 46, 110, 111, 110, 101]⟩, .slice none 0 0, .slice none 0 0] 41) (.cells #[.slice (some ⟨w1.heap.size + 1, 0, none⟩) 1 1, .slice (some ⟨w1.heap.size + 1 + 1, 0, none⟩) 1 1, .slice (some ⟨w1.heap.size + 1 + 1 + 1, 0, none⟩) 1 1] 34)
          have BZ := Lib.hid (below_al (below_al (below_al (below_al (below_al (Below.refl w1.heap.size w1) (.cells #[.int .i64 4, .int .i64 0, .string (locA (j + 1)), .slice none 0 0, .slice none 0 0] 41)) (.cells #[.int .i64 1, .int .i64 0, .string ⟨#[]⟩, .slice none 0 0, .slice none 0 0] 41)) (.cells #[.int .i64 4, .int .i64 0, .string ⟨#[108, 111, 99, 97, 108, 46, 97, 48]⟩, .slice none 0 0, .slice none 0 0] 41)) (.cells #[.int .i64 4, .int .i64 0, .string ⟨#[108, 111, 99, 97, 108, 46, 110, 111, 110, 101]⟩, .slice none 0 0, .slice none 0 0] 41)) (.cells #[.slice (some ⟨w1.heap.size + 1, 0, none⟩) 1 1, .slice (some ⟨w1.heap.size + 1 + 1, 0, none⟩) 1 1, .slice (some ⟨w1.heap.size + 1 + 1 + 1, 0, none⟩) 1 1] 34))
          have NX := Lib.hid (show NodeAt _ (w1.heap.size + 1 + 1 + 1) (nodeA K 2 j) from by rw [EN.out]; exact ⟨rfl, rfl, z3⟩)
          have AX := Lib.hid (A1.out.below BZ.out)
          have BX := Lib.hid (B1.out.trans (BZ.out.mono B1.out.size))
          clear z0 z1 z2 z3 z4 BZ
          refine (D0h.out _).mono ?_
          rintro e w2 ⟨rfl, hb2⟩
          have A2 := Lib.hid (AX.out.below hb2)
          have N2 := Lib.hid (show NodeAt w2 (w1.heap.size + 1 + 1 + 1) (nodeA K 2 j) from ⟨NX.out.1, NX.out.2.1, (hb2.block _ (Array.getElem?_eq_some_iff.1 NX.out.2.2).1).trans NX.out.2.2⟩)
          have B2 := Lib.hid (BX.out.trans (hb2.mono BX.out.size))
          clear hb2
          obtain ⟨xs, ho2, hr2⟩ := A2.out
          have HO := Lib.hid ho2
          have HR := Lib.hid hr2
          have hlt : ((attrsA K 2).take j).length ≤ 100 := by rw [List.length_take]; omega
          have TK := Lib.hid (attrsA_take (h := 2) hjl)
          obtain ⟨lo, lc, rfl⟩ := own_lenR ho2
          clear ho2 hr2 AX NX BX HA A1 A2
          generalize (attrsA K 2).take j = al at *
          generalize hml : al.length = ml at *
          have HML := Lib.hid hml
          clear hml
          go_wp2_with (at_builtin; refine wpList_append_lies _ rfl _ _ 24 rfl w.heap.size 36 i0 _ 2 40 Tryz.underlying24 hi0 hz0 hz1 hz2 rfl (by decide) (.slice lo ml lc) ml xs rfl (World.ownsRow.alloc HO.out _) ⟨w2.heap.size, 0, none⟩ 1 1 [.string (⟨#[97]⟩ ++ d0), .slice (some ⟨w1.heap.size + 1 + 1 + 1, 0, none⟩) 1 1] rfl rfl (by exact news_new w2 #[.string (⟨#[97]⟩ ++ d0), .slice (some ⟨w1.heap.size + 1 + 1 + 1, 0, none⟩) 1 1] 36) (by simp [Value.oneCell']) (by decide) (by unfold maxLen; omega) (by omega) (by have := B2.out.size; simp; omega) (w2.heap.size + 1) (by simp) ?_; intro g5 c5 w5 hown5 hgrow5 hat5 hlt5)
          have A5 := Lib.hid (show AttrsB w5 w.heap.size (.slice (some ⟨g5, 0, none⟩) (ml + 1) c5) ((attrsA K 2).take (j + 1)) by
            rw [TK.out, ← E0.out]
            obtain rfl := HML.out
            exact AttrsB.app HO.out HR.out N2.out (grown_trans (World.grownBy_alloc w2 _ _) hgrow5) hown5)
          have B5 := Lib.hid (Below.grown B2.out (grown_trans (World.grownBy_alloc w2 _ _) hgrow5) B2.out.size (fun k hk => (World.ownsRow.lt HO.out k hk).1))
          clear hown5 hgrow5 hat5 hlt5
          go_roundg (K - (j + 1))
          case rel => exact ⟨j + 1, rfl, Nat.le_refl _, hjl, A5.out, B5.out⟩
          case measure => have := HM.out; omega
      · have gq : ((j : Int) == (K : Int) - 1) = false := by simp; omega
        have EN := Lib.hid (show nodeA K r j = refOne (locA (j + 1)) by unfold nodeA; rw [if_neg hjk])
        clear hjk
        go_wp2_with fail
        rw [E1.out]
        have BZ := Lib.hid (below_al (Below.refl w1.heap.size w1) (.cells #[.int .i64 4, .int .i64 0, .string (locA (j + 1)), .slice none 0 0, .slice none 0 0] 41))
        have NX := Lib.hid (show NodeAt (w1.alloc (.cells #[.int .i64 4, .int .i64 0, .string (locA (j + 1)), .slice none 0 0, .slice none 0 0] 41)) w1.heap.size (nodeA K r j) from by rw [EN.out]; exact ⟨rfl, rfl, heap_alloc_new w1 _⟩)
        have AX := Lib.hid (A1.out.below BZ.out)
        have BX := Lib.hid (B1.out.trans (BZ.out.mono B1.out.size))
        clear BZ
        refine (D0h.out _).mono ?_
        rintro e w2 ⟨rfl, hb2⟩
        have A2 := Lib.hid (AX.out.below hb2)
        have N2 := Lib.hid (show NodeAt w2 (w1.heap.size) (nodeA K r j) from ⟨NX.out.1, NX.out.2.1, (hb2.block _ (Array.getElem?_eq_some_iff.1 NX.out.2.2).1).trans NX.out.2.2⟩)
        have B2 := Lib.hid (BX.out.trans (hb2.mono BX.out.size))
        clear hb2
        obtain ⟨xs, ho2, hr2⟩ := A2.out
        have HO := Lib.hid ho2
        have HR := Lib.hid hr2
        have hlt : ((attrsA K r).take j).length ≤ 100 := by rw [List.length_take]; omega
        have TK := Lib.hid (attrsA_take (h := r) hjl)
        obtain ⟨lo, lc, rfl⟩ := own_lenR ho2
        clear ho2 hr2 AX NX BX HA A1 A2
        generalize (attrsA K r).take j = al at *
        generalize hml : al.length = ml at *
        have HML := Lib.hid hml
        clear hml
        go_wp2_with (at_builtin; refine wpList_append_lies _ rfl _ _ 24 rfl w.heap.size 36 i0 _ 2 40 Tryz.underlying24 hi0 hz0 hz1 hz2 rfl (by decide) (.slice lo ml lc) ml xs rfl (World.ownsRow.alloc HO.out _) ⟨w2.heap.size, 0, none⟩ 1 1 [.string (⟨#[97]⟩ ++ d0), .slice (some ⟨w1.heap.size, 0, none⟩) 1 1] rfl rfl (by exact news_new w2 #[.string (⟨#[97]⟩ ++ d0), .slice (some ⟨w1.heap.size, 0, none⟩) 1 1] 36) (by simp [Value.oneCell']) (by decide) (by unfold maxLen; omega) (by omega) (by have := B2.out.size; simp; omega) (w2.heap.size + 1) (by simp) ?_; intro g5 c5 w5 hown5 hgrow5 hat5 hlt5)
        have A5 := Lib.hid (show AttrsB w5 w.heap.size (.slice (some ⟨g5, 0, none⟩) (ml + 1) c5) ((attrsA K r).take (j + 1)) by
          rw [TK.out, ← E0.out]
          obtain rfl := HML.out
          exact AttrsB.app HO.out HR.out N2.out (grown_trans (World.grownBy_alloc w2 _ _) hgrow5) hown5)
        have B5 := Lib.hid (Below.grown B2.out (grown_trans (World.grownBy_alloc w2 _ _) hgrow5) B2.out.size (fun k hk => (World.ownsRow.lt HO.out k hk).1))
        clear hown5 hgrow5 hat5 hlt5
        go_roundg (K - (j + 1))
        case rel => exact ⟨j + 1, rfl, Nat.le_refl _, hjl, A5.out, B5.out⟩
        case measure => have := HM.out; omega
    · have hz : j = K := by omega
      subst hz
      have AF := Lib.hid (show AttrsB wr w.heap.size u6 (attrsA j r) from by have := HA.out; rwa [List.take_of_length_le (by rw [attrsA_len]; exact Nat.le_refl _)] at this)
      obtain ⟨rr, out, e1, e2, e3, e4, e5⟩ := circle_row hK2.1 hK2.2 hr3
      have NO := Lib.hid (chk_at hK2.1 hK2.2 hr3).2
      have C := Lib.hid (pOrder wr u6 (attrsA j r) ((attrsA j r).map fun a => rawN a.2) AF.out.rd (by rw [attrsA_len]; omega) (fun a ha => by
        obtain ⟨i, -, rfl⟩ := attrsA_mem ha
        have := nameA_size i
        show (nameA i).size ≤ _
        omega) NO.out (attrsA_trees hK2.2 hr3) (V.out.below BB.out V.out.lt) (by simp) (fun i a rs ha hrs => attrsA_refs ha hrs) rr e1 out e2)
      rw [attrsA_len] at C
      have E3 := Lib.hid e3
      have E4 := Lib.hid e4
      have E5 := Lib.hid e5
      clear e1 e2 e3 e4 e5 HA
      go_wp2_with fail
      refine C.out.mono ?_
      rintro e w1 ⟨hb1, h1⟩
      have B1 := Lib.hid (BB.out.trans (hb1.mono BB.out.size))
      clear hb1
      have AW := Lib.hid (show ∀ W, Below w1.heap.size w1 W → Calls Tryz.prog 6 #[] W (Made (.bool true) W) from fun W hb => law_awake6 W (V.out.below (B1.out.trans (hb.mono B1.out.size)) V.out.lt))
      have hr012 : r = 0 ∨ r = 1 ∨ r = 2 := by omega
      rcases hr012 with rfl | rfl | rfl
      · obtain ⟨n1, rfl⟩ := E3.out rfl
        have hlen : (revK j).length = j := by simp [revK]
        rcases h1 with ⟨hq, -⟩ | ⟨-, hq, -⟩ | ⟨-, hq, v, rfl, hv⟩
        · exact absurd hq n1
        · omega
        · have IV := Lib.hid hv
          obtain ⟨vo, vc, rfl⟩ := hv.shape
          rw [hlen]
          clear hv
          go_wp2_with fail
          go_loopg [11] j (fun m iv wx => ∃ i : Nat, iv = .int .i64 i ∧ j - i ≤ m ∧ i ≤ j ∧ w1 = wx)
          case atStart => exact ⟨0, rfl, Nat.le_refl _, Nat.zero_le _, rfl⟩
          case round =>
            obtain ⟨i, rfl, hm, hi, rfl⟩ := hrel
            have HM2 := Lib.hid hm
            clear hm
            by_cases hil : i < j
            · have hx : (revK j)[i]? = some ((j - 1 - i : Nat) : Int) := by simp [revK, hil]
              obtain ⟨vo2, vc2, ev, hcc⟩ := IV.out
              simp only [Value.slice.injEq] at ev
              obtain ⟨rfl, -, rfl⟩ := ev
              obtain ⟨g, o, rfl, hc⟩ := hcc i _ hx
              have hsub : ((j : Int) - 1 - (i : Int)) = ((j - 1 - i : Nat) : Int) := by omega
              clear hcc hx
              go_wp2_with fail
              go_roundg (j - (i + 1))
              case rel => exact ⟨i + 1, rfl, Nat.le_refl _, hil, rfl⟩
              case measure => have := HM2.out; omega
            · have hz : i = j := by omega
              subst hz
              go_wp2_with fail
              refine (lnum _ _).mono ?_
              rintro e w2 ⟨rfl, rfl⟩
              go_wp2_with fail
              refine (AW.out _ (Below.refl _ _)).mono ?_
              rintro e w3 ⟨rfl, hb3⟩
              have B3 := Lib.hid (below_tr B1.out hb3)
              clear hb3
              go_wp2_with fail
              go_ret
              exact ⟨rfl, B3.out⟩
      · obtain ⟨n1, rfl⟩ := E4.out rfl
        rcases h1 with ⟨hq, -⟩ | ⟨-, hq, rfl⟩ | ⟨-, hq, v, rfl, hv⟩
        · exact absurd hq n1
        · go_wp2_with fail
          have hm1 : (h : Int) % 3 = 1 := by omega
          have hm2 : (h : Int).tmod 3 = 1 := by rw [Int.tmod_eq_emod_of_nonneg (by omega)]; exact hm1
          have hm3 : IntKind.u8.wrap 1 = 1 := by decide
          have hm4 : IntKind.i64.wrap 1 = 1 := by decide
          clear hmod
          go_region_with (first
            | (go_at_call 9; (with_reducible refine (lnum _ _).mono ?_); rintro e w'' ⟨rfl, rfl⟩)
            | (go_at_call 6; (with_reducible refine (AW.out _ ?_).mono ?_); (· (repeat (first | with_reducible exact Below.refl _ _ | with_reducible refine below_drew ?_ | with_reducible refine below_drewN ?_ _ | with_reducible refine below_al ?_ _))); rintro e w'' ⟨rfl, hb⟩; (have HB' : Below w1.heap.size w1 w'' := by ((refine below_tr ?_ hb); (repeat (first | with_reducible exact Below.refl _ _ | with_reducible refine below_drew ?_ | with_reducible refine below_drewN ?_ _ | with_reducible refine below_al ?_ _)))); (clear hb); (have HB := Lib.hid HB'); (clear HB')))
          all_goals go_wp2
          all_goals go_ret
          all_goals exact ⟨rfl, below_tr B1.out HB.out⟩
        · simp at hq; omega
      · have n1 := E5.out rfl
        rcases h1 with ⟨hq, rfl⟩ | ⟨hq, -⟩ | ⟨hq, -⟩
        · go_wp2_with fail
          have hm1 : (h : Int) % 3 = 2 := by omega
          have hm2 : (h : Int).tmod 3 = 2 := by rw [Int.tmod_eq_emod_of_nonneg (by omega)]; exact hm1
          have hm3 : IntKind.u8.wrap 2 = 2 := by decide
          have hm4 : IntKind.i64.wrap 2 = 2 := by decide
          clear hmod
          go_region_with (first
            | (go_at_call 9; (with_reducible refine (lnum _ _).mono ?_); rintro e w'' ⟨rfl, rfl⟩)
            | (go_at_call 6; (with_reducible refine (AW.out _ ?_).mono ?_); (· (repeat (first | with_reducible exact Below.refl _ _ | with_reducible refine below_drew ?_ | with_reducible refine below_drewN ?_ _ | with_reducible refine below_al ?_ _))); rintro e w'' ⟨rfl, hb⟩; (have HB' : Below w1.heap.size w1 w'' := by ((refine below_tr ?_ hb); (repeat (first | with_reducible exact Below.refl _ _ | with_reducible refine below_drew ?_ | with_reducible refine below_drewN ?_ _ | with_reducible refine below_al ?_ _)))); (clear hb); (have HB := Lib.hid HB'); (clear HB')))
          all_goals go_wp2
          all_goals go_ret
          all_goals exact ⟨rfl, below_tr B1.out HB.out⟩
        · exact absurd n1 hq
        · exact absurd n1 hq
end
end Go.Proofs.YtdaphajnioiakaaGreatDoor
