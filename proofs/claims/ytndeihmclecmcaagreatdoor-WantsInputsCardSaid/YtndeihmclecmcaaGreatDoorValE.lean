/- Package val: Same; the document's sameness. -/
import Derived.Test.YtndeihmclecmcaaGreatDoorValA
namespace Go.Proofs.YtndeihmclecmcaaGreatDoor
open Go.RowKit
set_option linter.unusedVariables false
set_option linter.unusedSimpArgs false

def sameR (S : VL → VL → Bool) (l m : List VL) : Bool := l.length == m.length && (l.zip m).all fun p => S p.1 p.2
def headB (a b : VL) : Bool := a.kind == b.kind && a.num == b.num && a.text.toList == b.text.toList
theorem same_zero (a b : VL) : sameB 0 a b = (headB a b && a.kids.length == b.kids.length) := rfl
theorem same_succ (D : Nat) (a b : VL) : sameB (D + 1) a b = (headB a b && sameR (sameB D) a.kids b.kids) := by
  simp only [sameB, headB, sameR, Bool.and_assoc]
theorem sameR_len {S : VL → VL → Bool} {l m : List VL} (h : ¬ l.length = m.length) : sameR S l m = false := by
  unfold sameR; rw [show (l.length == m.length) = false by simpa using h]; rfl
theorem sameR_bad {S : VL → VL → Bool} {l m : List VL} {i : Nat} {a b : VL} (ha : l[i]? = some a) (hb : m[i]? = some b) (h : S a b = false) : sameR S l m = false := by
  unfold sameR
  have hm : (a, b) ∈ l.zip m := List.mem_of_getElem? (i := i) (List.getElem?_zip_eq_some.2 ⟨ha, hb⟩)
  have : ((l.zip m).all fun p => S p.1 p.2) = false := by
    rw [List.all_eq_false]; exact ⟨_, hm, by simp [h]⟩
  rw [this, Bool.and_false]
def upR (S : VL → VL → Bool) (l m : List VL) (i : Nat) : Prop := ∀ j a b, j < i → l[j]? = some a → m[j]? = some b → S a b = true
theorem sameR_ok {S : VL → VL → Bool} {l m : List VL} (hl : l.length = m.length) (h : upR S l m l.length) : sameR S l m = true := by
  unfold sameR
  rw [show (l.length == m.length) = true by simpa using hl, Bool.true_and, List.all_eq_true]
  intro p hp
  obtain ⟨i, hi, rfl⟩ := List.mem_iff_getElem.1 hp
  have hi1 : i < l.length := by simp at hi; omega
  have hi2 : i < m.length := by omega
  simp only [List.getElem_zip]
  exact h i _ _ hi1 (List.getElem?_eq_getElem hi1) (List.getElem?_eq_getElem hi2)
theorem upR_succ {S : VL → VL → Bool} {l m : List VL} {i : Nat} {a b : VL} (h : upR S l m i) (ha : l[i]? = some a) (hb : m[i]? = some b) (hs : S a b = true) : upR S l m (i + 1) := by
  intro j x y hj hx hy
  by_cases e : j = i
  · subst e
    rw [ha] at hx; rw [hb] at hy
    cases hx; cases hy; exact hs
  · exact h j x y (by omega) hx hy
/-- What a sameness is to tell. -/
def SameOf (f : FuncId) (D : Nat) (S : VL → VL → Bool) : Prop := ∀ (a b : VL) (la lb : Value) (w : World), RowRd w D a.kids la → RowRd w D b.kids lb →
  Calls Tryz.prog f #[.agg #[.int .i64 a.kind, .int .i64 a.num, .string a.text, la], .agg #[.int .i64 b.kind, .int .i64 b.num, .string b.text, lb]] w (Made (.bool (S a b)) w)
theorem SameOf.call {f : FuncId} {D : Nat} {S : VL → VL → Bool} (h : SameOf f D S) (a b : VL) (la lb : Value) (w : World) (ha : RowRd w D a.kids la) (hb : RowRd w D b.kids lb) :
    Calls Tryz.prog f #[.agg #[.int .i64 a.kind, .int .i64 a.num, .string a.text, la], .agg #[.int .i64 b.kind, .int .i64 b.num, .string b.text, lb]] w (Made (.bool (S a b)) w) := h a b la lb w ha hb
def RelI (w : World) (n m : Nat) (iv : Value) (wr : World) (P : Nat → Prop) : Prop := ∃ i : Nat, iv = .int .i64 i ∧ n - i ≤ m ∧ i ≤ n ∧ Below w.heap.size w wr ∧ P i
set_option maxHeartbeats 2000000 in
set_option maxRecDepth 20000 in
theorem vequal (w : World) (D : Nat) (S : VL → VL → Bool) (hS : 0 < D → SameOf 155 (D - 1) S) (l m : List VL) (la lb : Value) (ha : RowRd w D l la) (hb : RowRd w D m lb) :
    Calls Tryz.prog 194 #[la, lb, .func (.func 155) #[] #[]] w (Made (.bool (sameR S l m)) w) := by
  have HA := Lib.hid ha
  have HB := Lib.hid hb
  have HS := Lib.hid hS
  have hl := ha.len
  have hl2 := hb.len
  unfold maxLen at hl hl2
  obtain ⟨ao, cap, rfl⟩ := ha.shape
  obtain ⟨ao2, cap2, rfl⟩ := hb.shape
  clear ha hb hS
  by_cases hlen : l.length = m.length
  · have LEN := Lib.hid hlen
    rw [← hlen] at HB ⊢
    clear hlen hl2
    go_enter Tryz.func194, Tryz.ntmps194
    go_wp2_with fail
    go_loopg [17] l.length (fun k iv wr => RelI w l.length k iv wr (upR S l m))
    case atStart => exact ⟨0, rfl, Nat.le_refl _, Nat.zero_le _, Below.refl _ _, fun j a b hj => absurd hj (Nat.not_lt_zero _)⟩
    case round =>
      obtain ⟨i, rfl, hm, hi, hb, hu⟩ := hrel
      have HM := Lib.hid hm
      have BR := Lib.hid hb
      have HU := Lib.hid hu
      clear hm hb hu
      by_cases hil : i < l.length
      · obtain ⟨a, ea⟩ : ∃ u, l[i]? = some u := ⟨_, List.getElem?_eq_getElem hil⟩
        obtain ⟨b, eb⟩ : ∃ u, m[i]? = some u := ⟨_, List.getElem?_eq_getElem (by have := LEN.out; omega)⟩
        have EA := Lib.hid ea
        have EB := Lib.hid eb
        obtain ⟨ao3, cap3, e3, hat⟩ := (HA.out.below BR.out).at
        simp only [Value.slice.injEq, true_and] at e3
        obtain ⟨rfl, rfl⟩ := e3
        obtain ⟨g, o, lu, rfl, hD, c0, c1, c2, c3, hr⟩ := hat i a ea
        obtain ⟨ao4, cap4, e4, hat2⟩ := (HB.out.below BR.out).at
        rw [← LEN.out] at e4
        simp only [Value.slice.injEq, true_and] at e4
        obtain ⟨rfl, rfl⟩ := e4
        obtain ⟨g2, o2, lu2, rfl, -, d0, d1, d2, d3, hr2⟩ := hat2 i b eb
        have hg2 : g2 < wr.heap.size := World.block_lt_of_cell? wr _ d0
        have R1 := Lib.hid hr
        have R2 := Lib.hid hr2
        obtain ⟨lao, lcap, rfl⟩ := hr.shape
        obtain ⟨lao2, lcap2, rfl⟩ := hr2.shape
        have SS := Lib.hid (HS.out hD)
        clear hat hat2 ea eb hr hr2 hD
        cases hs : S a b
        · have FF := Lib.hid (sameR_bad EA.out EB.out hs)
          have HSS := Lib.hid hs
          clear hs
          go_wp2_with fail
          (with_reducible refine (SS.out.call a b _ _ _ (R1.out.below ?ba) (R2.out.below ?bb)).mono ?_)
          case ba => exact below_al (below_al (Below.refl _ _) _) _
          case bb => exact below_al (below_al (Below.refl _ _) _) _
          rw [HSS.out]
          rintro e w2 ⟨rfl, hb2⟩
          have B2 := Lib.hid (below_tr BR.out (below_tr (below_al (below_al (Below.refl _ _) _) _) hb2))
          clear hb2
          go_wp2_with fail
          go_ret
          exact ⟨by rw [FF.out]; rfl, B2.out⟩
        · have FF := Lib.hid (upR_succ HU.out EA.out EB.out hs)
          have HSS := Lib.hid hs
          clear hs
          go_wp2_with fail
          (with_reducible refine (SS.out.call a b _ _ _ (R1.out.below ?bc) (R2.out.below ?bd)).mono ?_)
          case bc => exact below_al (below_al (Below.refl _ _) _) _
          case bd => exact below_al (below_al (Below.refl _ _) _) _
          rw [HSS.out]
          rintro e w2 ⟨rfl, hb2⟩
          have B2 := Lib.hid (below_tr BR.out (below_tr (below_al (below_al (Below.refl _ _) _) _) hb2))
          clear hb2
          go_wp2_with fail
          go_roundg (l.length - (i + 1))
          case rel => exact ⟨i + 1, rfl, Nat.le_refl _, hil, B2.out, FF.out⟩
          case measure => have := HM.out; omega
      · have TT := Lib.hid (sameR_ok LEN.out (by have e : i = l.length := by omega
                                                 rw [← e]; exact HU.out))
        go_wp2_with fail
        go_ret
        exact ⟨by rw [TT.out]; rfl, BR.out⟩
  · have FF := Lib.hid (sameR_len (S := S) hlen)
    have g : ((l.length : Int) != (m.length : Int)) = true := by simp; omega
    clear hlen
    go_enter Tryz.func194, Tryz.ntmps194
    go_wp2_with fail
    go_ret
    exact ⟨by rw [FF.out]; rfl, Below.refl _ _⟩
end Go.Proofs.YtndeihmclecmcaaGreatDoor
