/- The law of binds. -/
import Derived.Test.YtnnlblcaidffcaaGreatDoorEvL
namespace Go.Proofs.YtnnlblcaidffcaaGreatDoor
open Go.RowKit
set_option linter.unusedVariables false
set_option linter.unusedSimpArgs false
def refN (s : ByteArray) : List NodeL := [⟨4, 0, s, [], []⟩]
theorem refN_tree (s : ByteArray) (h : rdotB s = true) : treeP (refN s) = !truthP (first s) := by
  obtain ⟨h1, h2⟩ := dot_cut h
  have e : treeP (refN s) = nodeP ⟨4, 0, s, [], []⟩ := by
    show (if (0 : Nat) ≤ 0 then (if ([] : List Int) = [] then (if nodeP ⟨4, 0, s, [], []⟩ then treeGo [] 1 [0] else false) else false) else false) = _
    rw [if_pos (Nat.le_refl _), if_pos rfl]
    cases nodeP ⟨4, 0, s, [], []⟩ <;> rfl
  rw [e]
  have t : textP ⟨4, 0, s, [], []⟩ = !truthP (first s) := by
    unfold textP
    rw [if_neg (by show ¬ (4 : Int) = 5; decide), if_pos rfl, h2, h1]
    rfl
  unfold nodeP
  rw [t]
  have k : kidsP 4 ((([] : List Int).length : Nat) : Int) = true := by decide
  show (kidsP 4 ((([] : List Int).length : Nat) : Int) && true && (!truthP (first s)) && true && true) = _
  rw [k]
  simp
theorem refN_few (s : ByteArray) (hs : s.size ≤ 100000) : ∀ n ∈ refN s, Few n ∧ n.text.size ≤ 100000 ∧ n.kids.length ≤ 100000 := by
  intro n hn
  simp [refN] at hn
  subst hn
  exact ⟨⟨Nat.zero_le _, fun p hp => by cases hp⟩, hs, Nat.zero_le _⟩
theorem refN_walk (s : ByteArray) (hs : s.size ≤ maxLen) (L : ByteArray → Option VL) (hL : LeafL L) (hk : (refR L s).1.kind ≠ 4) : Walk L (refN s) (madeS L) (refR L s) where
  kids := by
    intro n hn
    simp [refN] at hn
    subst hn
    exact ⟨Nat.zero_le _, fun k hk => by cases hk⟩
  above := ⟨aboveTo_len _ _, fun j hj => by have : j + 1 < 1 := hj; omega⟩
  few := by simp [refN]
  some_ := by simp [refN]
  plain := by
    intro n hn
    simp [refN] at hn
    subst hn
    rfl
  made := by
    intro n hn vs r hr
    simp [refN] at hn
    subst hn
    exact madeS_ok L hL _ (by show I64 0; unfold I64; omega) hs vs r hr
  ans := by
    show (if (0 : Nat) ≤ 0 then (madeS L ⟨4, 0, s, [], []⟩ []).bind fun r => if r.2 ≠ 0 ∨ ([] : List NodeL) = [] then some r else evR (madeS L) [] ([] ++ [r.1]) else none) = _
    rw [if_pos (Nat.le_refl _)]
    have e : madeS L ⟨4, 0, s, [], []⟩ [] = some (refR L s) := by
      unfold madeS
      rw [if_neg (by show ¬ (4 : Int) = 1; decide), if_neg (by show ¬ (4 : Int) = 3; decide), if_pos rfl]
    rw [e]
    simp
  leaf := hk
theorem RefB.rd {w : World} {g : Nat} {s : ByteArray} (h : RefB w g s) : NodesRd w (.slice (some ⟨g, 0, none⟩) 1 1) (refN s) :=
  nodes_of_block (ns := refN s) h ⟨.slice none 0 0, .slice none 0 0, [], rfl, parts_nil _ _ _, places_nil _ _ _, rfl⟩
/-- Binds that lie in one block: numbers. -/
def bindCells : List (ByteArray × Int) → List Value
  | [] => []
  | (s, n) :: l => .string s :: .int .i64 1 :: .int .i64 n :: .string ⟨#[]⟩ :: .slice none 0 0 :: bindCells l
theorem bindCells_at : ∀ (l : List (ByteArray × Int)) (i : Nat) (p : ByteArray × Int), l[i]? = some p → ∀ r, r < 5 → (bindCells l)[i * 5 + r]? = ([.string p.1, .int .i64 1, .int .i64 p.2, .string ⟨#[]⟩, .slice none 0 0] : List Value)[r]? := by
  intro l
  induction l with
  | nil => intro i p h; simp at h
  | cons a l ih =>
    obtain ⟨s, n⟩ := a
    intro i p h r hr
    cases i with
    | zero =>
      simp at h; subst h
      match r, hr with
      | 0, _ => rfl
      | 1, _ => rfl
      | 2, _ => rfl
      | 3, _ => rfl
      | 4, _ => rfl
    | succ i =>
      have := ih i p (by simpa using h) r hr
      rw [← this]
      show (Value.string s :: .int .i64 1 :: .int .i64 n :: .string ⟨#[]⟩ :: .slice none 0 0 :: bindCells l)[(i + 1) * 5 + r]? = _
      rw [show (i + 1) * 5 + r = (i * 5 + r) + 5 by omega]
      rfl
theorem binds_of_block {w : World} {g cap : Nat} {l : List (ByteArray × Int)} {t : TypeId} (h : w.heap[g]? = some (.cells (bindCells l).toArray t (0, 0))) : BindsRd w 0 (.slice (some ⟨g, 0, none⟩) l.length cap) (l.map fun p => (p.1, vnum p.2)) := by
  refine ⟨some ⟨g, 0, none⟩, cap, by simp, fun i b hi => ?_⟩
  rw [List.getElem?_map] at hi
  obtain ⟨p, hp, rfl⟩ := Option.map_eq_some_iff.1 hi
  have k := fun r hr => (cell_of_row w g (i * 5 + r) _ t (0, 0) h).trans (by simpa using bindCells_at l i p hp r hr)
  exact ⟨g, 0, none, 0, rfl, by rw [Nat.zero_add]; exact k 0 (by omega), by rw [Nat.zero_add]; exact k 1 (by omega), by rw [Nat.zero_add]; exact k 2 (by omega), by rw [Nat.zero_add]; exact k 3 (by omega), by rw [Nat.zero_add]; exact k 4 (by omega), rfl, none, 0, rfl⟩
theorem i64_small {n : Int} (h : -32768 ≤ n ∧ n ≤ 32767) : I64 (vnum n).num := ⟨by show _ ≤ n; omega, by show n ≤ _; omega⟩
theorem leaf_of (bs : List (ByteArray × VL)) (h : ∀ p ∈ bs, I64 p.2.num ∧ p.2.kids = []) : LeafL (lookL bs) := fun x v hv => by
  unfold lookL at hv
  obtain ⟨p, hp, rfl⟩ := Option.map_eq_some_iff.1 hv
  exact h p (List.mem_of_find?_eq_some hp)
theorem dot_size {s : ByteArray} (h : rdotB s = true) : s.size ≤ 100 := by
  unfold rdotB rnameB at h
  simp only [Bool.and_eq_true, decide_eq_true_eq, ByteArray.size_extract] at h
  omega
theorem bind_cells {w : World} {g : Nat} {s : ByteArray} {n : Int} (h : w.heap[g]? = some (.cells #[.string s, .int .i64 1, .int .i64 n, .string ⟨#[]⟩, .slice none 0 0] 50 (0, 0))) :
    w.cell? ⟨g, 0, none⟩ = some (.string s) ∧ w.cell? ⟨g, 1, none⟩ = some (.int .i64 1) ∧ w.cell? ⟨g, 2, none⟩ = some (.int .i64 n) ∧ w.cell? ⟨g, 3, none⟩ = some (.string ⟨#[]⟩) ∧ w.cell? ⟨g, 4, none⟩ = some (.slice none 0 0) :=
  ⟨cell_of_row w g 0 _ _ _ h, cell_of_row w g 1 _ _ _ h, cell_of_row w g 2 _ _ _ h, cell_of_row w g 3 _ _ _ h, cell_of_row w g 4 _ _ _ h⟩
section
variable (w : World)
set_option maxRecDepth 20000 in
theorem pbind (s : ByteArray) (n : Int) : Calls Tryz.prog 15 #[.string s, .int .i64 n] w (Made (.agg #[.string s, .int .i64 1, .int .i64 n, .string ⟨#[]⟩, .slice none 0 0]) w) := by
  go_enter Tryz.func15, Tryz.ntmps15
  go_wp2_with fail
  exact bodyPost_ret (v := .agg #[.string s, .int .i64 1, .int .i64 n, .string ⟨#[]⟩, .slice none 0 0]) (by simp [results, Tryz.results15, go_sem]) rfl ⟨rfl, below_al (Below.refl _ _) _⟩
set_option maxHeartbeats 4000000 in
set_option maxRecDepth 20000 in
theorem law_binds (name other : ByteArray) (a b : Int) (ha : -32768 ≤ a ∧ a ≤ 32767) (hb : -32768 ≤ b ∧ b ≤ 32767) (hn : name.size ≤ maxLen) (ho : other.size ≤ maxLen) (hv : ErrVar w) :
    Calls Tryz.prog 5 #[.string name, .int .i16 a, .int .i16 b, .string other] w (Made (.bool true) w) := by
  have HN := Lib.hid hn
  have V := Lib.hid hv
  have hov : ∀ {W : World} {n : Nat}, Below w.heap.size w (W.drewN n) → ErrVar (W.drewN n) := fun h => hv.below h hv.lt
  clear hv
  cases hd : rdotB name
  · have HD := Lib.hid hd
    go_enter Tryz.func5, Tryz.ntmps5
    go_wp2_with fail
    refine (rdot_any name _ HN.out).mono ?_
    rw [HD.out]
    rintro e w1 ⟨rfl, n1, rfl⟩
    go_wp2_with fail
    refine (law_awake7 _ (V.out.below (below_drawn w n1) V.out.lt)).mono ?_
    rintro e w2 ⟨rfl, hb2⟩
    go_wp2_with fail
    go_ret
    exact ⟨rfl, (below_drawn w n1).trans hb2⟩
  have HD := Lib.hid hd
  clear hd
  by_cases hlong : 60 < other.size
  · have g1 : decide ((60 : Int) < (other.size : Int)) = true := decide_eq_true (by omega)
    go_enter Tryz.func5, Tryz.ntmps5
    go_wp2_with fail
    refine (rdot_any name _ HN.out).mono ?_
    rw [HD.out]
    rintro e w1 ⟨rfl, n1, rfl⟩
    go_wp2_with fail
    refine (law_awake7 _ (V.out.below (below_drawn w n1) V.out.lt)).mono ?_
    rintro e w2 ⟨rfl, hb2⟩
    go_wp2_with fail
    go_ret
    exact ⟨rfl, (below_drawn w n1).trans hb2⟩
  have g1 : decide ((60 : Int) < (other.size : Int)) = false := decide_eq_false (by omega)
  by_cases heq : name = other
  · have gq : (name.toList == other.toList) = true := by rw [str_eq]; exact decide_eq_true heq
    clear heq
    go_enter Tryz.func5, Tryz.ntmps5
    go_wp2_with fail
    refine (rdot_any name _ HN.out).mono ?_
    rw [HD.out]
    rintro e w1 ⟨rfl, n1, rfl⟩
    go_wp2_with fail
    refine (law_awake7 _ (V.out.below (below_drawn w n1) V.out.lt)).mono ?_
    rintro e w2 ⟨rfl, hb2⟩
    go_wp2_with fail
    go_ret
    exact ⟨rfl, (below_drawn w n1).trans hb2⟩
  have gq : (name.toList == other.toList) = false := by rw [str_eq]; exact decide_eq_false heq
  have HQ := Lib.hid heq
  clear heq
  go_enter Tryz.func5, Tryz.ntmps5
  go_wp2_with fail
  refine (rdot_any name _ HN.out).mono ?_
  rw [HD.out]
  rintro e w1 ⟨rfl, n1, rfl⟩
  have RB0 := Lib.hid (show RefB ((w.drewN n1).alloc (.cells #[.int .i64 4, .int .i64 0, .string name, .slice none 0 0, .slice none 0 0] 27)) w.heap.size name from heap_alloc_new (w.drewN n1) _)
  have B0 := Lib.hid (below_al (below_drawn w n1) (.cells #[.int .i64 4, .int .i64 0, .string name, .slice none 0 0, .slice none 0 0] 27))
  go_wp2_with fail
  generalize (w.drewN n1).alloc (.cells #[.int .i64 4, .int .i64 0, .string name, .slice none 0 0, .slice none 0 0] 27) = w0 at *
  refine (pbind _ name a).mono ?_
  rintro e w1 ⟨rfl, hb1⟩
  go_wp2_with fail
  refine (pbind _ name b).mono ?_
  rintro e w2 ⟨rfl, hb2⟩
  go_wp2_with fail
  refine (pbind _ other 7).mono ?_
  rintro e w3 ⟨rfl, hb3⟩
  have h03 : Below w0.heap.size w0 w3 := hb1.trans ((hb2.trans (hb3.mono hb2.size)).mono hb1.size)
  have B3 := Lib.hid (B0.out.trans (h03.mono B0.out.size))
  have RB3 := Lib.hid (RB0.out.below h03)
  clear hb1 hb2 hb3 h03
  go_wp2_with fail
  have BB := Lib.hid (below_al (below_al (below_al (below_al (Below.refl w3.heap.size w3) (.cells #[.string name, .int .i64 1, .int .i64 a, .string ⟨#[]⟩, .slice none 0 0] 50)) (.cells #[.string name, .int .i64 1, .int .i64 b, .string ⟨#[]⟩, .slice none 0 0] 50)) (.cells #[.string other, .int .i64 1, .int .i64 7, .string ⟨#[]⟩, .slice none 0 0] 50)) (.cells #[.string other, .int .i64 1, .int .i64 7, .string ⟨#[]⟩, .slice none 0 0, .string name, .int .i64 1, .int .i64 a, .string ⟨#[]⟩, .slice none 0 0, .string name, .int .i64 1, .int .i64 b, .string ⟨#[]⟩, .slice none 0 0] 50))
  have hrow := heap_at (w := ((w3.alloc (.cells #[.string name, .int .i64 1, .int .i64 a, .string ⟨#[]⟩, .slice none 0 0] 50)).alloc (.cells #[.string name, .int .i64 1, .int .i64 b, .string ⟨#[]⟩, .slice none 0 0] 50)).alloc (.cells #[.string other, .int .i64 1, .int .i64 7, .string ⟨#[]⟩, .slice none 0 0] 50)) (O := .cells #[.string other, .int .i64 1, .int .i64 7, .string ⟨#[]⟩, .slice none 0 0, .string name, .int .i64 1, .int .i64 a, .string ⟨#[]⟩, .slice none 0 0, .string name, .int .i64 1, .int .i64 b, .string ⟨#[]⟩, .slice none 0 0] 50) (g := w3.heap.size + 1 + 1 + 1) (by simp)
  have hz := (Below.block (below_al (Below.refl _ (((w3.alloc (.cells #[.string name, .int .i64 1, .int .i64 a, .string ⟨#[]⟩, .slice none 0 0] 50)).alloc (.cells #[.string name, .int .i64 1, .int .i64 b, .string ⟨#[]⟩, .slice none 0 0] 50)).alloc (.cells #[.string other, .int .i64 1, .int .i64 7, .string ⟨#[]⟩, .slice none 0 0] 50))) (.cells #[.string other, .int .i64 1, .int .i64 7, .string ⟨#[]⟩, .slice none 0 0, .string name, .int .i64 1, .int .i64 a, .string ⟨#[]⟩, .slice none 0 0, .string name, .int .i64 1, .int .i64 b, .string ⟨#[]⟩, .slice none 0 0] 50)) (w3.heap.size + 1 + 1) (by simp)).trans (heap_at (w := (w3.alloc (.cells #[.string name, .int .i64 1, .int .i64 a, .string ⟨#[]⟩, .slice none 0 0] 50)).alloc (.cells #[.string name, .int .i64 1, .int .i64 b, .string ⟨#[]⟩, .slice none 0 0] 50)) (O := .cells #[.string other, .int .i64 1, .int .i64 7, .string ⟨#[]⟩, .slice none 0 0] 50) (g := w3.heap.size + 1 + 1) (by simp))
  have ROW := Lib.hid (binds_of_block (cap := 3) (l := [(other, 7), (name, a), (name, b)]) hrow)
  have HZ := Lib.hid hz
  clear hrow hz
  generalize (((w3.alloc (.cells #[.string name, .int .i64 1, .int .i64 a, .string ⟨#[]⟩, .slice none 0 0] 50)).alloc (.cells #[.string name, .int .i64 1, .int .i64 b, .string ⟨#[]⟩, .slice none 0 0] 50)).alloc (.cells #[.string other, .int .i64 1, .int .i64 7, .string ⟨#[]⟩, .slice none 0 0] 50)).alloc (.cells #[.string other, .int .i64 1, .int .i64 7, .string ⟨#[]⟩, .slice none 0 0, .string name, .int .i64 1, .int .i64 a, .string ⟨#[]⟩, .slice none 0 0, .string name, .int .i64 1, .int .i64 b, .string ⟨#[]⟩, .slice none 0 0] 50) = w4 at *
  have B4 := Lib.hid (B3.out.trans (BB.out.mono B3.out.size))
  have RB4 := Lib.hid (RB3.out.below BB.out)
  clear BB RB3 RB0 B0 B3
  generalize w3.heap.size + 1 + 1 = Z at *
  have NS := Lib.hid (dot_size HD.out)
  have JA := i64_small ha
  have JB := i64_small hb
  have J7 : I64 (vnum 7).num := i64_small (by omega)
  have SN : name.size ≤ 281474976710656 := by have := NS.out; omega
  have SO : other.size ≤ 281474976710656 := by omega
  have LF1 : LeafL (lookL [(other, vnum 7), (name, vnum a), (name, vnum b)]) := leaf_of _ (fun p hp => by
    simp at hp
    rcases hp with rfl | rfl | rfl
    · exact ⟨J7, rfl⟩
    · exact ⟨JA, rfl⟩
    · exact ⟨JB, rfl⟩)
  have LF2 : LeafL (lookL [(other, vnum 7)]) := leaf_of _ (fun p hp => by
    simp at hp
    subst hp
    exact ⟨J7, rfl⟩)
  have R1 : refR (lookL [(other, vnum 7), (name, vnum a), (name, vnum b)]) name = (vnum a, 0) := by
    have : ¬ other = name := fun e => HQ.out e.symm
    simp [refR, lookL, List.find?, this]
  have R2 : refR (lookL [(other, vnum 7)]) name = (vz, 2) := by
    have : ¬ other = name := fun e => HQ.out e.symm
    simp [refR, lookL, List.find?, this]
  have W1 := refN_walk name HN.out _ LF1 (by rw [R1]; simp [vnum, VL.kind])
  have W2 := refN_walk name HN.out _ LF2 (by rw [R2]; simp [vz, VL.kind])
  rw [R1] at W1
  rw [R2] at W2
  have HW1 := Lib.hid W1
  have HW2 := Lib.hid W2
  have BI1 : ∀ p ∈ [(other, vnum 7), (name, vnum a), (name, vnum b)], I64 p.2.num ∧ p.1.size ≤ 281474976710656 := fun p hp => by
    simp at hp
    rcases hp with rfl | rfl | rfl
    · exact ⟨J7, SO⟩
    · exact ⟨JA, SN⟩
    · exact ⟨JB, SN⟩
  have BI2 : ∀ p ∈ [(other, vnum 7)], I64 p.2.num ∧ p.1.size ≤ 281474976710656 := fun p hp => BI1 p (by simp at hp; subst hp; simp)
  have HB1 := Lib.hid BI1
  have HB2 := Lib.hid BI2
  have TR := refN_tree name HD.out
  have FEW := Lib.hid (refN_few name (by have := NS.out; omega))
  clear LF1 LF2 R1 R2 W1 W2 BI1 BI2
  cases ht : (!truthP (first name))
  · rw [ht] at TR
    have HT := Lib.hid ht
    have HTR := Lib.hid TR
    clear ht TR
    refine (pexpr_no _ _ _ _ RB4.out.rd FEW.out (by simp [refN]) (V.out.below B4.out V.out.lt) HTR.out ⟨_, _, _, rfl⟩).mono ?_
    rintro e w5 ⟨rfl, hb5⟩
    obtain ⟨z0, z1, z2, z3, z4⟩ := bind_cells ((Below.block hb5 Z (Array.getElem?_eq_some_iff.1 HZ.out).1).trans HZ.out)
    have B5 := Lib.hid (B4.out.trans (hb5.mono B4.out.size))
    have RB5 := Lib.hid (RB4.out.below hb5)
    have zl : Z < w5.heap.size := Nat.lt_of_lt_of_le (Array.getElem?_eq_some_iff.1 HZ.out).1 hb5.size
    clear hb5
    go_wp2_with fail
    have B6 := Lib.hid (below_al (below_al B5.out (.cells #[.int .i64 vz.kind, .int .i64 vz.num, .string vz.text, .slice none 0 0] 48)) (.cells #[.string other, .int .i64 1, .int .i64 7, .string ⟨#[]⟩, .slice none 0 0] 50))
    have RB6 := Lib.hid (RB5.out.below (below_al (below_al (Below.refl _ _) (.cells #[.int .i64 vz.kind, .int .i64 vz.num, .string vz.text, .slice none 0 0] 48)) (.cells #[.string other, .int .i64 1, .int .i64 7, .string ⟨#[]⟩, .slice none 0 0] 50)))
    generalize (w5.alloc (.cells #[.int .i64 vz.kind, .int .i64 vz.num, .string vz.text, .slice none 0 0] 48)).alloc (.cells #[.string other, .int .i64 1, .int .i64 7, .string ⟨#[]⟩, .slice none 0 0] 50) = w6 at *
    refine (pexpr_no _ _ _ _ RB6.out.rd FEW.out (by simp [refN]) (V.out.below B6.out V.out.lt) HTR.out ⟨_, _, _, rfl⟩).mono ?_
    rintro e w7 ⟨rfl, hb7⟩
    have B7 := Lib.hid (B6.out.trans (hb7.mono B6.out.size))
    have RB7 := Lib.hid (RB6.out.below hb7)
    clear hb7
    go_wp2_with fail
    refine (rtree_ref _ _ name (RefB.below RB7.out (below_al (Below.refl _ _) _)) HN.out HD.out).mono ?_
    rw [HT.out]
    rintro e w8 ⟨rfl, hb8⟩
    have B8 := Lib.hid ((below_al B7.out _).trans (hb8.mono (below_al B7.out _).size))
    clear hb8
    go_wp2_with fail
    refine (lnum _ _).mono ?_
    rintro e w9 ⟨rfl, rfl⟩
    go_wp2_with fail
    refine (law_awake7 _ (V.out.below B8.out V.out.lt)).mono ?_
    rintro e w10 ⟨rfl, hb10⟩
    go_wp2_with fail
    go_ret
    exact ⟨rfl, B8.out.trans (hb10.mono B8.out.size)⟩
  · rw [ht] at TR
    have HT := Lib.hid ht
    have HTR := Lib.hid TR
    clear ht TR
    refine (pexpr_yes _ _ _ _ _ _ _ RB4.out.rd FEW.out (V.out.below B4.out V.out.lt) HTR.out ROW.out (by simp) HB1.out HW1.out).mono ?_
    rintro e w5 ⟨rfl, hb5⟩
    obtain ⟨z0, z1, z2, z3, z4⟩ := bind_cells ((Below.block hb5 Z (Array.getElem?_eq_some_iff.1 HZ.out).1).trans HZ.out)
    have B5 := Lib.hid (B4.out.trans (hb5.mono B4.out.size))
    have RB5 := Lib.hid (RB4.out.below hb5)
    have zl : Z < w5.heap.size := Nat.lt_of_lt_of_le (Array.getElem?_eq_some_iff.1 HZ.out).1 hb5.size
    clear hb5
    go_wp2_with fail
    have B6 := Lib.hid (below_al (below_al B5.out (.cells #[.int .i64 (vnum a).kind, .int .i64 (vnum a).num, .string (vnum a).text, .slice none 0 0] 48)) (.cells #[.string other, .int .i64 1, .int .i64 7, .string ⟨#[]⟩, .slice none 0 0] 50))
    have RB6 := Lib.hid (RB5.out.below (below_al (below_al (Below.refl _ _) (.cells #[.int .i64 (vnum a).kind, .int .i64 (vnum a).num, .string (vnum a).text, .slice none 0 0] 48)) (.cells #[.string other, .int .i64 1, .int .i64 7, .string ⟨#[]⟩, .slice none 0 0] 50)))
    have RW6 := Lib.hid (binds_of_block (cap := 1) (l := [(other, 7)]) (heap_at (w := w5.alloc (.cells #[.int .i64 (vnum a).kind, .int .i64 (vnum a).num, .string (vnum a).text, .slice none 0 0] 48)) (O := .cells #[.string other, .int .i64 1, .int .i64 7, .string ⟨#[]⟩, .slice none 0 0] 50) (g := w5.heap.size + 1) (by simp)))
    have VB6 := Lib.hid (show VBlk ((w5.alloc (.cells #[.int .i64 (vnum a).kind, .int .i64 (vnum a).num, .string (vnum a).text, .slice none 0 0] 48)).alloc (.cells #[.string other, .int .i64 1, .int .i64 7, .string ⟨#[]⟩, .slice none 0 0] 50)) w5.heap.size (vnum a) (.slice none 0 0) from (VBlk.new w5 (vnum a) (.slice none 0 0)).below (below_al (Below.refl _ _) _))
    generalize (w5.alloc (.cells #[.int .i64 (vnum a).kind, .int .i64 (vnum a).num, .string (vnum a).text, .slice none 0 0] 48)).alloc (.cells #[.string other, .int .i64 1, .int .i64 7, .string ⟨#[]⟩, .slice none 0 0] 50) = w6 at *
    refine (pexpr_yes _ _ _ _ _ _ _ RB6.out.rd FEW.out (V.out.below B6.out V.out.lt) HTR.out RW6.out (by simp) HB2.out HW2.out).mono ?_
    rintro e w7 ⟨rfl, hb7⟩
    have VB7 := Lib.hid (VB6.out.below hb7)
    have B7 := Lib.hid (B6.out.trans (hb7.mono B6.out.size))
    have RB7 := Lib.hid (RB6.out.below hb7)
    clear hb7
    go_wp2_with fail
    refine (rtree_ref _ _ name (RefB.below RB7.out (below_al (Below.refl _ _) _)) HN.out HD.out).mono ?_
    rw [HT.out]
    rintro e w8 ⟨rfl, hb8⟩
    have B8 := Lib.hid ((below_al B7.out _).trans (hb8.mono (below_al B7.out _).size))
    obtain ⟨v0, v1, v2, v3⟩ := ((VB7.out.below (below_al (Below.refl _ _) _)).below hb8).cells
    clear hb8
    go_wp2_with fail
    refine (lnum _ _).mono ?_
    rintro e w9 ⟨rfl, rfl⟩
    go_wp2_with fail
    refine (lnum _ _).mono ?_
    rintro e w9 ⟨rfl, rfl⟩
    go_wp2_with fail
    refine (law_awake7 _ (V.out.below B8.out V.out.lt)).mono ?_
    rintro e w10 ⟨rfl, hb10⟩
    go_wp2_with fail
    go_ret
    exact ⟨rfl, B8.out.trans (hb10.mono B8.out.size)⟩
end
end Go.Proofs.YtnnlblcaidffcaaGreatDoor
