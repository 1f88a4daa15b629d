/- Package val: Index of other kinds; Index as a whole, of values that are made; what is the document's; the document's List. -/
import Derived.Test.YtmmdjpogepjdaaaDoorValMf
import Derived.Test.YtmmdjpogepjdaaaDoorValV
import Derived.Test.YtmmdjpogepjdaaaDoorValZa
namespace Go.Proofs.YtmmdjpogepjdaaaDoor
open Go.RowKit
set_option linter.unusedVariables false
set_option linter.unusedSimpArgs false

section
variable (w : World)
set_option maxRecDepth 20000
set_option maxHeartbeats 4000000 in
theorem vi_bad (D : Nat) (a b : VL) (la lb : Value) (ha : RowRd w D a.kids la) (hb0 : RowRd w D b.kids lb) (h : ¬ a.kind = 4 ∨ ¬ b.kind = 1) :
    Calls Tryd.prog 12 #[.agg #[.int .i64 a.kind, .int .i64 a.num, .string a.text, la], .agg #[.int .i64 b.kind, .int .i64 b.num, .string b.text, lb]] w (IsTold 0 0 ⟨#[]⟩ 7 w) := by
  have H := Lib.hid ha
  have HB := Lib.hid hb0
  have HK := Lib.hid h
  obtain ⟨lao, lcap, rfl⟩ := ha.shape
  obtain ⟨lao2, lcap2, rfl⟩ := hb0.shape
  clear ha hb0 h
  go_enter Tryd.func12, Tryd.ntmps12
  go_wp2_with fail
  have Y := Lib.hid (show VBlk (((w.alloc (.cells #[.int .i64 a.kind, .int .i64 a.num, .string a.text, .slice lao a.kids.length lcap] 24)).alloc (.cells #[.int .i64 b.kind, .int .i64 b.num, .string b.text, .slice lao2 b.kids.length lcap2] 24)).alloc (.cells #[.int .i64 0, .int .i64 0, .string ⟨#[]⟩, .slice none 0 0] 24)) (w.heap.size + 1) b (.slice lao2 b.kids.length lcap2) by
    have h := (VBlk.new (w.alloc (.cells #[.int .i64 a.kind, .int .i64 a.num, .string a.text, .slice lao a.kids.length lcap] 24)) b (.slice lao2 b.kids.length lcap2)).below (below_al (Below.refl _ _) (.cells #[.int .i64 0, .int .i64 0, .string ⟨#[]⟩, .slice none 0 0] 24))
    rwa [show (w.alloc (.cells #[.int .i64 a.kind, .int .i64 a.num, .string a.text, .slice lao a.kids.length lcap] 24)).heap.size = w.heap.size + 1 by simp] at h)
  have R := Lib.hid (NBlk.new ((w.alloc (.cells #[.int .i64 a.kind, .int .i64 a.num, .string a.text, .slice lao a.kids.length lcap] 24)).alloc (.cells #[.int .i64 b.kind, .int .i64 b.num, .string b.text, .slice lao2 b.kids.length lcap2] 24)) 0 0 ⟨#[]⟩)
  rw [show ((w.alloc (.cells #[.int .i64 a.kind, .int .i64 a.num, .string a.text, .slice lao a.kids.length lcap] 24)).alloc (.cells #[.int .i64 b.kind, .int .i64 b.num, .string b.text, .slice lao2 b.kids.length lcap2] 24)).heap.size = w.heap.size + 1 + 1 by simp] at R
  have K := Lib.hid (show Kept w _ from below_al (below_al (below_al (Below.refl w.heap.size w) (.cells #[.int .i64 a.kind, .int .i64 a.num, .string a.text, .slice lao a.kids.length lcap] 24)) (.cells #[.int .i64 b.kind, .int .i64 b.num, .string b.text, .slice lao2 b.kids.length lcap2] 24)) (.cells #[.int .i64 0, .int .i64 0, .string ⟨#[]⟩, .slice none 0 0] 24))
  have HW3 := Lib.hid (show (((w.alloc (.cells #[.int .i64 a.kind, .int .i64 a.num, .string a.text, .slice lao a.kids.length lcap] 24)).alloc (.cells #[.int .i64 b.kind, .int .i64 b.num, .string b.text, .slice lao2 b.kids.length lcap2] 24)).alloc (.cells #[.int .i64 0, .int .i64 0, .string ⟨#[]⟩, .slice none 0 0] 24)).heap.size = w.heap.size + 1 + 1 + 1 by simp)
  generalize ((w.alloc (.cells #[.int .i64 a.kind, .int .i64 a.num, .string a.text, .slice lao a.kids.length lcap] 24)).alloc (.cells #[.int .i64 b.kind, .int .i64 b.num, .string b.text, .slice lao2 b.kids.length lcap2] 24)).alloc (.cells #[.int .i64 0, .int .i64 0, .string ⟨#[]⟩, .slice none 0 0] 24) = w3 at *
  rw [← HW3.out]
  have LE := Lib.hid (show w.heap.size ≤ w.heap.size + 1 + 1 by omega)
  have KB : Below w.heap.size w w3 := K.out
  by_cases h4 : a.kind = 4
  · have A1 := Lib.hid (show allB 4 [a] = true by simp [allB, h4])
    have A2 := Lib.hid (show allB 1 [b] = false by
      rcases HK.out with h | h
      · exact absurd h4 h
      · simp [allB, h])
    clear h4
    refine (vall _ (D + 1) 4 [a] _ (row_one (v := a) (heap_at rfl) (H.out.below (below_al KB _)))).mono ?_
    rw [A1.out]
    rintro e w1 ⟨rfl, hb⟩
    replace Y := Lib.hid ((Y.out.below (below_al (Below.refl _ _) _)).below hb)
    replace R := Lib.hid ((R.out.al _).below hb)
    replace K := Lib.hid (kept_tr (kept_al K.out _) hb)
    clear hb KB
    obtain ⟨y0, y1, y2, y3⟩ := Y.out.cells
    go_wp2_with fail
    clear y0 y1 y2 y3
    have KB : Below w.heap.size w w1 := K.out
    refine (vall _ (D + 1) 1 [b] _ (row_one (v := b) (heap_at rfl) (HB.out.below (below_al KB _)))).mono ?_
    rw [A2.out]
    rintro e w2 ⟨rfl, hb⟩
    replace R := Lib.hid ((R.out.al _).below hb)
    replace K := Lib.hid (kept_tr (kept_al K.out _) hb)
    clear hb
    obtain ⟨⟨r0, r1, r2, r3, rl⟩, f0, f1, f2, f3⟩ := R.out.full
    go_wp2_with fail
    exact bodyPost_ret (v := .tuple #[.agg #[.int .i64 0, .int .i64 0, .string ⟨#[]⟩, .slice none 0 0], .int .i64 7]) (by simp [results, Tryd.results12, go_sem, r0, r1, r2, r3]) rfl ⟨rfl, below_set4 K.out LE.out _ _ _ _⟩
  · have A1 := Lib.hid (show allB 4 [a] = false by simp [allB, h4])
    clear h4
    refine (vall _ (D + 1) 4 [a] _ (row_one (v := a) (heap_at rfl) (H.out.below (below_al KB _)))).mono ?_
    rw [A1.out]
    rintro e w1 ⟨rfl, hb⟩
    replace R := Lib.hid ((R.out.al _).below hb)
    replace K := Lib.hid (kept_tr (kept_al K.out _) hb)
    clear hb KB
    obtain ⟨⟨r0, r1, r2, r3, rl⟩, f0, f1, f2, f3⟩ := R.out.full
    go_wp2_with fail
    exact bodyPost_ret (v := .tuple #[.agg #[.int .i64 0, .int .i64 0, .string ⟨#[]⟩, .slice none 0 0], .int .i64 7]) (by simp [results, Tryd.results12, go_sem, r0, r1, r2, r3]) rfl ⟨rfl, below_set4 K.out LE.out _ _ _ _⟩
theorem tells_told {D : Nat} {k n c : Int} {s : ByteArray} {w w' : World} {e : Ending} (h : IsTold k n s c w e w') : Tells D (.mk k n s [], c) w e w' := ⟨_, h.1, RowRd.nil _ _ _ _, h.2⟩
theorem tells_gives {D : Nat} {u : VL} {w w' : World} {e : Ending} (h : Gives D u.kind u.num u.text u.kids w e w') : Tells D (u, 0) w e w' := by
  obtain ⟨lv, he, hr, hb⟩ := h
  exact ⟨lv, he, hr.rd, hb⟩
/-- Index, of values that may be. -/
theorem vindex (D : Nat) (a b : VL) (la lb : Value) (ha : RowRd w D a.kids la) (hb : RowRd w D b.kids lb) (hn : b.kind ≠ 4 → lb = .slice none 0 0) (h4 : a.kind = 4 → a = vlist a.kids) (h1 : b.kind = 1 → b = vnum b.num) (d : Nat) (hm : mayB d a = true) :
    Calls Tryd.prog 12 #[.agg #[.int .i64 a.kind, .int .i64 a.num, .string a.text, la], .agg #[.int .i64 b.kind, .int .i64 b.num, .string b.text, lb]] w (Tells (D - 1) (idxR a b) w) := by
  by_cases hk : a.kind ≠ 4 ∨ b.kind ≠ 1
  · have e : idxR a b = (vz, 7) := if_pos hk
    rw [e]
    exact (vi_bad w D a b la _ ha hb hk).mono fun _ _ h => tells_told h
  · have ha4 : a.kind = 4 := by
      rcases Int.decEq a.kind 4 with h | h
      · exact absurd (.inl h) hk
      · exact h
    have hb1 : b.kind = 1 := by
      rcases Int.decEq b.kind 1 with h | h
      · exact absurd (.inr h) hk
      · exact h
    have e : idxR a b = (if b.num < 0 then ((vz, 2) : VL × Int) else match a.kids[b.num.toNat]? with | some u => (u, 0) | none => (vz, 2)) := if_neg hk
    rw [e]
    have ea := h4 ha4
    obtain rfl := hn (by rw [hb1]; decide)
    have eb := h1 hb1
    have ga : a.kind = 4 ∧ a.num = 0 ∧ a.text = ⟨#[]⟩ := ⟨ha4, by rw [ea]; rfl, by rw [ea]; rfl⟩
    have gb : b.text = ⟨#[]⟩ := by rw [eb]; rfl
    rw [ga.1, ga.2.1, ga.2.2, hb1, gb]
    by_cases hn : b.num < 0
    · rw [if_pos hn]
      exact (vindex_none w D a.kids la b.num ha (.inl hn)).mono fun _ _ h => tells_told h
    · rw [if_neg hn]
      cases hu : a.kids[b.num.toNat]? with
      | none =>
        have hl : a.kids.length ≤ b.num.toNat := by simpa using hu
        exact (vindex_none w D a.kids la b.num ha (.inr (by omega))).mono fun _ _ h => tells_told h
      | some u =>
        exact (vindex_at w D (d - 1) a.kids la b.num.toNat u b.num (by omega) ha hu ((may_kids hm).2 u (List.mem_of_getElem? hu))).mono fun _ _ h => tells_gives h
theorem rindex (D : Nat) (a b : VL) (la : Value) (lao2 : Option Addr) (ln2 lcap2 : Nat) (ha : RowRd w D a.kids la) (hi : I64 b.num) :
    Calls Tryd.prog 21 #[.agg #[.int .i64 a.kind, .int .i64 a.num, .string a.text, la], .agg #[.int .i64 b.kind, .int .i64 b.num, .string b.text, .slice lao2 ln2 lcap2]] w (DocR (D - 1) (idxR a b) w) := by
  by_cases ha4 : a.kind = 4
  · by_cases hb1 : b.kind = 1
    · have e : idxR a b = (if b.num < 0 then ((vz, 2) : VL × Int) else match a.kids[b.num.toNat]? with | some u => (u, 0) | none => (vz, 2)) := if_neg (by simp [ha4, hb1])
      rw [e]
      have hl := ha.len
      by_cases hn : b.num < 0
      · rw [if_pos hn]
        obtain ⟨lao, lcap, rfl⟩ := ha.shape
        exact (ri_none w a b lao lao2 _ lcap ln2 lcap2 ha4 hb1 hi hl (.inl hn)).mono fun _ _ h => doc_nil h rfl
      · rw [if_neg hn]
        cases hu : a.kids[b.num.toNat]? with
        | none =>
          have hl2 : a.kids.length ≤ b.num.toNat := by simpa using hu
          obtain ⟨lao, lcap, rfl⟩ := ha.shape
          exact (ri_none w a b lao lao2 _ lcap ln2 lcap2 ha4 hb1 hi hl (.inr (by omega))).mono fun _ _ h => doc_nil h rfl
        | some u => exact ri_at w D a b u la lao2 ln2 lcap2 ha4 hb1 ha b.num.toNat (by omega) hu
    · have e : idxR a b = (vz, 7) := if_pos (.inr hb1)
      rw [e]
      obtain ⟨lao, lcap, rfl⟩ := ha.shape
      exact (ri_bad2 w a b lao lao2 _ lcap ln2 lcap2 ha4 hb1).mono fun _ _ h => doc_nil h rfl
  · have e : idxR a b = (vz, 7) := if_pos (.inl ha4)
    rw [e]
    obtain ⟨lao, lcap, rfl⟩ := ha.shape
    exact (ri_bad1 w a b lao lao2 _ lcap ln2 lcap2 ha4).mono fun _ _ h => doc_nil h rfl
set_option maxHeartbeats 4000000 in
theorem lis (D : Nat) (v g : VL) (lv lg : Value) (e c : Int) (hv : RowRd w D v.kids lv) (hg : RowRd w D g.kids lg) :
    Calls Tryd.prog 18 #[.agg #[.int .i64 v.kind, .int .i64 v.num, .string v.text, lv], .int .i64 e, .agg #[.int .i64 g.kind, .int .i64 g.num, .string g.text, lg, .int .i64 c]] w (Made (.bool (sameB D v g && (e == c))) w) := by
  have C := Lib.hid (fun W (hw : Below w.heap.size w W) => (rsame D).call v g lv lg W (hv.below hw) (hg.below hw))
  obtain ⟨lao, lcap, rfl⟩ := hv.shape
  obtain ⟨lao2, lcap2, rfl⟩ := hg.shape
  clear hv hg
  generalize sameB D v g = sb at *
  have SZ := Lib.hid (show ((w.alloc (.cells #[.int .i64 v.kind, .int .i64 v.num, .string v.text, .slice lao v.kids.length lcap] 24)).alloc (.cells #[.int .i64 g.kind, .int .i64 g.num, .string g.text, .slice lao2 g.kids.length lcap2, .int .i64 c] 43)).heap.size = w.heap.size + 1 + 1 by simp)
  cases sb
  · go_enter Tryd.func18, Tryd.ntmps18
    go_wp2_with fail
    first
    | go_region_with (first
      | (go_at_call 14; refine (C.out _ (below_drew (below_al (below_al (Below.refl _ _) _) _))).mono ?_; rintro e' w1 ⟨rfl, hb⟩; have B1 := Lib.hid (below_tr (below_drew (below_al (below_al (Below.refl _ _) _) _)) hb)))
    | fail
    all_goals go_wp2
    all_goals go_ret
    all_goals exact ⟨rfl, B1.out⟩
  · go_enter Tryd.func18, Tryd.ntmps18
    go_wp2_with fail
    go_region_with (first
      | (go_at_call 14; refine (C.out _ (below_drew (below_al (below_al (Below.refl _ _) _) _))).mono ?_; rintro e' w1 ⟨rfl, hb⟩; have B1 := Lib.hid (below_tr (below_drew (below_al (below_al (Below.refl _ _) _) _)) hb); obtain ⟨hc, hf⟩ := bcell hb; have hz : w.heap.size + 1 + 1 ≤ w1.heap.size := (by rw [← SZ.out]; exact hb.size); have hlt : w.heap.size + 1 < w1.heap.size := (by omega))
      | (go_at_call 17; refine (lnum _ _).mono ?_; rintro e' w2 ⟨rfl, rfl⟩))
    all_goals go_wp2
    all_goals go_ret
    all_goals exact ⟨rfl, B1.out⟩
end
end Go.Proofs.YtmmdjpogepjdaaaDoor
