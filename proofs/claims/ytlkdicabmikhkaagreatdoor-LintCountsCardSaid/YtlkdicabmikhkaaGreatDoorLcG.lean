/- The law of counted names. -/
import Derived.Test.YtlkdicabmikhkaaGreatDoorLcF
namespace Go.Proofs.YtlkdicabmikhkaaGreatDoor
open Go.RowKit Go.Sort
set_option linter.unusedVariables false
set_option linter.unusedSimpArgs false
theorem rdig (w : World) (i : Nat) (h : i < 8) : Calls Tryz.prog 6 #[.int .i64 i] w (Made (.string ⟨(Lib.decDigits i).toArray⟩) w) := rdigs_pos w i (by omega)
theorem onL_snoc {α : Type} (xs : List Bool) (f : Nat → α) (n : Nat) : onL xs f (n + 1) = onL xs f n ++ (if xs.getD n false then [f n] else []) := by unfold onL; rw [range_snoc]
theorem offL_snoc {α : Type} (xs : List Bool) (f : Nat → α) (n : Nat) : offL xs f (n + 1) = offL xs f n ++ (if xs.getD n false then [] else [f n]) := by unfold offL; rw [range_snoc]
theorem offL_len {α : Type} (xs : List Bool) (f : Nat → α) (n : Nat) : (offL xs f n).length ≤ n := by
  have := flat_few (fun i => if xs.getD i false then [] else [f i]) 1 (fun i => by split <;> simp) (List.range n)
  unfold offL
  simpa using this
theorem bools_at {w : World} {v : Value} {xs : List Bool} (h : BoolsRd w v xs) {j : Nat} (hj : j < xs.length) : ∃ g o cap, v = .slice (some ⟨g, o, none⟩) xs.length cap ∧ w.cell? ⟨g, o + j, none⟩ = some (.bool (xs.getD j false)) := by
  obtain ⟨ao, cap, rfl, hc⟩ := h
  obtain ⟨g, o, rfl, h1⟩ := hc j _ (List.getElem?_eq_getElem hj)
  exact ⟨g, o, cap, rfl, by rw [h1]; simp [hj]⟩
/-- The first loop: variables; node n lies at gn. -/
def C1R (w : World) (gn : Nat) (vs : List Bool) (m : Nat) (vl vq iv : Value) (wr : World) : Prop :=
  ∃ (j : Nat) (K : Nat → Prop) (vn : Value) (bs : List (BlkL × Value × Value)) (xn : List ((ByteArray × List NodeL) × Value)), iv = .int .i64 j ∧ vs.length - j ≤ m ∧ j ≤ vs.length ∧
    Below w.heap.size w wr ∧ SAt wr gn 3 ⟨#[110]⟩ vn ∧
    R4 K (fun _ => False) wr (gn + 1) vl bs vn xn (.slice none 0 0) [] vq (offL vs (fun i => ((1 : Int), nm 118 i)) j) ∧ bs.map (·.1) = (List.range j).map vB ∧ xn.map (·.1) = onL vs nA j
/-- The second loop: locals; their block lies at gb. -/
def C2R (w : World) (gn gb : Nat) (vs ls : List Bool) (vl : Value) (bs : List (BlkL × Value × Value)) (m : Nat) (vq iv : Value) (wr : World) : Prop :=
  ∃ (j : Nat) (K D : Nat → Prop) (vn vt : Value) (xn xt : List ((ByteArray × List NodeL) × Value)), iv = .int .i64 j ∧ ls.length - j ≤ m ∧ j ≤ ls.length ∧
    Below w.heap.size w wr ∧ SAt wr gn 3 ⟨#[110]⟩ vn ∧ SAt wr gb 2 ⟨#[]⟩ vt ∧ D gb ∧
    R4 K D wr (gn + 1) vl bs vn xn vt xt vq (offL vs (fun i => ((1 : Int), nm 118 i)) vs.length ++ offL ls (fun i => ((2 : Int), nm 108 i)) j) ∧ xn.map (·.1) = onL vs nA vs.length ++ onL ls mA j ∧ xt.map (·.1) = (List.range j).map tA
/-- The third loop: defines. -/
def C3R (w : World) (gn : Nat) (vs ls ds : List Bool) (m : Nat) (vl vq iv : Value) (wr : World) : Prop :=
  ∃ (j : Nat) (K : Nat → Prop) (bs : List (BlkL × Value × Value)), iv = .int .i64 j ∧ ds.length - j ≤ m ∧ j ≤ ds.length ∧ Below w.heap.size w wr ∧ gn < wr.heap.size ∧
    R4 K (fun _ => False) wr (gn + 1) vl bs (.slice none 0 0) [] (.slice none 0 0) [] vq (offL vs (fun i => ((1 : Int), nm 118 i)) vs.length ++ offL ls (fun i => ((2 : Int), nm 108 i)) ls.length ++ offL ds (fun i => ((3 : Int), nm 100 i)) j) ∧
    bs.map (·.1) = (List.range vs.length).map vB ++ [nB (attN vs ls), lB ((List.range ls.length).map tA)] ++ dsL ds j
theorem dsL_snoc (ds : List Bool) (n : Nat) : dsL ds (n + 1) = dsL ds n ++ (dB n :: if ds.getD n false then [uB n] else []) := by unfold dsL; rw [range_snoc]
section
variable (w : World)
set_option maxHeartbeats 4000000 in
set_option maxRecDepth 20000 in
theorem law_counts (va vb vc : Value) (vs ls ds : List Bool) (hva : BoolsRd w va vs) (hvb : BoolsRd w vb ls) (hvc : BoolsRd w vc ds) (h1 : vs.length ≤ maxLen) (h2 : ls.length ≤ maxLen) (h3 : ds.length ≤ maxLen) (hv : ErrVar w) : Calls Tryz.prog 3 #[va, vb, vc] w (Made (.bool true) w) := by
  have V := Lib.hid hv
  have HA := Lib.hid hva
  have HB := Lib.hid hvb
  have HC := Lib.hid hvc
  obtain ⟨i0, hi0, hz0, hz1, hz2⟩ := info_parts info_blk
  obtain ⟨j0, hj0, hy0, hy1, hy2⟩ := info_parts info_attr
  obtain ⟨k0, hk0, hx0, hx1, hx2⟩ := info_parts info_warn
  obtain ⟨ao, ac, rfl, -⟩ := hva
  obtain ⟨bo, bc, rfl, -⟩ := hvb
  obtain ⟨co, cc, rfl, -⟩ := hvc
  clear hv
  by_cases hbig : 8 < vs.length ∨ 8 < ls.length ∨ 8 < ds.length
  · have PA := Lib.hid (law_awake9 w V.out)
    have hcase : (8 < vs.length) ∨ (¬ 8 < vs.length ∧ 8 < ls.length) ∨ (¬ 8 < vs.length ∧ ¬ 8 < ls.length ∧ 8 < ds.length) := by omega
    clear hbig HA HB HC
    rcases hcase with hc | ⟨hc, hc2⟩ | ⟨hc, hc2, hc3⟩
    · have g1 : (8 : Int) < (vs.length : Int) := by omega
      go_enter Tryz.func3, Tryz.ntmps3
      go_wp2_with fail
      refine PA.out.mono ?_
      rintro e w1 ⟨rfl, hb1⟩
      go_wp2_with fail
      go_ret
      exact ⟨rfl, hb1⟩
    · have g1 : ¬ (8 : Int) < (vs.length : Int) := by omega
      have g2 : (8 : Int) < (ls.length : Int) := by omega
      go_enter Tryz.func3, Tryz.ntmps3
      go_wp2_with fail
      refine PA.out.mono ?_
      rintro e w1 ⟨rfl, hb1⟩
      go_wp2_with fail
      go_ret
      exact ⟨rfl, hb1⟩
    · have g1 : ¬ (8 : Int) < (vs.length : Int) := by omega
      have g2 : ¬ (8 : Int) < (ls.length : Int) := by omega
      have g3 : (8 : Int) < (ds.length : Int) := by omega
      go_enter Tryz.func3, Tryz.ntmps3
      go_wp2_with fail
      refine PA.out.mono ?_
      rintro e w1 ⟨rfl, hb1⟩
      go_wp2_with fail
      go_ret
      exact ⟨rfl, hb1⟩
  · have hv8 : vs.length ≤ 8 := by omega
    have hl8 : ls.length ≤ 8 := by omega
    have hd8 : ds.length ≤ 8 := by omega
    clear hbig h1 h2 h3
    have g1 : ¬ (8 : Int) < (vs.length : Int) := by omega
    have g2 : ¬ (8 : Int) < (ls.length : Int) := by omega
    have g3 : ¬ (8 : Int) < (ds.length : Int) := by omega
    have BA := Lib.hid (below_al (Below.refl w.heap.size w) (.cells #[.int .i64 3, .string ⟨#[110]⟩, .slice none 0 0, .slice none 0 0] 28))
    have NN := Lib.hid (heap_alloc_new w (.cells #[.int .i64 3, .string ⟨#[110]⟩, .slice none 0 0, .slice none 0 0] 28))
    go_enter Tryz.func3, Tryz.ntmps3
    go_wp2_with fail
    generalize w.alloc (.cells #[.int .i64 3, .string ⟨#[110]⟩, .slice none 0 0, .slice none 0 0] 28) = W at *
    go_loopg [7, 8, 10] vs.length (fun m vl vq iv wr => C1R w w.heap.size vs m vl vq iv wr)
    case atStart => exact ⟨0, fun _ => False, .slice none 0 0, [], [], rfl, Nat.le_refl _, Nat.zero_le _, BA.out, SAt.new NN.out, R4.nil _ _, rfl, rfl⟩
    case round =>
      obtain ⟨j, K, vn, bs, xn, rfl, hm, hj, hb, hsn, hr, hbs, hxn⟩ := hrel
      have HM := Lib.hid hm
      have B := Lib.hid hb
      have SN := Lib.hid hsn
      have R := Lib.hid hr
      have BS := Lib.hid hbs
      have XN := Lib.hid hxn
      have BL := Lib.hid (show bs.length = j by have := congrArg List.length hbs; simpa using this)
      have XL := Lib.hid (show xn.length ≤ j by have := congrArg List.length hxn; have h2 := onL_len vs nA j; simp at this; omega)
      obtain ⟨lo, lc, rfl⟩ := own_lenR hr.l
      obtain ⟨qo, qc, rfl⟩ := own_lenR hr.q
      obtain ⟨no, nc, rfl⟩ := own_lenR hr.n
      have OQ := Lib.hid (offL_len vs (fun i => ((1 : Int), nm 118 i)) j)
      clear hm hb hsn hr hbs hxn
      by_cases hjl : j < vs.length
      · have hj8 : j < 8 := by omega
        have CD := Lib.hid (rdig wr j hj8)
        have hds2 : ¬ 9223372036854775807 < 1 + (Lib.decDigits j).length := by have := dec_len 3 j (by omega) (by omega); omega
        obtain ⟨ga, oa, ca, ea, ka⟩ := bools_at HA.out hjl
        simp only [Value.slice.injEq, true_and] at ea
        obtain ⟨rfl, rfl⟩ := ea
        have KA := Lib.hid ka
        clear ka
        go_wp2_with fail
        refine CD.out.mono ?_
        rintro e w2 ⟨rfl, hb2⟩
        have HB2 := Lib.hid hb2
        clear hb2 CD
        have hgn := SN.out.lt
        have BL4 := Lib.hid (below_tr HB2.out (below_al (below_al (below_al (below_al (Below.refl w2.heap.size w2) (.cells #[.bool false, .string ⟨#[105, 110, 116]⟩] 31)) (.cells #[.int .i64 2, .int .i64 0, .string ⟨#[]⟩, .slice (some ⟨w2.heap.size, 0, none⟩) 1 1, .slice none 0 0] 35)) (.cells #[.string ⟨#[116, 121, 112, 101]⟩, .slice (some ⟨w2.heap.size + 1, 0, none⟩) 1 1] 38)) (.cells #[.int .i64 1, .string (⟨#[118]⟩ ++ ⟨(Lib.decDigits j).toArray⟩), .slice (some ⟨w2.heap.size + 1 + 1, 0, none⟩) 1 1, .slice none 0 0] 28)))
        have S4 := Lib.hid (show ((((w2.alloc (.cells #[.bool false, .string ⟨#[105, 110, 116]⟩] 31)).alloc (.cells #[.int .i64 2, .int .i64 0, .string ⟨#[]⟩, .slice (some ⟨w2.heap.size, 0, none⟩) 1 1, .slice none 0 0] 35)).alloc (.cells #[.string ⟨#[116, 121, 112, 101]⟩, .slice (some ⟨w2.heap.size + 1, 0, none⟩) 1 1] 38)).alloc (.cells #[.int .i64 1, .string (⟨#[118]⟩ ++ ⟨(Lib.decDigits j).toArray⟩), .slice (some ⟨w2.heap.size + 1 + 1, 0, none⟩) 1 1, .slice none 0 0] 28)).heap.size = w2.heap.size + 4 by simp)
        have R5 := Lib.hid (R.out.ext BL4.out hgn (fun k => w2.heap.size ≤ k ∧ k < w2.heap.size + 3) fun k hk => ⟨Nat.le_trans HB2.out.size hk.1, by have := S4.out; omega⟩)
        have CV := Lib.hid (cont_var (K := fun k => K k ∨ w2.heap.size ≤ k ∧ k < w2.heap.size + 3) (w := (((w2.alloc (.cells #[.bool false, .string ⟨#[105, 110, 116]⟩] 31)).alloc (.cells #[.int .i64 2, .int .i64 0, .string ⟨#[]⟩, .slice (some ⟨w2.heap.size, 0, none⟩) 1 1, .slice none 0 0] 35)).alloc (.cells #[.string ⟨#[116, 121, 112, 101]⟩, .slice (some ⟨w2.heap.size + 1, 0, none⟩) 1 1] 38)).alloc (.cells #[.int .i64 1, .string (⟨#[118]⟩ ++ ⟨(Lib.decDigits j).toArray⟩), .slice (some ⟨w2.heap.size + 1 + 1, 0, none⟩) 1 1, .slice none 0 0] 28)) (G := w2.heap.size) (j := j) (heapLo (heapLo (heapLo (heap_alloc_new w2 _)))) (heapLo (heapLo (heapAt (by simp)))) (heapLo (heapAt (by simp))) (fun k h1 h2 => .inr ⟨h1, h2⟩))
        have hsm : bs.length + 1 ≤ maxLen ∧ (bs.length + 1) * 72 ≤ 140737488355328 := by have := BL.out; unfold maxLen; omega
        have hbs : w.heap.size + 1 ≤ ((((w2.alloc (.cells #[.bool false, .string ⟨#[105, 110, 116]⟩] 31)).alloc (.cells #[.int .i64 2, .int .i64 0, .string ⟨#[]⟩, .slice (some ⟨w2.heap.size, 0, none⟩) 1 1, .slice none 0 0] 35)).alloc (.cells #[.string ⟨#[116, 121, 112, 101]⟩, .slice (some ⟨w2.heap.size + 1, 0, none⟩) 1 1] 38)).alloc (.cells #[.int .i64 1, .string (⟨#[118]⟩ ++ ⟨(Lib.decDigits j).toArray⟩), .slice (some ⟨w2.heap.size + 1 + 1, 0, none⟩) 1 1, .slice none 0 0] 28)).heap.size := by have := S4.out; have := HB2.out.size; omega
        go_wp2_with (at_builtin; refine wpList_append_lies _ rfl _ _ 24 rfl (w.heap.size + 1) 28 i0 _ 4 72 Tryz.underlying24 hi0 hz0 hz1 hz2 rfl (by decide) (.slice lo bs.length lc) bs.length (bCells bs) rfl R5.out.l ⟨w2.heap.size + 1 + 1 + 1, 0, none⟩ 1 1 [.int .i64 1, .string (⟨#[118]⟩ ++ ⟨(Lib.decDigits j).toArray⟩), .slice (some ⟨w2.heap.size + 1 + 1, 0, none⟩) 1 1, .slice none 0 0] rfl rfl ?nw1 (by simp [Value.oneCell']) (by decide) hsm.1 hsm.2 hbs (w2.heap.size + 4) S4.out ?_)
        case nw1 => exact news_at (by simp) _ _
        intro g9 cap9 w9 hown hgrow hat hlt
        have R9 := Lib.hid (R5.out.growL (p := (vB j, .slice (some ⟨w2.heap.size + 1 + 1, 0, none⟩) 1 1, .slice none 0 0)) CV.out hgrow (by rw [S4.out]; exact hat) hown)
        have hg9 := (grown_low R5.out.l hgrow (k := w.heap.size) (by omega) (by have := S4.out; have := HB2.out.size; omega)).trans (BL4.out.block _ hgn)
        have SN9 := Lib.hid (SN.out.stay hg9)
        have B9 := Lib.hid (below_row (B.out.trans (BL4.out.mono B.out.size)) R5.out.l (by omega) hgrow)
        have ka9 := hold B9.out KA.out
        have BM := Lib.hid (show (bs ++ [(vB j, (.slice (some ⟨w2.heap.size + 1 + 1, 0, none⟩) 1 1 : Value), (.slice none 0 0 : Value))]).map (·.1) = (List.range (j + 1)).map vB by rw [List.map_append, BS.out, List.range_succ, List.map_append]; rfl)
        have q0 : (0 : Int) ≤ (j : Int) := by omega
        have q1 : (j : Int) < (vs.length : Int) := by omega
        clear hown hgrow hat hlt R5 CV hsm hbs hg9 BL4 S4 HB2
        generalize bs ++ [(vB j, (.slice (some ⟨w2.heap.size + 1 + 1, 0, none⟩) 1 1 : Value), (.slice none 0 0 : Value))] = bs9 at *
        have NM := Lib.hid (show (⟨#[118]⟩ ++ ⟨(Lib.decDigits j).toArray⟩ : ByteArray) = nm 118 j from rfl)
        generalize (⟨#[118]⟩ ++ ⟨(Lib.decDigits j).toArray⟩ : ByteArray) = s at *
        generalize (Lib.decDigits j).toArray = dj at *
        clear hds2
        have hsz : s.size ≤ 4 := by rw [NM.out]; exact nm_size (by omega)
        have hs3 : ¬ 9223372036854775807 < 1 + s.size := by omega
        have hs4 : ¬ 9223372036854775807 < 4 + s.size := by omega
        generalize (fun k => K k ∨ w2.heap.size ≤ k ∧ k < w2.heap.size + 3) = K9 at *
        cases hon : vs.getD j false with
        | true =>
          rw [hon] at ka9
          have ON := Lib.hid (show onL vs nA (j + 1) = onL vs nA j ++ [nA j] by rw [onL_snoc, hon]; rfl)
          have OF := Lib.hid (show offL vs (fun i => ((1 : Int), nm 118 i)) (j + 1) = offL vs (fun i => ((1 : Int), nm 118 i)) j by rw [offL_snoc, hon]; simp)
          have n2 := SN9.out.c2
          have BL5 := Lib.hid (below_al (below_al (Below.refl w9.heap.size w9) (.cells #[.int .i64 4, .int .i64 0, .string (⟨#[118, 97, 114, 46]⟩ ++ s), .slice none 0 0, .slice none 0 0] 35)) (.cells #[.string (⟨#[97]⟩ ++ s), .slice (some ⟨w9.heap.size, 0, none⟩) 1 1] 38))
          have S5 := Lib.hid (show ((w9.alloc (.cells #[.int .i64 4, .int .i64 0, .string (⟨#[118, 97, 114, 46]⟩ ++ s), .slice none 0 0, .slice none 0 0] 35)).alloc (.cells #[.string (⟨#[97]⟩ ++ s), .slice (some ⟨w9.heap.size, 0, none⟩) 1 1] 38)).heap.size = w9.heap.size + 2 by simp)
          have hgn9 := SN9.out.lt
          have R10 := Lib.hid (R9.out.ext BL5.out hgn9 (fun k => k = w9.heap.size) fun k hk => ⟨by omega, by have := S5.out; omega⟩)
          have CN := Lib.hid (show Cont (fun k => K9 k ∨ k = w9.heap.size) ((w9.alloc (.cells #[.int .i64 4, .int .i64 0, .string (⟨#[118, 97, 114, 46]⟩ ++ s), .slice none 0 0, .slice none 0 0] 35)).alloc (.cells #[.string (⟨#[97]⟩ ++ s), .slice (some ⟨w9.heap.size, 0, none⟩) 1 1] 38)) (fun w' => NodesRd w' (.slice (some ⟨w9.heap.size, 0, none⟩) 1 1) (nA j).2) from fun w' hs => by
            have h := refN_rd ((hs _ (.inr rfl)).trans (heapLo (heap_alloc_new w9 (.cells #[.int .i64 4, .int .i64 0, .string (⟨#[118, 97, 114, 46]⟩ ++ s), .slice none 0 0, .slice none 0 0] 35))))
            show NodesRd w' _ (refN (sVar ++ nm 118 j))
            rw [← NM.out]
            exact h)
          have hsm : xn.length + 1 ≤ maxLen ∧ (xn.length + 1) * 40 ≤ 140737488355328 := by have := XL.out; unfold maxLen; omega
          have hbs : w.heap.size + 1 ≤ ((w9.alloc (.cells #[.int .i64 4, .int .i64 0, .string (⟨#[118, 97, 114, 46]⟩ ++ s), .slice none 0 0, .slice none 0 0] 35)).alloc (.cells #[.string (⟨#[97]⟩ ++ s), .slice (some ⟨w9.heap.size, 0, none⟩) 1 1] 38)).heap.size := by have := S5.out; omega
          clear hon
          go_wp2_with (at_builtin; refine wpList_append_lies _ rfl _ _ 26 rfl (w.heap.size + 1) 38 j0 _ 2 40 Tryz.underlying26 hj0 hy0 hy1 hy2 rfl (by decide) (.slice no xn.length nc) xn.length (aCells xn) rfl R10.out.n ⟨w9.heap.size + 1, 0, none⟩ 1 1 [.string (⟨#[97]⟩ ++ s), .slice (some ⟨w9.heap.size, 0, none⟩) 1 1] rfl rfl ?nw2 (by simp [Value.oneCell']) (by decide) hsm.1 hsm.2 hbs (w9.heap.size + 2) S5.out ?_)
          case nw2 => exact news_at (by simp) _ _
          intro g11 cap11 w11 hown hgrow hat hlt
          have R11 := Lib.hid (R10.out.growN (p := (nA j, .slice (some ⟨w9.heap.size, 0, none⟩) 1 1)) CN.out hgrow (by rw [S5.out]; exact hat) (by
            have e : aCells [(nA j, (.slice (some ⟨w9.heap.size, 0, none⟩) 1 1 : Value))] = [.string (⟨#[97]⟩ ++ s), .slice (some ⟨w9.heap.size, 0, none⟩) 1 1] := by rw [NM.out]; rfl
            rw [e]; exact hown))
          have hg11 := (grown_low R10.out.n hgrow (k := w.heap.size) (by omega) (by have := S5.out; omega)).trans (BL5.out.block _ hgn9)
          have SN11 := Lib.hid (SN9.out.stay hg11)
          have B11 := Lib.hid (below_row (B9.out.trans (BL5.out.mono B9.out.size)) R10.out.n (by omega) hgrow)
          have XM := Lib.hid (show (xn ++ [(nA j, (.slice (some ⟨w9.heap.size, 0, none⟩) 1 1 : Value))]).map (·.1) = onL vs nA (j + 1) by rw [List.map_append, XN.out, ON.out]; rfl)
          have p2 := SN11.out.c2
          have f2 := SN11.out.f2
          clear hown hgrow hat hlt R10 CN hsm hbs hg11 BL5 S5 n2
          have R12 := Lib.hid (R11.out.set (a := ⟨w.heap.size, 2, none⟩) (by show w.heap.size < w.heap.size + 1; omega) (.slice (some ⟨g11, 0, none⟩) (xn.length + 1) cap11))
          have SN12 := Lib.hid (SN11.out.set (.slice (some ⟨g11, 0, none⟩) (xn.length + 1) cap11))
          have B12 := Lib.hid (below_set_ge (f := 2) B11.out (Nat.le_refl w.heap.size) (.slice (some ⟨g11, 0, none⟩) (xn.length + 1) cap11))
          go_wp2_with fail
          go_roundg (vs.length - (j + 1))
          case rel => exact ⟨j + 1, _, _, _, _, rfl, Nat.le_refl _, hjl, B12.out, SN12.out, by rw [OF.out]; exact R12.out, BM.out, XM.out⟩
          case measure => have := HM.out; omega
        | false =>
          rw [hon] at ka9
          have ON := Lib.hid (show onL vs nA (j + 1) = onL vs nA j by rw [onL_snoc, hon]; simp)
          have OF := Lib.hid (show offL vs (fun i => ((1 : Int), nm 118 i)) (j + 1) = offL vs (fun i => ((1 : Int), nm 118 i)) j ++ [((1 : Int), nm 118 j)] by rw [offL_snoc, hon]; simp)
          have BL5 := Lib.hid (below_al (Below.refl w9.heap.size w9) (.cells #[.int .i64 1, .string s] 40))
          have S5 := Lib.hid (show (w9.alloc (.cells #[.int .i64 1, .string s] 40)).heap.size = w9.heap.size + 1 by simp)
          have hgn9 := SN9.out.lt
          have R10 := Lib.hid (R9.out.ext BL5.out hgn9 (fun k => False) fun k hk => hk.elim)
          generalize hql : offL vs (fun i => ((1 : Int), nm 118 i)) j = xq at *
          have hsm : xq.length + 1 ≤ maxLen ∧ (xq.length + 1) * 24 ≤ 140737488355328 := by have := OQ.out; unfold maxLen; omega
          have hbs : w.heap.size + 1 ≤ (w9.alloc (.cells #[.int .i64 1, .string s] 40)).heap.size := by have := S5.out; omega
          clear hon hql
          go_wp2_with (at_builtin; refine wpList_append_lies _ rfl _ _ 25 rfl (w.heap.size + 1) 40 k0 _ 2 24 Tryz.underlying25 hk0 hx0 hx1 hx2 rfl (by decide) (.slice qo xq.length qc) xq.length (warnCells xq) rfl R10.out.q ⟨w9.heap.size, 0, none⟩ 1 1 [.int .i64 1, .string s] rfl rfl ?nw3 (by simp [Value.oneCell']) (by decide) hsm.1 hsm.2 hbs (w9.heap.size + 1) S5.out ?_)
          case nw3 => exact news_at rfl _ _
          intro g11 cap11 w11 hown hgrow hat hlt
          have R11 := Lib.hid (R10.out.growQ (p := ((1 : Int), s)) hgrow (by rw [S5.out]; exact hat) hown)
          have hg11 := (grown_low R10.out.q hgrow (k := w.heap.size) (by omega) (by have := S5.out; omega)).trans (BL5.out.block _ hgn9)
          have SN11 := Lib.hid (SN9.out.stay hg11)
          have B11 := Lib.hid (below_row (B9.out.trans (BL5.out.mono B9.out.size)) R10.out.q (by omega) hgrow)
          clear hown hgrow hat hlt R10 hsm hbs hg11 BL5 S5
          go_wp2_with fail
          go_roundg (vs.length - (j + 1))
          case rel => exact ⟨j + 1, _, _, _, _, rfl, Nat.le_refl _, hjl, B11.out, SN11.out, by rw [OF.out, ← NM.out]; exact R11.out, BM.out, by rw [ON.out]; exact XN.out⟩
          case measure => have := HM.out; omega
      · obtain rfl : j = vs.length := by omega
        have BLb := Lib.hid (below_al (Below.refl wr.heap.size wr) (.cells #[.int .i64 2, .string ⟨#[]⟩, .slice none 0 0, .slice none 0 0] 28))
        have Sb := Lib.hid (show (wr.alloc (.cells #[.int .i64 2, .string ⟨#[]⟩, .slice none 0 0, .slice none 0 0] 28)).heap.size = wr.heap.size + 1 by simp)
        have hgn := SN.out.lt
        have Rb := Lib.hid (R.out.ext2 BLb.out hgn (fun _ => False) (fun k => k = wr.heap.size) (fun k hk => hk.elim) (fun k hk => ⟨by omega, by have := Sb.out; omega⟩) (fun k _ => id))
        have SNb := Lib.hid (SN.out.stay (BLb.out.block _ hgn))
        have STb := Lib.hid (SAt.new (heap_alloc_new wr (.cells #[.int .i64 2, .string ⟨#[]⟩, .slice none 0 0, .slice none 0 0] 28)))
        have Bb := Lib.hid (below_al B.out (.cells #[.int .i64 2, .string ⟨#[]⟩, .slice none 0 0, .slice none 0 0] 28))
        have OQ1 := OQ
        clear OQ SN R B BLb Sb HM hj hjl
        go_wp2_with fail
        generalize wr.alloc (.cells #[.int .i64 2, .string ⟨#[]⟩, .slice none 0 0, .slice none 0 0] 28) = Wb at *
        generalize wr.heap.size = gb at *
        go_loopg [8, 13] ls.length (fun m vq iv wr => C2R w w.heap.size gb vs ls (.slice lo bs.length lc) bs m vq iv wr)
        case atStart => exact ⟨0, (fun k => K k ∨ False), (fun k => False ∨ k = gb), _, _, xn, [], rfl, Nat.le_refl _, Nat.zero_le _, Bb.out, SNb.out, STb.out, .inr rfl, by rw [show offL ls (fun i => ((2 : Int), nm 108 i)) 0 = [] from rfl, List.append_nil]; exact Rb.out, by rw [show onL ls mA 0 = [] from rfl, List.append_nil]; exact XN.out, rfl⟩
        case round =>
          clear SNb STb Bb Rb XN XL
          obtain ⟨j, K, D, vn, vt, xn, xt, rfl, hm, hj, hb, hsn, hst, hdg, hr, hxn, hxt⟩ := hrel
          have HM := Lib.hid hm
          have B := Lib.hid hb
          have SN := Lib.hid hsn
          have ST := Lib.hid hst
          have DG := Lib.hid hdg
          have R := Lib.hid hr
          have XN := Lib.hid hxn
          have XT := Lib.hid hxt
          have XL := Lib.hid (show xn.length ≤ 8 + j by have := congrArg List.length hxn; have h2 := onL_len ls mA j; have h3 := onL_len vs nA vs.length; simp only [List.length_map, List.length_append] at this; omega)
          have TL := Lib.hid (show xt.length = j by have := congrArg List.length hxt; simpa using this)
          obtain ⟨qo, qc, rfl⟩ := own_lenR hr.q
          obtain ⟨no, nc, rfl⟩ := own_lenR hr.n
          obtain ⟨to2, tc, rfl⟩ := own_lenR hr.t
          have OQ := Lib.hid (show (offL vs (fun i => ((1 : Int), nm 118 i)) vs.length ++ offL ls (fun i => ((2 : Int), nm 108 i)) j).length ≤ 8 + j by rw [List.length_append]; have := offL_len ls (fun i => ((2 : Int), nm 108 i)) j; have := OQ1.out; omega)
          clear hm hb hsn hst hdg hr hxn hxt
          generalize hql : offL vs (fun i => ((1 : Int), nm 118 i)) vs.length ++ offL ls (fun i => ((2 : Int), nm 108 i)) j = xq at *
          have QL := Lib.hid hql
          clear hql
          by_cases hjl : j < ls.length
          · have hj8 : j < 8 := by omega
            have CD := Lib.hid (rdig wr j hj8)
            have hds2 : ¬ 9223372036854775807 < 1 + (Lib.decDigits j).length := by have := dec_len 3 j (by omega) (by omega); omega
            obtain ⟨ga2, oa2, ca2, ea, ka⟩ := bools_at HB.out hjl
            simp only [Value.slice.injEq, true_and] at ea
            obtain ⟨rfl, rfl⟩ := ea
            have KA := Lib.hid ka
            clear ka
            go_wp2_with fail
            refine CD.out.mono ?_
            rintro e w2 ⟨rfl, hb2⟩
            have HB2 := Lib.hid hb2
            clear hb2 CD
            have hgn := SN.out.lt
            have hgb := ST.out.lt
            have BL4 := Lib.hid (below_tr HB2.out (below_al (below_al (Below.refl w2.heap.size w2) (.cells #[.int .i64 1, .int .i64 0, .string ⟨#[]⟩, .slice none 0 0, .slice none 0 0] 35)) (.cells #[.string (⟨#[108]⟩ ++ ⟨(Lib.decDigits j).toArray⟩), .slice (some ⟨w2.heap.size, 0, none⟩) 1 1] 38)))
            have S4 := Lib.hid (show ((w2.alloc (.cells #[.int .i64 1, .int .i64 0, .string ⟨#[]⟩, .slice none 0 0, .slice none 0 0] 35)).alloc (.cells #[.string (⟨#[108]⟩ ++ ⟨(Lib.decDigits j).toArray⟩), .slice (some ⟨w2.heap.size, 0, none⟩) 1 1] 38)).heap.size = w2.heap.size + 2 by simp)
            have R5 := Lib.hid (R.out.ext BL4.out hgn (fun k => k = w2.heap.size) fun k hk => ⟨by have := HB2.out.size; omega, by have := S4.out; omega⟩)
            have CV := Lib.hid (show Cont (fun k => K k ∨ k = w2.heap.size) ((w2.alloc (.cells #[.int .i64 1, .int .i64 0, .string ⟨#[]⟩, .slice none 0 0, .slice none 0 0] 35)).alloc (.cells #[.string (⟨#[108]⟩ ++ ⟨(Lib.decDigits j).toArray⟩), .slice (some ⟨w2.heap.size, 0, none⟩) 1 1] 38)) (fun w' => NodesRd w' (.slice (some ⟨w2.heap.size, 0, none⟩) 1 1) (tA j).2) from fun w' hs => num0_rd ((hs _ (.inr rfl)).trans (heapLo (heap_alloc_new w2 (.cells #[.int .i64 1, .int .i64 0, .string ⟨#[]⟩, .slice none 0 0, .slice none 0 0] 35)))))
            have hsm : xt.length + 1 ≤ maxLen ∧ (xt.length + 1) * 40 ≤ 140737488355328 := by have := TL.out; unfold maxLen; omega
            have hbs : w.heap.size + 1 ≤ ((w2.alloc (.cells #[.int .i64 1, .int .i64 0, .string ⟨#[]⟩, .slice none 0 0, .slice none 0 0] 35)).alloc (.cells #[.string (⟨#[108]⟩ ++ ⟨(Lib.decDigits j).toArray⟩), .slice (some ⟨w2.heap.size, 0, none⟩) 1 1] 38)).heap.size := by have := S4.out; have := HB2.out.size; omega
            have b2 := (ST.out.stay (HB2.out.block _ hgb)).c2
            go_wp2_with (at_builtin; refine wpList_append_lies _ rfl _ _ 26 rfl (w.heap.size + 1) 38 j0 _ 2 40 Tryz.underlying26 hj0 hy0 hy1 hy2 rfl (by decide) (.slice to2 xt.length tc) xt.length (aCells xt) rfl R5.out.t ⟨w2.heap.size + 1, 0, none⟩ 1 1 [.string (⟨#[108]⟩ ++ ⟨(Lib.decDigits j).toArray⟩), .slice (some ⟨w2.heap.size, 0, none⟩) 1 1] rfl rfl ?nw4 (by simp [Value.oneCell']) (by decide) hsm.1 hsm.2 hbs (w2.heap.size + 2) S4.out ?_)
            case nw4 => exact news_at (by simp) _ _
            intro g9 cap9 w9 hown hgrow hat hlt
            have R9 := Lib.hid (R5.out.growT (p := (tA j, .slice (some ⟨w2.heap.size, 0, none⟩) 1 1)) CV.out hgrow (by rw [S4.out]; exact hat) hown)
            have hgb9 := (R5.out.freeT DG.out hgrow).trans (BL4.out.block _ hgb)
            have hgn9 := (grown_low R5.out.t hgrow (k := w.heap.size) (by omega) (by have := S4.out; have := HB2.out.size; omega)).trans (BL4.out.block _ hgn)
            have ST9 := Lib.hid (ST.out.stay hgb9)
            have SN9 := Lib.hid (SN.out.stay hgn9)
            have B9 := Lib.hid (below_row (B.out.trans (BL4.out.mono B.out.size)) R5.out.t (by omega) hgrow)
            have p2 := ST9.out.c2
            have f2 := ST9.out.f2
            have hne : w.heap.size < gb := (R.out.k gb (.inr DG.out)).1
            have XT9 := Lib.hid (show (xt ++ [(tA j, (.slice (some ⟨w2.heap.size, 0, none⟩) 1 1 : Value))]).map (·.1) = (List.range (j + 1)).map tA by rw [List.map_append, XT.out, List.range_succ, List.map_append]; rfl)
            have RA := Lib.hid (R9.out.setD (a := ⟨gb, 2, none⟩) DG.out (.slice (some ⟨g9, 0, none⟩) (xt.length + 1) cap9))
            have STA := Lib.hid (ST9.out.set (.slice (some ⟨g9, 0, none⟩) (xt.length + 1) cap9))
            have SNA := Lib.hid (SN9.out.stay (Below.heap_setCell w9 ⟨gb, 2, none⟩ (.slice (some ⟨g9, 0, none⟩) (xt.length + 1) cap9) w.heap.size (by show w.heap.size ≠ gb; omega)))
            have BA := Lib.hid (below_set_ge (f := 2) B9.out (Nat.le_of_lt hne) (.slice (some ⟨g9, 0, none⟩) (xt.length + 1) cap9))
            have kaA := hold BA.out KA.out
            have q0 : (0 : Int) ≤ (j : Int) := by omega
            have q1 : (j : Int) < (ls.length : Int) := by omega
            clear hown hgrow hat hlt R5 CV hsm hbs hgb9 hgn9 BL4 S4 HB2 R9 ST9 SN9 B9 b2
            go_upto_region 20 with fail
            generalize w9.setCell ⟨gb, 2, none⟩ (.slice (some ⟨g9, 0, none⟩) (xt.length + 1) cap9) = w9 at *
            generalize xt ++ [(tA j, (.slice (some ⟨w2.heap.size, 0, none⟩) 1 1 : Value))] = xt9 at *
            have NM := Lib.hid (show (⟨#[108]⟩ ++ ⟨(Lib.decDigits j).toArray⟩ : ByteArray) = nm 108 j from rfl)
            generalize (⟨#[108]⟩ ++ ⟨(Lib.decDigits j).toArray⟩ : ByteArray) = s at *
            generalize (Lib.decDigits j).toArray = dj at *
            clear hds2 p2 f2
            have hsz : s.size ≤ 4 := by rw [NM.out]; exact nm_size (by omega)
            have hs3 : ¬ 9223372036854775807 < 1 + s.size := by omega
            have hs4 : ¬ 9223372036854775807 < 6 + s.size := by omega
            generalize (fun k => K k ∨ k = w2.heap.size) = K9 at *
            cases hon : ls.getD j false with
            | true =>
              rw [hon] at kaA
              have ON := Lib.hid (show onL ls mA (j + 1) = onL ls mA j ++ [mA j] by rw [onL_snoc, hon]; rfl)
              have OF := Lib.hid (show offL ls (fun i => ((2 : Int), nm 108 i)) (j + 1) = offL ls (fun i => ((2 : Int), nm 108 i)) j by rw [offL_snoc, hon]; simp)
              have n2 := SNA.out.c2
              have BL5 := Lib.hid (below_al (below_al (below_al (Below.refl w9.heap.size w9) (.cells #[.bool false, .string ⟨#[120]⟩, .bool true, .string (⟨#[108, 111, 99, 97, 108, 46]⟩ ++ s)] 31)) (.cells #[.int .i64 2, .int .i64 0, .string ⟨#[]⟩, .slice (some ⟨w9.heap.size, 0, none⟩) 2 2, .slice none 0 0] 35)) (.cells #[.string (⟨#[97]⟩ ++ s), .slice (some ⟨w9.heap.size + 1, 0, none⟩) 1 1] 38))
              have S5 := Lib.hid (show (((w9.alloc (.cells #[.bool false, .string ⟨#[120]⟩, .bool true, .string (⟨#[108, 111, 99, 97, 108, 46]⟩ ++ s)] 31)).alloc (.cells #[.int .i64 2, .int .i64 0, .string ⟨#[]⟩, .slice (some ⟨w9.heap.size, 0, none⟩) 2 2, .slice none 0 0] 35)).alloc (.cells #[.string (⟨#[97]⟩ ++ s), .slice (some ⟨w9.heap.size + 1, 0, none⟩) 1 1] 38)).heap.size = w9.heap.size + 3 by simp)
              have hgn9 := SNA.out.lt
              have hgb9 := STA.out.lt
              have R10 := Lib.hid (RA.out.ext BL5.out hgn9 (fun k => w9.heap.size ≤ k ∧ k < w9.heap.size + 2) fun k hk => ⟨hk.1, by have := S5.out; omega⟩)
              have CN := Lib.hid (show Cont (fun k => K9 k ∨ w9.heap.size ≤ k ∧ k < w9.heap.size + 2) (((w9.alloc (.cells #[.bool false, .string ⟨#[120]⟩, .bool true, .string (⟨#[108, 111, 99, 97, 108, 46]⟩ ++ s)] 31)).alloc (.cells #[.int .i64 2, .int .i64 0, .string ⟨#[]⟩, .slice (some ⟨w9.heap.size, 0, none⟩) 2 2, .slice none 0 0] 35)).alloc (.cells #[.string (⟨#[97]⟩ ++ s), .slice (some ⟨w9.heap.size + 1, 0, none⟩) 1 1] 38)) (fun w' => NodesRd w' (.slice (some ⟨w9.heap.size + 1, 0, none⟩) 1 1) (mA j).2) from fun w' hs => by
                have h := strR_rd ((hs w9.heap.size (.inr ⟨Nat.le_refl _, by omega⟩)).trans (heapLo (heapLo (heap_alloc_new w9 (.cells #[.bool false, .string ⟨#[120]⟩, .bool true, .string (⟨#[108, 111, 99, 97, 108, 46]⟩ ++ s)] 31))))) ((hs (w9.heap.size + 1) (.inr ⟨by omega, by omega⟩)).trans (heapLo (heapAt (by simp))))
                show NodesRd w' _ (strR (sLoc ++ nm 108 j))
                rw [← NM.out]
                exact h)
              have hsm : xn.length + 1 ≤ maxLen ∧ (xn.length + 1) * 40 ≤ 140737488355328 := by have := XL.out; unfold maxLen; omega
              have hbs : w.heap.size + 1 ≤ (((w9.alloc (.cells #[.bool false, .string ⟨#[120]⟩, .bool true, .string (⟨#[108, 111, 99, 97, 108, 46]⟩ ++ s)] 31)).alloc (.cells #[.int .i64 2, .int .i64 0, .string ⟨#[]⟩, .slice (some ⟨w9.heap.size, 0, none⟩) 2 2, .slice none 0 0] 35)).alloc (.cells #[.string (⟨#[97]⟩ ++ s), .slice (some ⟨w9.heap.size + 1, 0, none⟩) 1 1] 38)).heap.size := by have := S5.out; omega
              clear hon
              go_wp2_with (at_builtin; refine wpList_append_lies _ rfl _ _ 26 rfl (w.heap.size + 1) 38 j0 _ 2 40 Tryz.underlying26 hj0 hy0 hy1 hy2 rfl (by decide) (.slice no xn.length nc) xn.length (aCells xn) rfl R10.out.n ⟨w9.heap.size + 1 + 1, 0, none⟩ 1 1 [.string (⟨#[97]⟩ ++ s), .slice (some ⟨w9.heap.size + 1, 0, none⟩) 1 1] rfl rfl ?nw5 (by simp [Value.oneCell']) (by decide) hsm.1 hsm.2 hbs (w9.heap.size + 3) S5.out ?_)
              case nw5 => exact news_at (by simp) _ _
              intro g11 cap11 w11 hown hgrow hat hlt
              have R11 := Lib.hid (R10.out.growN (p := (mA j, .slice (some ⟨w9.heap.size + 1, 0, none⟩) 1 1)) CN.out hgrow (by rw [S5.out]; exact hat) (by
                have e : aCells [(mA j, (.slice (some ⟨w9.heap.size + 1, 0, none⟩) 1 1 : Value))] = [.string (⟨#[97]⟩ ++ s), .slice (some ⟨w9.heap.size + 1, 0, none⟩) 1 1] := by rw [NM.out]; rfl
                rw [e]; exact hown))
              have SN11 := Lib.hid (SNA.out.stay ((grown_low R10.out.n hgrow (k := w.heap.size) (by omega) (by have := S5.out; omega)).trans (BL5.out.block _ hgn9)))
              have ST11 := Lib.hid (STA.out.stay ((R10.out.freeN DG.out hgrow).trans (BL5.out.block _ hgb9)))
              have B11 := Lib.hid (below_row (BA.out.trans (BL5.out.mono BA.out.size)) R10.out.n (by omega) hgrow)
              have XM := Lib.hid (show (xn ++ [(mA j, (.slice (some ⟨w9.heap.size + 1, 0, none⟩) 1 1 : Value))]).map (·.1) = onL vs nA vs.length ++ onL ls mA (j + 1) by rw [List.map_append, XN.out, ON.out, List.append_assoc]; rfl)
              have p2 := SN11.out.c2
              have f2 := SN11.out.f2
              clear hown hgrow hat hlt R10 CN hsm hbs BL5 S5 n2
              have R12 := Lib.hid (R11.out.set (a := ⟨w.heap.size, 2, none⟩) (by show w.heap.size < w.heap.size + 1; omega) (.slice (some ⟨g11, 0, none⟩) (xn.length + 1) cap11))
              have SN12 := Lib.hid (SN11.out.set (.slice (some ⟨g11, 0, none⟩) (xn.length + 1) cap11))
              have ST12 := Lib.hid (ST11.out.stay (Below.heap_setCell w11 ⟨w.heap.size, 2, none⟩ (.slice (some ⟨g11, 0, none⟩) (xn.length + 1) cap11) gb (by show gb ≠ w.heap.size; omega)))
              have B12 := Lib.hid (below_set_ge (f := 2) B11.out (Nat.le_refl w.heap.size) (.slice (some ⟨g11, 0, none⟩) (xn.length + 1) cap11))
              go_wp2_with fail
              go_roundg (ls.length - (j + 1))
              case rel => exact ⟨j + 1, _, D, _, _, _, _, rfl, Nat.le_refl _, hjl, B12.out, SN12.out, ST12.out, DG.out, by rw [OF.out, QL.out]; exact R12.out, XM.out, XT9.out⟩
              case measure => have := HM.out; omega
            | false =>
              rw [hon] at kaA
              have ON := Lib.hid (show onL ls mA (j + 1) = onL ls mA j by rw [onL_snoc, hon]; simp)
              have OF := Lib.hid (show offL ls (fun i => ((2 : Int), nm 108 i)) (j + 1) = offL ls (fun i => ((2 : Int), nm 108 i)) j ++ [((2 : Int), nm 108 j)] by rw [offL_snoc, hon]; simp)
              have BL5 := Lib.hid (below_al (Below.refl w9.heap.size w9) (.cells #[.int .i64 2, .string s] 40))
              have S5 := Lib.hid (show (w9.alloc (.cells #[.int .i64 2, .string s] 40)).heap.size = w9.heap.size + 1 by simp)
              have hgn9 := SNA.out.lt
              have hgb9 := STA.out.lt
              have R10 := Lib.hid (RA.out.ext BL5.out hgn9 (fun k => False) fun k hk => hk.elim)
              have hsm : xq.length + 1 ≤ maxLen ∧ (xq.length + 1) * 24 ≤ 140737488355328 := by have := OQ.out; unfold maxLen; omega
              have hbs : w.heap.size + 1 ≤ (w9.alloc (.cells #[.int .i64 2, .string s] 40)).heap.size := by have := S5.out; omega
              clear hon
              go_wp2_with (at_builtin; refine wpList_append_lies _ rfl _ _ 25 rfl (w.heap.size + 1) 40 k0 _ 2 24 Tryz.underlying25 hk0 hx0 hx1 hx2 rfl (by decide) (.slice qo xq.length qc) xq.length (warnCells xq) rfl R10.out.q ⟨w9.heap.size, 0, none⟩ 1 1 [.int .i64 2, .string s] rfl rfl ?nw6 (by simp [Value.oneCell']) (by decide) hsm.1 hsm.2 hbs (w9.heap.size + 1) S5.out ?_)
              case nw6 => exact news_at rfl _ _
              intro g11 cap11 w11 hown hgrow hat hlt
              have R11 := Lib.hid (R10.out.growQ (p := ((2 : Int), s)) hgrow (by rw [S5.out]; exact hat) hown)
              have SN11 := Lib.hid (SNA.out.stay ((grown_low R10.out.q hgrow (k := w.heap.size) (by omega) (by have := S5.out; omega)).trans (BL5.out.block _ hgn9)))
              have ST11 := Lib.hid (STA.out.stay ((R10.out.freeQ DG.out hgrow).trans (BL5.out.block _ hgb9)))
              have B11 := Lib.hid (below_row (BA.out.trans (BL5.out.mono BA.out.size)) R10.out.q (by omega) hgrow)
              clear hown hgrow hat hlt R10 hsm hbs BL5 S5
              go_wp2_with fail
              go_roundg (ls.length - (j + 1))
              case rel => exact ⟨j + 1, _, D, _, _, _, _, rfl, Nat.le_refl _, hjl, B11.out, SN11.out, ST11.out, DG.out, by rw [OF.out, ← NM.out, ← List.append_assoc, QL.out]; exact R11.out, by rw [ON.out]; exact XN.out, XT9.out⟩
              case measure => have := HM.out; omega
          · obtain rfl : j = ls.length := by omega
            have hgn := SN.out.lt
            have n0 := SN.out.c0
            have n1 := SN.out.c1
            have n2 := SN.out.c2
            have n3 := SN.out.c3
            have b0 := ST.out.c0
            have b1 := ST.out.c1
            have b2 := ST.out.c2
            have b3 := ST.out.c3
            obtain ⟨RS, CN, CT⟩ := R.out.seal
            have BLb := Lib.hid (below_al (Below.refl wr.heap.size wr) (.cells #[.int .i64 3, .string ⟨#[110]⟩, .slice no xn.length nc, .slice none 0 0, .int .i64 2, .string ⟨#[]⟩, .slice to2 xt.length tc, .slice none 0 0] 28))
            have Sb := Lib.hid (show (wr.alloc (.cells #[.int .i64 3, .string ⟨#[110]⟩, .slice no xn.length nc, .slice none 0 0, .int .i64 2, .string ⟨#[]⟩, .slice to2 xt.length tc, .slice none 0 0] 28)).heap.size = wr.heap.size + 1 by simp)
            have R5 := Lib.hid (RS.ext BLb.out hgn (fun k => False) fun k hk => hk.elim)
            have CBS := Lib.hid (show CB (fun k => (K k ∨ (Value.slice no xn.length nc).ownBlock = some k ∨ (Value.slice to2 xt.length tc).ownBlock = some k) ∨ False) (wr.alloc (.cells #[.int .i64 3, .string ⟨#[110]⟩, .slice no xn.length nc, .slice none 0 0, .int .i64 2, .string ⟨#[]⟩, .slice to2 xt.length tc, .slice none 0 0] 28)) [(nB (attN vs ls), (.slice no xn.length nc : Value), (.slice none 0 0 : Value)), (lB ((List.range ls.length).map tA), (.slice to2 xt.length tc : Value), (.slice none 0 0 : Value))] from fun p hp => by
              have hs : ∀ k, (K k ∨ (Value.slice no xn.length nc).ownBlock = some k ∨ (Value.slice to2 xt.length tc).ownBlock = some k) → (wr.alloc (.cells #[.int .i64 3, .string ⟨#[110]⟩, .slice no xn.length nc, .slice none 0 0, .int .i64 2, .string ⟨#[]⟩, .slice to2 xt.length tc, .slice none 0 0] 28)).heap[k]? = wr.heap[k]? := fun k hk => BLb.out.block k (RS.k k (.inl hk)).2.1
              have hp : p = (nB (attN vs ls), (.slice no xn.length nc : Value), (.slice none 0 0 : Value)) ∨ p = (lB ((List.range ls.length).map tA), (.slice to2 xt.length tc : Value), (.slice none 0 0 : Value)) := by simpa using hp
              rcases hp with rfl | rfl
              · have := CN.keep (K' := fun k => (K k ∨ (Value.slice no xn.length nc).ownBlock = some k ∨ (Value.slice to2 xt.length tc).ownBlock = some k) ∨ False) (fun k hk => Or.inl hk) hs
                rw [XN.out] at this
                exact fun w' h2 => ⟨this w' h2, blks_none 1 w'⟩
              · have := CT.keep (K' := fun k => (K k ∨ (Value.slice no xn.length nc).ownBlock = some k ∨ (Value.slice to2 xt.length tc).ownBlock = some k) ∨ False) (fun k hk => Or.inl hk) hs
                rw [XT.out] at this
                exact fun w' h2 => ⟨this w' h2, blks_none 1 w'⟩)
            have hsm : bs.length + 2 ≤ maxLen ∧ (bs.length + 2) * 72 ≤ 140737488355328 := by have := BL.out; unfold maxLen; omega
            have hbs : w.heap.size + 1 ≤ (wr.alloc (.cells #[.int .i64 3, .string ⟨#[110]⟩, .slice no xn.length nc, .slice none 0 0, .int .i64 2, .string ⟨#[]⟩, .slice to2 xt.length tc, .slice none 0 0] 28)).heap.size := by have := Sb.out; omega
            clear RS CN CT
            go_wp2_with (at_builtin; refine wpList_append_lies _ rfl _ _ 24 rfl (w.heap.size + 1) 28 i0 _ 4 72 Tryz.underlying24 hi0 hz0 hz1 hz2 rfl (by decide) (.slice lo bs.length lc) bs.length (bCells bs) rfl R5.out.l ⟨wr.heap.size, 0, none⟩ 2 2 [.int .i64 3, .string ⟨#[110]⟩, .slice no xn.length nc, .slice none 0 0, .int .i64 2, .string ⟨#[]⟩, .slice to2 xt.length tc, .slice none 0 0] rfl rfl ?nw7 (by simp [Value.oneCell']) (by decide) hsm.1 hsm.2 hbs (wr.heap.size + 1) Sb.out ?_)
            case nw7 => exact news_at rfl _ _
            intro g9 cap9 w9 hown hgrow hat hlt
            have R9 := Lib.hid (R5.out.growLs CBS.out hgrow (by rw [Sb.out]; exact hat) hown)
            have B9 := Lib.hid (below_row (B.out.trans (BLb.out.mono B.out.size)) R5.out.l (by omega) hgrow)
            have hls9 : w.heap.size < w9.heap.size := Nat.lt_of_lt_of_le (by have := Sb.out; omega : w.heap.size < (wr.alloc (.cells #[.int .i64 3, .string ⟨#[110]⟩, .slice no xn.length nc, .slice none 0 0, .int .i64 2, .string ⟨#[]⟩, .slice to2 xt.length tc, .slice none 0 0] 28)).heap.size) hgrow.size
            have B9M := Lib.hid (show (bs ++ [(nB (attN vs ls), (.slice no xn.length nc : Value), (.slice none 0 0 : Value)), (lB ((List.range ls.length).map tA), (.slice to2 xt.length tc : Value), (.slice none 0 0 : Value))]).map (·.1) = (List.range vs.length).map vB ++ [nB (attN vs ls), lB ((List.range ls.length).map tA)] by rw [List.map_append, BS.out]; rfl)
            clear hown hgrow hat hlt R5 CBS hsm hbs BLb Sb n0 n1 n2 n3 b0 b1 b2 b3 SN ST R B XN XT DG HM hj hjl
            go_wp2_with fail
            generalize hbs0 : bs ++ [(nB (attN vs ls), (.slice no xn.length nc : Value), (.slice none 0 0 : Value)), (lB ((List.range ls.length).map tA), (.slice to2 xt.length tc : Value), (.slice none 0 0 : Value))] = bs9 at *
            clear hbs0 BS BL XL TL OQ OQ1
            go_loopg [7, 8, 15] ds.length (fun m vl vq iv wr => C3R w w.heap.size vs ls ds m vl vq iv wr)
            case atStart => exact ⟨0, _, bs9, rfl, Nat.le_refl _, Nat.zero_le _, B9.out, hls9, by rw [show offL ds (fun i => ((3 : Int), nm 100 i)) 0 = [] from rfl, List.append_nil, QL.out]; exact R9.out, by rw [show dsL ds 0 = [] from rfl, List.append_nil]; exact B9M.out⟩
            case round =>
              clear R9 B9 hls9 B9M QL
              obtain ⟨j, K, bs, rfl, hm, hj, hb, hgn, hr, hbs⟩ := hrel
              have HM := Lib.hid hm
              have B := Lib.hid hb
              have R := Lib.hid hr
              have BS := Lib.hid hbs
              have BL := Lib.hid (show bs.length ≤ 10 + 2 * j by
                have := congrArg List.length hbs
                have h2 := dsL_len ds j
                simp only [List.length_map, List.length_append, List.length_range, List.length_cons, List.length_nil] at this
                omega)
              obtain ⟨lo, lc, rfl⟩ := own_lenR hr.l
              obtain ⟨qo, qc, rfl⟩ := own_lenR hr.q
              have OQ := Lib.hid (show (offL vs (fun i => ((1 : Int), nm 118 i)) vs.length ++ offL ls (fun i => ((2 : Int), nm 108 i)) ls.length ++ offL ds (fun i => ((3 : Int), nm 100 i)) j).length ≤ 100 by
                rw [List.length_append, List.length_append]
                have := offL_len vs (fun i => ((1 : Int), nm 118 i)) vs.length
                have := offL_len ls (fun i => ((2 : Int), nm 108 i)) ls.length
                have := offL_len ds (fun i => ((3 : Int), nm 100 i)) j
                omega)
              clear hm hb hr hbs
              by_cases hjl : j < ds.length
              · generalize hql : offL vs (fun i => ((1 : Int), nm 118 i)) vs.length ++ offL ls (fun i => ((2 : Int), nm 108 i)) ls.length ++ offL ds (fun i => ((3 : Int), nm 100 i)) j = xq at *
                have QL := Lib.hid hql
                clear hql
                have hj8 : j < 8 := by omega
                have CD := Lib.hid (rdig wr j hj8)
                have hds2 : ¬ 9223372036854775807 < 1 + (Lib.decDigits j).length := by have := dec_len 3 j (by omega) (by omega); omega
                obtain ⟨ga2, oa2, ca2, ea, ka⟩ := bools_at HC.out hjl
                simp only [Value.slice.injEq, true_and] at ea
                obtain ⟨rfl, rfl⟩ := ea
                have KA := Lib.hid ka
                clear ka
                go_wp2_with fail
                refine CD.out.mono ?_
                rintro e w2 ⟨rfl, hb2⟩
                have HB2 := Lib.hid hb2
                clear hb2 CD
                have BL4 := Lib.hid (below_tr HB2.out (below_al (below_al (Below.refl w2.heap.size w2) (.cells #[.int .i64 3, .string ⟨#[120]⟩, .slice none 0 0, .slice none 0 0] 28)) (.cells #[.int .i64 5, .string (⟨#[100]⟩ ++ ⟨(Lib.decDigits j).toArray⟩), .slice none 0 0, .slice (some ⟨w2.heap.size, 0, none⟩) 1 1] 28)))
                have S4 := Lib.hid (show ((w2.alloc (.cells #[.int .i64 3, .string ⟨#[120]⟩, .slice none 0 0, .slice none 0 0] 28)).alloc (.cells #[.int .i64 5, .string (⟨#[100]⟩ ++ ⟨(Lib.decDigits j).toArray⟩), .slice none 0 0, .slice (some ⟨w2.heap.size, 0, none⟩) 1 1] 28)).heap.size = w2.heap.size + 2 by simp)
                have R5 := Lib.hid (R.out.ext BL4.out hgn (fun k => k = w2.heap.size) fun k hk => ⟨by have := HB2.out.size; omega, by have := S4.out; omega⟩)
                have CV := Lib.hid (cont_def (K := fun k => K k ∨ k = w2.heap.size) (w := (w2.alloc (.cells #[.int .i64 3, .string ⟨#[120]⟩, .slice none 0 0, .slice none 0 0] 28)).alloc (.cells #[.int .i64 5, .string (⟨#[100]⟩ ++ ⟨(Lib.decDigits j).toArray⟩), .slice none 0 0, .slice (some ⟨w2.heap.size, 0, none⟩) 1 1] 28)) (G := w2.heap.size) (j := j) (heapLo (heap_alloc_new w2 (.cells #[.int .i64 3, .string ⟨#[120]⟩, .slice none 0 0, .slice none 0 0] 28))) (.inr rfl))
                have hsm : bs.length + 1 ≤ maxLen ∧ (bs.length + 1) * 72 ≤ 140737488355328 := by have := BL.out; unfold maxLen; omega
                have hbs : w.heap.size + 1 ≤ ((w2.alloc (.cells #[.int .i64 3, .string ⟨#[120]⟩, .slice none 0 0, .slice none 0 0] 28)).alloc (.cells #[.int .i64 5, .string (⟨#[100]⟩ ++ ⟨(Lib.decDigits j).toArray⟩), .slice none 0 0, .slice (some ⟨w2.heap.size, 0, none⟩) 1 1] 28)).heap.size := by have := S4.out; have := HB2.out.size; omega
                go_wp2_with (at_builtin; refine wpList_append_lies _ rfl _ _ 24 rfl (w.heap.size + 1) 28 i0 _ 4 72 Tryz.underlying24 hi0 hz0 hz1 hz2 rfl (by decide) (.slice lo bs.length lc) bs.length (bCells bs) rfl R5.out.l ⟨w2.heap.size + 1, 0, none⟩ 1 1 [.int .i64 5, .string (⟨#[100]⟩ ++ ⟨(Lib.decDigits j).toArray⟩), .slice none 0 0, .slice (some ⟨w2.heap.size, 0, none⟩) 1 1] rfl rfl ?nw8 (by simp [Value.oneCell']) (by decide) hsm.1 hsm.2 hbs (w2.heap.size + 2) S4.out ?_)
                case nw8 => exact news_at (by simp) _ _
                intro g9 cap9 w9 hown hgrow hat hlt
                have R9 := Lib.hid (R5.out.growL (p := (dB j, .slice none 0 0, .slice (some ⟨w2.heap.size, 0, none⟩) 1 1)) CV.out hgrow (by rw [S4.out]; exact hat) hown)
                have B9 := Lib.hid (below_row (B.out.trans (BL4.out.mono B.out.size)) R5.out.l (by omega) hgrow)
                have hls9 : w.heap.size < w9.heap.size := Nat.lt_of_lt_of_le (by have := S4.out; have := HB2.out.size; omega : w.heap.size < ((w2.alloc (.cells #[.int .i64 3, .string ⟨#[120]⟩, .slice none 0 0, .slice none 0 0] 28)).alloc (.cells #[.int .i64 5, .string (⟨#[100]⟩ ++ ⟨(Lib.decDigits j).toArray⟩), .slice none 0 0, .slice (some ⟨w2.heap.size, 0, none⟩) 1 1] 28)).heap.size) hgrow.size
                have ka9 := hold B9.out KA.out
                have BM := Lib.hid (show (bs ++ [(dB j, (.slice none 0 0 : Value), (.slice (some ⟨w2.heap.size, 0, none⟩) 1 1 : Value))]).map (·.1) = (List.range vs.length).map vB ++ [nB (attN vs ls), lB ((List.range ls.length).map tA)] ++ (dsL ds j ++ [dB j]) by rw [List.map_append, BS.out, List.append_assoc]; rfl)
                have ML := Lib.hid (show (bs ++ [(dB j, (.slice none 0 0 : Value), (.slice (some ⟨w2.heap.size, 0, none⟩) 1 1 : Value))]).length = bs.length + 1 by simp)
                have q0 : (0 : Int) ≤ (j : Int) := by omega
                have q1 : (j : Int) < (ds.length : Int) := by omega
                clear hown hgrow hat hlt R5 CV hsm hbs BL4 S4 HB2
                rw [← ML.out] at R9
                go_upto_region 29 with fail
                rw [← ML.out]
                generalize bs ++ [(dB j, (.slice none 0 0 : Value), (.slice (some ⟨w2.heap.size, 0, none⟩) 1 1 : Value))] = bs9 at *
                have NM := Lib.hid (show (⟨#[100]⟩ ++ ⟨(Lib.decDigits j).toArray⟩ : ByteArray) = nm 100 j from rfl)
                generalize (⟨#[100]⟩ ++ ⟨(Lib.decDigits j).toArray⟩ : ByteArray) = s at *
                generalize (Lib.decDigits j).toArray = dj at *
                clear hds2
                generalize (fun k => K k ∨ k = w2.heap.size) = K9 at *
                cases hon : ds.getD j false with
                | true =>
                  rw [hon] at ka9
                  have OF := Lib.hid (show offL ds (fun i => ((3 : Int), nm 100 i)) (j + 1) = offL ds (fun i => ((3 : Int), nm 100 i)) j by rw [offL_snoc, hon]; simp)
                  have DS := Lib.hid (show dsL ds (j + 1) = (dsL ds j ++ [dB j]) ++ [uB j] by rw [dsL_snoc, hon, List.append_assoc]; rfl)
                  have BL5 := Lib.hid (below_al (below_al (below_al (below_al (Below.refl w9.heap.size w9) (.cells #[.bool false, .string s] 31)) (.cells #[.int .i64 2, .int .i64 0, .string ⟨#[]⟩, .slice (some ⟨w9.heap.size, 0, none⟩) 1 1, .slice none 0 0] 35)) (.cells #[.string ⟨#[117, 115, 101]⟩, .slice (some ⟨w9.heap.size + 1, 0, none⟩) 1 1] 38)) (.cells #[.int .i64 4, .string ⟨#[109]⟩, .slice (some ⟨w9.heap.size + 1 + 1, 0, none⟩) 1 1, .slice none 0 0] 28))
                  have S5 := Lib.hid (show ((((w9.alloc (.cells #[.bool false, .string s] 31)).alloc (.cells #[.int .i64 2, .int .i64 0, .string ⟨#[]⟩, .slice (some ⟨w9.heap.size, 0, none⟩) 1 1, .slice none 0 0] 35)).alloc (.cells #[.string ⟨#[117, 115, 101]⟩, .slice (some ⟨w9.heap.size + 1, 0, none⟩) 1 1] 38)).alloc (.cells #[.int .i64 4, .string ⟨#[109]⟩, .slice (some ⟨w9.heap.size + 1 + 1, 0, none⟩) 1 1, .slice none 0 0] 28)).heap.size = w9.heap.size + 4 by simp)
                  have R10 := Lib.hid (R9.out.ext BL5.out hls9 (fun k => w9.heap.size ≤ k ∧ k < w9.heap.size + 3) fun k hk => ⟨hk.1, by have := S5.out; omega⟩)
                  have CN := Lib.hid (cont_use (K := fun k => K9 k ∨ w9.heap.size ≤ k ∧ k < w9.heap.size + 3) (w := (((w9.alloc (.cells #[.bool false, .string s] 31)).alloc (.cells #[.int .i64 2, .int .i64 0, .string ⟨#[]⟩, .slice (some ⟨w9.heap.size, 0, none⟩) 1 1, .slice none 0 0] 35)).alloc (.cells #[.string ⟨#[117, 115, 101]⟩, .slice (some ⟨w9.heap.size + 1, 0, none⟩) 1 1] 38)).alloc (.cells #[.int .i64 4, .string ⟨#[109]⟩, .slice (some ⟨w9.heap.size + 1 + 1, 0, none⟩) 1 1, .slice none 0 0] 28)) (G := w9.heap.size) (j := j) (s := s) NM.out (heapLo (heapLo (heapLo (heap_alloc_new w9 (.cells #[.bool false, .string s] 31))))) (heapLo (heapLo (heapAt (by simp)))) (heapLo (heapAt (by simp))) (fun k h1 h2 => .inr ⟨h1, h2⟩))
                  have hsm : bs9.length + 1 ≤ maxLen ∧ (bs9.length + 1) * 72 ≤ 140737488355328 := by have := BL.out; have := ML.out; unfold maxLen; omega
                  have hbs : w.heap.size + 1 ≤ ((((w9.alloc (.cells #[.bool false, .string s] 31)).alloc (.cells #[.int .i64 2, .int .i64 0, .string ⟨#[]⟩, .slice (some ⟨w9.heap.size, 0, none⟩) 1 1, .slice none 0 0] 35)).alloc (.cells #[.string ⟨#[117, 115, 101]⟩, .slice (some ⟨w9.heap.size + 1, 0, none⟩) 1 1] 38)).alloc (.cells #[.int .i64 4, .string ⟨#[109]⟩, .slice (some ⟨w9.heap.size + 1 + 1, 0, none⟩) 1 1, .slice none 0 0] 28)).heap.size := by have := S5.out; omega
                  clear hon
                  go_wp2_with (at_builtin; refine wpList_append_lies _ rfl _ _ 24 rfl (w.heap.size + 1) 28 i0 _ 4 72 Tryz.underlying24 hi0 hz0 hz1 hz2 rfl (by decide) (.slice (some ⟨g9, 0, none⟩) bs9.length cap9) bs9.length (bCells bs9) rfl R10.out.l ⟨w9.heap.size + 1 + 1 + 1, 0, none⟩ 1 1 [.int .i64 4, .string ⟨#[109]⟩, .slice (some ⟨w9.heap.size + 1 + 1, 0, none⟩) 1 1, .slice none 0 0] rfl rfl ?nw9 (by simp [Value.oneCell']) (by decide) hsm.1 hsm.2 hbs (w9.heap.size + 4) S5.out ?_)
                  case nw9 => exact news_at (by simp) _ _
                  intro g11 cap11 w11 hown hgrow hat hlt
                  have R11 := Lib.hid (R10.out.growL (p := (uB j, .slice (some ⟨w9.heap.size + 1 + 1, 0, none⟩) 1 1, .slice none 0 0)) CN.out hgrow (by rw [S5.out]; exact hat) hown)
                  have B11 := Lib.hid (below_row (B9.out.trans (BL5.out.mono B9.out.size)) R10.out.l (by omega) hgrow)
                  have hls11 : w.heap.size < w11.heap.size := Nat.lt_of_lt_of_le (by have := S5.out; omega : w.heap.size < ((((w9.alloc (.cells #[.bool false, .string s] 31)).alloc (.cells #[.int .i64 2, .int .i64 0, .string ⟨#[]⟩, .slice (some ⟨w9.heap.size, 0, none⟩) 1 1, .slice none 0 0] 35)).alloc (.cells #[.string ⟨#[117, 115, 101]⟩, .slice (some ⟨w9.heap.size + 1, 0, none⟩) 1 1] 38)).alloc (.cells #[.int .i64 4, .string ⟨#[109]⟩, .slice (some ⟨w9.heap.size + 1 + 1, 0, none⟩) 1 1, .slice none 0 0] 28)).heap.size) hgrow.size
                  have BM2 := Lib.hid (show (bs9 ++ [(uB j, (.slice (some ⟨w9.heap.size + 1 + 1, 0, none⟩) 1 1 : Value), (.slice none 0 0 : Value))]).map (·.1) = (List.range vs.length).map vB ++ [nB (attN vs ls), lB ((List.range ls.length).map tA)] ++ dsL ds (j + 1) by rw [List.map_append, BM.out, DS.out, List.append_assoc _ (dsL ds j ++ [dB j])]; rfl)
                  clear hown hgrow hat hlt R10 CN hsm hbs BL5 S5
                  go_wp2_with fail
                  go_roundg (ds.length - (j + 1))
                  case rel => exact ⟨j + 1, _, _, rfl, Nat.le_refl _, hjl, B11.out, hls11, by rw [OF.out, QL.out]; exact R11.out, BM2.out⟩
                  case measure => have := HM.out; omega
                | false =>
                  rw [hon] at ka9
                  have OF := Lib.hid (show offL ds (fun i => ((3 : Int), nm 100 i)) (j + 1) = offL ds (fun i => ((3 : Int), nm 100 i)) j ++ [((3 : Int), nm 100 j)] by rw [offL_snoc, hon]; simp)
                  have DS := Lib.hid (show dsL ds (j + 1) = dsL ds j ++ [dB j] by rw [dsL_snoc, hon]; rfl)
                  have BL5 := Lib.hid (below_al (Below.refl w9.heap.size w9) (.cells #[.int .i64 3, .string s] 40))
                  have S5 := Lib.hid (show (w9.alloc (.cells #[.int .i64 3, .string s] 40)).heap.size = w9.heap.size + 1 by simp)
                  have R10 := Lib.hid (R9.out.ext BL5.out hls9 (fun k => False) fun k hk => hk.elim)
                  have hsm : xq.length + 1 ≤ maxLen ∧ (xq.length + 1) * 24 ≤ 140737488355328 := by have := OQ.out; unfold maxLen; omega
                  have hbs : w.heap.size + 1 ≤ (w9.alloc (.cells #[.int .i64 3, .string s] 40)).heap.size := by have := S5.out; omega
                  clear hon
                  go_wp2_with (at_builtin; refine wpList_append_lies _ rfl _ _ 25 rfl (w.heap.size + 1) 40 k0 _ 2 24 Tryz.underlying25 hk0 hx0 hx1 hx2 rfl (by decide) (.slice qo xq.length qc) xq.length (warnCells xq) rfl R10.out.q ⟨w9.heap.size, 0, none⟩ 1 1 [.int .i64 3, .string s] rfl rfl ?nwa (by simp [Value.oneCell']) (by decide) hsm.1 hsm.2 hbs (w9.heap.size + 1) S5.out ?_)
                  case nwa => exact news_at rfl _ _
                  intro g11 cap11 w11 hown hgrow hat hlt
                  have R11 := Lib.hid (R10.out.growQ (p := ((3 : Int), s)) hgrow (by rw [S5.out]; exact hat) hown)
                  have B11 := Lib.hid (below_row (B9.out.trans (BL5.out.mono B9.out.size)) R10.out.q (by omega) hgrow)
                  have hls11 : w.heap.size < w11.heap.size := Nat.lt_of_lt_of_le (by have := S5.out; omega : w.heap.size < (w9.alloc (.cells #[.int .i64 3, .string s] 40)).heap.size) hgrow.size
                  clear hown hgrow hat hlt R10 hsm hbs BL5 S5
                  go_wp2_with fail
                  go_roundg (ds.length - (j + 1))
                  case rel => exact ⟨j + 1, _, _, rfl, Nat.le_refl _, hjl, B11.out, hls11, by rw [OF.out, ← NM.out, ← List.append_assoc, QL.out]; exact R11.out, by rw [DS.out]; exact BM.out⟩
                  case measure => have := HM.out; omega
              · obtain rfl : j = ds.length := by omega
                have RD := Lib.hid (show BlksRd 2 wr (.slice lo bs.length lc) (allB vs ls ds) from by
                  have := blks_own R.out.l rfl R.out.cb
                  rw [BS.out] at this
                  exact this)
                have PW := Lib.hid (pWarns wr 0 _ _ RD.out (lint_all hv8 hl8 hd8) (V.out.below B.out V.out.lt))
                rw [warns_all hv8 hl8 hd8] at PW
                have QW := Lib.hid (show wr.ownsRow (w.heap.size + 1) 40 2 (.slice qo (wantW vs ls ds).length qc) (wantW vs ls ds).length (warnCells (wantW vs ls ds)) from R.out.q)
                have WL := Lib.hid (show (wantW vs ls ds).length ≤ 1000 by have := OQ.out; exact Nat.le_trans this (by omega))
                have WE := Lib.hid (show (offL vs (fun i => ((1 : Int), nm 118 i)) vs.length ++ offL ls (fun i => ((2 : Int), nm 108 i)) ls.length ++ offL ds (fun i => ((3 : Int), nm 100 i)) ds.length).length = (wantW vs ls ds).length from rfl)
                rw [WE.out]
                generalize wantW vs ls ds = xw at *
                clear RD R OQ BS WE
                go_wp2_with fail
                refine PW.out.mono ?_
                rintro e w5 ⟨v5, rfl, o5, hb5⟩
                have B5 := Lib.hid (B.out.trans (hb5.mono B.out.size))
                have PS := Lib.hid (psameW w5 _ _ _ _ xw o5 (own_below QW.out hb5) WL.out)
                obtain ⟨ro, rc, rfl⟩ := own_lenR o5
                clear o5 hb5 PW QW
                go_wp2_with fail
                refine PS.out.mono ?_
                rintro e w6 ⟨rfl, hb6⟩
                have B6 := Lib.hid (B5.out.trans (hb6.mono B5.out.size))
                have PA := Lib.hid (law_awake9 w6 (V.out.below B6.out V.out.lt))
                clear hb6 PS
                go_wp2_with fail
                refine PA.out.mono ?_
                rintro e w7 ⟨rfl, hb7⟩
                have B7 := Lib.hid (B6.out.trans (hb7.mono B6.out.size))
                clear hb7
                go_wp2_with fail
                go_ret
                exact ⟨rfl, B7.out⟩
end
end Go.Proofs.YtlkdicabmikhkaaGreatDoor
