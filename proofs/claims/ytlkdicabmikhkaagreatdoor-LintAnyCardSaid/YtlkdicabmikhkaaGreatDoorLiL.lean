/- The law of modules that may mean any define. -/
import Derived.Test.YtlkdicabmikhkaaGreatDoorLiLb
namespace Go.Proofs.YtlkdicabmikhkaaGreatDoor
open Go.RowKit Go.Sort
set_option linter.unusedVariables false
set_option linter.unusedSimpArgs false
section
variable (w : World)
set_option maxHeartbeats 1000000 in
set_option maxRecDepth 20000 in
theorem law_any (n h : Nat) (hn : n < 256) (hh : h < 256) (hv : ErrVar w) : Calls Tryz.prog 4 #[.int .u8 n, .int .u8 h] w (Made (.bool true) w) := by
  have V := Lib.hid hv
  obtain ⟨i0, hi0, hz0, hz1, hz2⟩ := info_parts info_blk
  have h6 : n % 6 < 6 := Nat.mod_lt _ (by omega)
  have t1 : ((n : Int)).tmod 6 = ((n % 6 : Nat) : Int) := by rw [Int.tmod_eq_emod_of_nonneg (by omega)]; rfl
  clear hv
  go_enter Tryz.func4, Tryz.ntmps4
  go_wp2_with fail
  generalize hm : n % 6 = k at *
  have HK := Lib.hid hm
  clear hm
  go_loopg [5, 6] k (fun m sv iv wr => AyRel w k m sv iv wr)
  case atStart => exact ⟨0, rfl, Nat.le_refl _, Nat.zero_le _, Below.refl _ _, World.ownsRow_nil _ _ _ _⟩
  case round =>
    obtain ⟨j, rfl, hm, hj, hb, ho⟩ := hrel
    have HM := Lib.hid hm
    have B := Lib.hid hb
    obtain ⟨so, sc, rfl⟩ := own_lenR ho
    have OW := Lib.hid ho
    clear hm hb ho
    by_cases hjl : j < k
    · have hds2 : ¬ 9223372036854775807 < 1 + (Lib.decDigits j).length := by have := dec_len 3 j (by omega) (by omega); omega
      have CD := Lib.hid (rdigs_pos wr j (by omega))
      have hds : (⟨#[100]⟩ ++ ⟨(Lib.decDigits j).toArray⟩ : ByteArray).size ≤ maxLen := by have := dn_size (i := j) (by omega); unfold dn at this; unfold maxLen; omega
      go_wp2_with fail
      refine CD.out.mono ?_
      rintro e w2 ⟨rfl, hb2⟩
      have B2 := Lib.hid (B.out.trans (hb2.mono B.out.size))
      have O2 := Lib.hid (own_below OW.out hb2)
      have s3 : w.heap.size ≤ (w2.alloc (.cells #[.int .i64 5, .string (⟨#[100]⟩ ++ ⟨(Lib.decDigits j).toArray⟩), .slice none 0 0, .slice none 0 0] 28)).heap.size := by have := B2.out.size; simp; omega
      have hsm : j + 1 ≤ maxLen ∧ (j + 1) * 72 ≤ 140737488355328 := by unfold maxLen; omega
      clear hb2 CD
      go_wp2_with (at_builtin; refine wpList_append_own _ rfl _ _ 24 rfl w.heap.size 28 i0 _ 4 72 Tryz.underlying24 hi0 hz0 hz1 hz2 rfl (by decide) (.slice so j sc) j ((List.range j).flatMap dCells) rfl (O2.out.alloc _) ⟨w2.heap.size, 0, none⟩ 1 1 [.int .i64 5, .string (⟨#[100]⟩ ++ ⟨(Lib.decDigits j).toArray⟩), .slice none 0 0, .slice none 0 0] rfl rfl ?nw (by simp [Value.oneCell']) hsm.1 hsm.2 s3 ?_)
      case nw => exact news_new w2 #[.int .i64 5, .string (⟨#[100]⟩ ++ ⟨(Lib.decDigits j).toArray⟩), .slice none 0 0, .slice none 0 0] 28
      intro v9 w9 hown hgrow _
      have hr9 : ∀ k, (Value.slice so j sc).ownBlock = some k → w.heap.size ≤ k := fun k hk => (World.ownsRow.lt O2.out k hk).1
      have B9 := Lib.hid (below_grown B2.out hgrow hr9)
      have O9 := Lib.hid (show w9.ownsRow w.heap.size 28 4 v9 (j + 1) ((List.range (j + 1)).flatMap dCells) by rw [range_snoc]; exact hown)
      clear hown hgrow hsm
      go_wp2_with fail
      go_roundg (k - (j + 1))
      case rel => exact ⟨j + 1, rfl, Nat.le_refl _, hjl, B9.out, O9.out⟩
      case measure => have := HM.out; omega
    · obtain rfl : j = k := by omega
      go_upto_region 6 with fail
      have BE := Lib.hid (below_al (below_al (below_al (below_al (below_al B.out (.cells #[.int .i64 4, .int .i64 0, .string ⟨#[99, 111, 117, 110, 116, 46, 105, 110, 100, 101, 120]⟩, .slice none 0 0, .slice none 0 0] 35)) (.cells #[.bool false, .string ⟨#[100]⟩, .bool true, .string ⟨#[99, 111, 117, 110, 116, 46, 105, 110, 100, 101, 120]⟩] 31)) (.cells #[.int .i64 2, .int .i64 0, .string ⟨#[]⟩, .slice (some ⟨wr.heap.size + 1, 0, none⟩) 2 2, .slice none 0 0] 35)) (.cells #[.int .i64 2, .int .i64 0, .string ⟨#[]⟩, .slice none 0 0, .slice none 0 0] 35)) (.cells #[.slice (some ⟨wr.heap.size, 0, none⟩) 1 1, .slice (some ⟨wr.heap.size + 1 + 1, 0, none⟩) 1 1, .slice (some ⟨wr.heap.size + 1 + 1 + 1, 0, none⟩) 1 1] 36))
      have OE := Lib.hid (World.ownsRow.alloc (World.ownsRow.alloc (World.ownsRow.alloc (World.ownsRow.alloc (World.ownsRow.alloc OW.out (.cells #[.int .i64 4, .int .i64 0, .string ⟨#[99, 111, 117, 110, 116, 46, 105, 110, 100, 101, 120]⟩, .slice none 0 0, .slice none 0 0] 35)) (.cells #[.bool false, .string ⟨#[100]⟩, .bool true, .string ⟨#[99, 111, 117, 110, 116, 46, 105, 110, 100, 101, 120]⟩] 31)) (.cells #[.int .i64 2, .int .i64 0, .string ⟨#[]⟩, .slice (some ⟨wr.heap.size + 1, 0, none⟩) 2 2, .slice none 0 0] 35)) (.cells #[.int .i64 2, .int .i64 0, .string ⟨#[]⟩, .slice none 0 0, .slice none 0 0] 35)) (.cells #[.slice (some ⟨wr.heap.size, 0, none⟩) 1 1, .slice (some ⟨wr.heap.size + 1 + 1, 0, none⟩) 1 1, .slice (some ⟨wr.heap.size + 1 + 1 + 1, 0, none⟩) 1 1] 36))
      have LO := Lib.hid (World.ownsRow.lt OW.out)
      have EB0 := Lib.hid (show EBox ((((((wr.alloc (.cells #[.int .i64 4, .int .i64 0, .string ⟨#[99, 111, 117, 110, 116, 46, 105, 110, 100, 101, 120]⟩, .slice none 0 0, .slice none 0 0] 35)).alloc (.cells #[.bool false, .string ⟨#[100]⟩, .bool true, .string ⟨#[99, 111, 117, 110, 116, 46, 105, 110, 100, 101, 120]⟩] 31)).alloc (.cells #[.int .i64 2, .int .i64 0, .string ⟨#[]⟩, .slice (some ⟨wr.heap.size + 1, 0, none⟩) 2 2, .slice none 0 0] 35)).alloc (.cells #[.int .i64 2, .int .i64 0, .string ⟨#[]⟩, .slice none 0 0, .slice none 0 0] 35)).alloc (.cells #[.slice (some ⟨wr.heap.size, 0, none⟩) 1 1, .slice (some ⟨wr.heap.size + 1 + 1, 0, none⟩) 1 1, .slice (some ⟨wr.heap.size + 1 + 1 + 1, 0, none⟩) 1 1] 36))) wr.heap.size wr.heap.size e0 from ⟨Nat.le_refl _, .inl ⟨rfl, heapLo (heapLo (heapLo (heapLo (heap_alloc_new wr _))))⟩⟩)
      have EB1 := Lib.hid (show EBox ((((((wr.alloc (.cells #[.int .i64 4, .int .i64 0, .string ⟨#[99, 111, 117, 110, 116, 46, 105, 110, 100, 101, 120]⟩, .slice none 0 0, .slice none 0 0] 35)).alloc (.cells #[.bool false, .string ⟨#[100]⟩, .bool true, .string ⟨#[99, 111, 117, 110, 116, 46, 105, 110, 100, 101, 120]⟩] 31)).alloc (.cells #[.int .i64 2, .int .i64 0, .string ⟨#[]⟩, .slice (some ⟨wr.heap.size + 1, 0, none⟩) 2 2, .slice none 0 0] 35)).alloc (.cells #[.int .i64 2, .int .i64 0, .string ⟨#[]⟩, .slice none 0 0, .slice none 0 0] 35)).alloc (.cells #[.slice (some ⟨wr.heap.size, 0, none⟩) 1 1, .slice (some ⟨wr.heap.size + 1 + 1, 0, none⟩) 1 1, .slice (some ⟨wr.heap.size + 1 + 1 + 1, 0, none⟩) 1 1] 36))) wr.heap.size (wr.heap.size + 1 + 1) e1 from ⟨by omega, .inr (.inl ⟨rfl, wr.heap.size + 1, by omega, heapLo (heapLo (heapLo (heapAt (by simp)))), heapLo (heapLo (heapAt (by simp)))⟩)⟩)
      have EB2 := Lib.hid (show EBox ((((((wr.alloc (.cells #[.int .i64 4, .int .i64 0, .string ⟨#[99, 111, 117, 110, 116, 46, 105, 110, 100, 101, 120]⟩, .slice none 0 0, .slice none 0 0] 35)).alloc (.cells #[.bool false, .string ⟨#[100]⟩, .bool true, .string ⟨#[99, 111, 117, 110, 116, 46, 105, 110, 100, 101, 120]⟩] 31)).alloc (.cells #[.int .i64 2, .int .i64 0, .string ⟨#[]⟩, .slice (some ⟨wr.heap.size + 1, 0, none⟩) 2 2, .slice none 0 0] 35)).alloc (.cells #[.int .i64 2, .int .i64 0, .string ⟨#[]⟩, .slice none 0 0, .slice none 0 0] 35)).alloc (.cells #[.slice (some ⟨wr.heap.size, 0, none⟩) 1 1, .slice (some ⟨wr.heap.size + 1 + 1, 0, none⟩) 1 1, .slice (some ⟨wr.heap.size + 1 + 1 + 1, 0, none⟩) 1 1] 36))) wr.heap.size (wr.heap.size + 1 + 1 + 1) e2 from ⟨by omega, .inr (.inr ⟨rfl, heapLo (heapAt (by simp))⟩)⟩)
      go_cut [5, 7] from 9 (fun s5 s7 w' => ERel w wr.heap.size j so sc s5 s7 w' ∧ wr.heap.size ≤ w'.heap.size)
      case first =>
        have hk3 : h % 3 = 0 ∨ h % 3 = 1 ∨ h % 3 = 2 := by omega
        rcases hk3 with hk3 | hk3 | hk3
        · go_wp2_with fail
          go_meet
          case rel => exact ⟨⟨rfl, BE.out, OE.out, _, e0, rfl, EB0.out⟩, by simp; omega⟩
        · go_wp2_with fail
          go_meet
          case rel => exact ⟨⟨rfl, BE.out, OE.out, _, e1, rfl, EB1.out⟩, by simp; omega⟩
        · go_wp2_with fail
          go_meet
          case rel => exact ⟨⟨rfl, BE.out, OE.out, _, e2, rfl, EB2.out⟩, by simp; omega⟩
      case rest =>
        obtain ⟨⟨rfl, hbe, hoe, g, e, rfl, heb⟩, hls⟩ := hcut
        clear BE OE EB0 EB1 EB2 OW B
        have BM := Lib.hid (below_al (below_al hbe (.cells #[.string ⟨#[117, 115, 101]⟩, .slice (some ⟨g, 0, none⟩) 1 1] 38)) (.cells #[.int .i64 4, .string ⟨#[109]⟩, .slice (some ⟨wc.heap.size, 0, none⟩) 1 1, .slice none 0 0] 28))
        have OM := Lib.hid (World.ownsRow.alloc (World.ownsRow.alloc hoe (.cells #[.string ⟨#[117, 115, 101]⟩, .slice (some ⟨g, 0, none⟩) 1 1] 38)) (.cells #[.int .i64 4, .string ⟨#[109]⟩, .slice (some ⟨wc.heap.size, 0, none⟩) 1 1, .slice none 0 0] 28))
        have NA := Lib.hid (show ((wc.alloc (.cells #[.string ⟨#[117, 115, 101]⟩, .slice (some ⟨g, 0, none⟩) 1 1] 38)).alloc (.cells #[.int .i64 4, .string ⟨#[109]⟩, .slice (some ⟨wc.heap.size, 0, none⟩) 1 1, .slice none 0 0] 28)).heap[wc.heap.size]? = some (.cells #[.string ⟨#[117, 115, 101]⟩, .slice (some ⟨g, 0, none⟩) 1 1] 38) from heapLo (heap_alloc_new wc _))
        have NM := Lib.hid (show ((wc.alloc (.cells #[.string ⟨#[117, 115, 101]⟩, .slice (some ⟨g, 0, none⟩) 1 1] 38)).alloc (.cells #[.int .i64 4, .string ⟨#[109]⟩, .slice (some ⟨wc.heap.size, 0, none⟩) 1 1, .slice none 0 0] 28)).heap[wc.heap.size + 1]? = some (.cells #[.int .i64 4, .string ⟨#[109]⟩, .slice (some ⟨wc.heap.size, 0, none⟩) 1 1, .slice none 0 0] 28) from heapAt (by simp))
        have EB := Lib.hid (heb.keep fun k h1 h2 => (below_al (below_al (Below.refl wc.heap.size wc) (.cells #[.string ⟨#[117, 115, 101]⟩, .slice (some ⟨g, 0, none⟩) 1 1] 38)) (.cells #[.int .i64 4, .string ⟨#[109]⟩, .slice (some ⟨wc.heap.size, 0, none⟩) 1 1, .slice none 0 0] 28)).block k h2)
        have GL := Lib.hid hls
        have WS := Lib.hid (show ((wc.alloc (.cells #[.string ⟨#[117, 115, 101]⟩, .slice (some ⟨g, 0, none⟩) 1 1] 38)).alloc (.cells #[.int .i64 4, .string ⟨#[109]⟩, .slice (some ⟨wc.heap.size, 0, none⟩) 1 1, .slice none 0 0] 28)).heap.size = wc.heap.size + 2 by simp)
        clear hbe hoe heb hls
        go_upto_region 8 with fail
        generalize (wc.alloc (.cells #[.string ⟨#[117, 115, 101]⟩, .slice (some ⟨g, 0, none⟩) 1 1] 38)).alloc (.cells #[.int .i64 4, .string ⟨#[109]⟩, .slice (some ⟨wc.heap.size, 0, none⟩) 1 1, .slice none 0 0] 28) = wx at *
        generalize wc.heap.size = G at *
        generalize wr.heap.size = lo at *
        have m0 := cell_of_row _ _ 0 _ _ _ NM.out
        have m1 := cell_of_row _ _ 1 _ _ _ NM.out
        have m2 := cell_of_row _ _ 2 _ _ _ NM.out
        have m3 := cell_of_row _ _ 3 _ _ _ NM.out
        simp only [List.getElem?_toArray, List.getElem?_cons_zero, List.getElem?_cons_succ] at m0 m1 m2 m3
        have HE := Lib.hid EB.out.ok
        clear NM
        by_cases hj0 : 0 < j
        · have q0 : (0 : Int) < (j : Int) := by omega
          by_cases h128 : 128 ≤ h
          · have q1 : (128 : Int) ≤ (h : Int) := by omega
            rcases OM.out.2 with ⟨-, h0⟩ | ⟨gl, cap, cur, e5, hgb, hgl, -⟩
            · omega
            simp only [Value.slice.injEq] at e5
            obtain ⟨rfl, -, rfl⟩ := e5
            have hgw : gl < wx.heap.size := (Array.getElem?_eq_some_iff.1 hgl).1
            have l3 : wx.cell? ⟨gl, 3, none⟩ = some (.slice none 0 0) := by
              rw [World.ownsRow.cellAt OM.out 3 (by omega)]
              exact dcells_at (i := 0) (r := 3) hj0 (by omega)
            have f3 := World.ownsRow.frozenAt OM.out 3
            have CC := Lib.hid (fun i (hi : i < j) r (hr : r < 4) => show wx.cell? ⟨gl, i * 4 + r, none⟩ = (dCells i)[r]? by
              rw [World.ownsRow.cellAt OM.out _ (by omega)]
              exact dcells_at hi hr)
            have hgb2 := Lib.hid hgb
            clear hgl hgb OM
            have ST := still_set (w := wx) (o := .cells #[.int .i64 4, .string ⟨#[109]⟩, .slice (some ⟨G, 0, none⟩) 1 1, .slice none 0 0] 28) (u := .slice (some ⟨wx.heap.size, 0, none⟩) 1 1) (f := 3) (LO.out gl rfl).2
            have A9 := Lib.hid (show AttrsRd ((wx.setCell ⟨gl, 3, none⟩ (.slice (some ⟨wx.heap.size, 0, none⟩) 1 1)).alloc (.cells #[.int .i64 4, .string ⟨#[109]⟩, .slice (some ⟨G, 0, none⟩) 1 1, .slice none 0 0] 28)) _ _ from attr_of (heapStill NA.out GL.out ST) (EB.out.keep ST))
            have B9 := Lib.hid (show Below w.heap.size w ((wx.setCell ⟨gl, 3, none⟩ (.slice (some ⟨wx.heap.size, 0, none⟩) 1 1)).alloc (.cells #[.int .i64 4, .string ⟨#[109]⟩, .slice (some ⟨G, 0, none⟩) 1 1, .slice none 0 0] 28)) from below_al (BM.out.setCell (p := ⟨gl, 3, none⟩) hgb2.out _) _)
            have BS := Lib.hid (show Below wx.heap.size (wx.setCell ⟨gl, 3, none⟩ (.slice (some ⟨wx.heap.size, 0, none⟩) 1 1)) ((wx.setCell ⟨gl, 3, none⟩ (.slice (some ⟨wx.heap.size, 0, none⟩) 1 1)).alloc (.cells #[.int .i64 4, .string ⟨#[109]⟩, .slice (some ⟨G, 0, none⟩) 1 1, .slice none 0 0] 28)) from by
              have := below_al (Below.refl (wx.setCell ⟨gl, 3, none⟩ (.slice (some ⟨wx.heap.size, 0, none⟩) 1 1)).heap.size (wx.setCell ⟨gl, 3, none⟩ (.slice (some ⟨wx.heap.size, 0, none⟩) 1 1))) (.cells #[.int .i64 4, .string ⟨#[109]⟩, .slice (some ⟨G, 0, none⟩) 1 1, .slice none 0 0] 28)
              rw [World.size_setCell] at this
              exact this)
            have HS := Lib.hid (show ((wx.setCell ⟨gl, 3, none⟩ (.slice (some ⟨wx.heap.size, 0, none⟩) 1 1)).alloc (.cells #[.int .i64 4, .string ⟨#[109]⟩, .slice (some ⟨G, 0, none⟩) 1 1, .slice none 0 0] 28)).heap[wx.heap.size]? = some (.cells #[.int .i64 4, .string ⟨#[109]⟩, .slice (some ⟨G, 0, none⟩) 1 1, .slice none 0 0] 28) from heapAt (by simp))
            have R9 := Lib.hid (show BlksRd 2 ((wx.setCell ⟨gl, 3, none⟩ (.slice (some ⟨wx.heap.size, 0, none⟩) 1 1)).alloc (.cells #[.int .i64 4, .string ⟨#[109]⟩, .slice (some ⟨G, 0, none⟩) 1 1, .slice none 0 0] 28)) (.slice (some ⟨gl, 0, none⟩) j sc) (bl1 e j) from rd_bl1 (gs := wx.heap.size) hj0 (fun i hi r hr hne => by
                refine (BS.out.cell (p := ⟨gl, i * 4 + r, none⟩) hgw).trans ?_
                exact (World.cell?_setCell_other (w := wx) (a := ⟨gl, 3, none⟩) (v := (.slice (some ⟨wx.heap.size, 0, none⟩) 1 1)) (b := ⟨gl, i * 4 + r, none⟩) (fun e => by simp only [Addr.mk.injEq] at e; omega)).trans (CC.out i hi r hr))
              ((BS.out.cell (p := ⟨gl, 3, none⟩) hgw).trans (World.cell?_setCell_same (w := wx) (a := ⟨gl, 3, none⟩) (v := (.slice (some ⟨wx.heap.size, 0, none⟩) 1 1)) l3))
              (mod_rd (cell_of_row _ _ 0 _ _ _ HS.out) (cell_of_row _ _ 1 _ _ _ HS.out) (cell_of_row _ _ 2 _ _ _ HS.out) (cell_of_row _ _ 3 _ _ _ HS.out) A9.out))
            have PW := Lib.hid (pWarns ((wx.setCell ⟨gl, 3, none⟩ (.slice (some ⟨wx.heap.size, 0, none⟩) 1 1)).alloc (.cells #[.int .i64 4, .string ⟨#[109]⟩, .slice (some ⟨G, 0, none⟩) 1 1, .slice none 0 0] 28)) 0 _ _ R9.out (lint_law HE.out (law_bl1 e hj0 h6)) (V.out.below B9.out V.out.lt))
            rw [warns_law HE.out (law_bl1 e hj0 h6)] at PW
            clear ST BS HS
            go_wp2_with fail
            refine PW.out.mono ?_
            rintro e w5 ⟨v5, rfl, o5, hb5⟩
            obtain ⟨ro, rc, rfl⟩ := own_lenR o5
            have B5 := Lib.hid (B9.out.trans (hb5.mono B9.out.size))
            have PA := Lib.hid (law_awake9 w5 (V.out.below B5.out V.out.lt))
            simp only [List.length_nil]
            clear o5 hb5 PW
            go_wp2_with fail
            refine PA.out.mono ?_
            rintro e w6 ⟨rfl, hb6⟩
            have B6 := Lib.hid (B5.out.trans (hb6.mono B5.out.size))
            clear hb6
            go_wp2_with fail
            go_ret
            exact ⟨rfl, B6.out⟩
          · have q1 : ¬ (128 : Int) ≤ (h : Int) := by omega
            have s3 : w.heap.size ≤ (wx.alloc (.cells #[.int .i64 4, .string ⟨#[109]⟩, .slice (some ⟨G, 0, none⟩) 1 1, .slice none 0 0] 28)).heap.size := by have := BM.out.size; simp; omega
            have hsm : j + 1 ≤ maxLen ∧ (j + 1) * 72 ≤ 140737488355328 := by unfold maxLen; omega
            clear WS
            go_wp2_with (at_builtin; refine wpList_append_own _ rfl _ _ 24 rfl w.heap.size 28 i0 _ 4 72 Tryz.underlying24 hi0 hz0 hz1 hz2 rfl (by decide) (.slice so j sc) j ((List.range j).flatMap dCells) rfl (OM.out.alloc _) ⟨wx.heap.size, 0, none⟩ 1 1 [.int .i64 4, .string ⟨#[109]⟩, .slice (some ⟨G, 0, none⟩) 1 1, .slice none 0 0] rfl rfl ?nwa (by simp [Value.oneCell']) hsm.1 hsm.2 s3 ?_)
            intro v9 w9 hown hgrow _
            have hr9 : ∀ k, (Value.slice so j sc).ownBlock = some k → w.heap.size ≤ k := fun k hk => (World.ownsRow.lt OM.out k hk).1
            have B9 := Lib.hid (below_grown BM.out hgrow hr9)
            have ST := still_grown hgrow (fun k hk => (LO.out k hk).2)
            have A9 := Lib.hid (attr_of (heapStill NA.out GL.out ST) (EB.out.keep ST))
            have R9 := Lib.hid (rd_bl2 hown A9.out)
            have PW := Lib.hid (pWarns w9 0 _ _ R9.out (lint_law HE.out (law_bl2 e h6)) (V.out.below B9.out V.out.lt))
            rw [warns_law HE.out (law_bl2 e h6)] at PW
            clear hown hgrow hsm hr9 ST
            go_wp2_with fail
            refine PW.out.mono ?_
            rintro e w5 ⟨v5, rfl, o5, hb5⟩
            obtain ⟨ro, rc, rfl⟩ := own_lenR o5
            have B5 := Lib.hid (B9.out.trans (hb5.mono B9.out.size))
            have PA := Lib.hid (law_awake9 w5 (V.out.below B5.out V.out.lt))
            simp only [List.length_nil]
            clear o5 hb5 PW
            go_wp2_with fail
            refine PA.out.mono ?_
            rintro e w6 ⟨rfl, hb6⟩
            have B6 := Lib.hid (B5.out.trans (hb6.mono B5.out.size))
            clear hb6
            go_wp2_with fail
            go_ret
            exact ⟨rfl, B6.out⟩
        · have q0 : ¬ (0 : Int) < (j : Int) := by omega
          · skip
            have s3 : w.heap.size ≤ (wx.alloc (.cells #[.int .i64 4, .string ⟨#[109]⟩, .slice (some ⟨G, 0, none⟩) 1 1, .slice none 0 0] 28)).heap.size := by have := BM.out.size; simp; omega
            have hsm : j + 1 ≤ maxLen ∧ (j + 1) * 72 ≤ 140737488355328 := by unfold maxLen; omega
            clear WS
            go_wp2_with (at_builtin; refine wpList_append_own _ rfl _ _ 24 rfl w.heap.size 28 i0 _ 4 72 Tryz.underlying24 hi0 hz0 hz1 hz2 rfl (by decide) (.slice so j sc) j ((List.range j).flatMap dCells) rfl (OM.out.alloc _) ⟨wx.heap.size, 0, none⟩ 1 1 [.int .i64 4, .string ⟨#[109]⟩, .slice (some ⟨G, 0, none⟩) 1 1, .slice none 0 0] rfl rfl ?nwb (by simp [Value.oneCell']) hsm.1 hsm.2 s3 ?_)
            intro v9 w9 hown hgrow _
            have hr9 : ∀ k, (Value.slice so j sc).ownBlock = some k → w.heap.size ≤ k := fun k hk => (World.ownsRow.lt OM.out k hk).1
            have B9 := Lib.hid (below_grown BM.out hgrow hr9)
            have ST := still_grown hgrow (fun k hk => (LO.out k hk).2)
            have A9 := Lib.hid (attr_of (heapStill NA.out GL.out ST) (EB.out.keep ST))
            have R9 := Lib.hid (rd_bl2 hown A9.out)
            have PW := Lib.hid (pWarns w9 0 _ _ R9.out (lint_law HE.out (law_bl2 e h6)) (V.out.below B9.out V.out.lt))
            rw [warns_law HE.out (law_bl2 e h6)] at PW
            clear hown hgrow hsm hr9 ST
            go_wp2_with fail
            refine PW.out.mono ?_
            rintro e w5 ⟨v5, rfl, o5, hb5⟩
            obtain ⟨ro, rc, rfl⟩ := own_lenR o5
            have B5 := Lib.hid (B9.out.trans (hb5.mono B9.out.size))
            have PA := Lib.hid (law_awake9 w5 (V.out.below B5.out V.out.lt))
            simp only [List.length_nil]
            clear o5 hb5 PW
            go_wp2_with fail
            refine PA.out.mono ?_
            rintro e w6 ⟨rfl, hb6⟩
            have B6 := Lib.hid (B5.out.trans (hb6.mono B5.out.size))
            clear hb6
            go_wp2_with fail
            go_ret
            exact ⟨rfl, B6.out⟩
end
end Go.Proofs.YtlkdicabmikhkaaGreatDoor
