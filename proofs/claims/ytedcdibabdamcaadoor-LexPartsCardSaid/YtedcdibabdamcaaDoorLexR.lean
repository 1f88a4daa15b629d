/- The document's text, as a walk. -/
import Derived.Test.YtedcdibabdamcaaDoorLexQ
import Derived.Laws.BytesArg
namespace Go.Proofs.YtedcdibabdamcaaDoor
open Go.RowKit
set_option linter.unusedVariables false
set_option linter.unusedSimpArgs false

/-- What the document's text leaves. -/
def RTextPost (i : Nat) (r : Option (List PartL × Nat)) (w : World) (e : Ending) (w' : World) : Prop :=
  match r with
  | some (ps, k') => ∃ pv, e = .returned (.tuple #[.agg #[.int .i64 2, .string ⟨#[]⟩, .int .i64 0, pv, .int .i64 i], .int .i64 ((k' : Int) - i)]) ∧ Below w.heap.size w w' ∧ PartsOwn w' w.heap.size pv ps
  | none => e = .returned (.tuple #[.agg #[.int .i64 0, .string ⟨#[]⟩, .int .i64 0, .slice none 0 0, .int .i64 0], .int .i64 0]) ∧ Below w.heap.size w w'
def TextRel (s : ByteArray) (i : Nat) (w : World) (m : Nat) (pv bv vk : Value) (wr : World) : Prop :=
  ∃ k ps pl, vk = .int .i64 (k : Nat) ∧ s.size + 1 - k ≤ m ∧ i + 1 ≤ k ∧ k ≤ s.size ∧ partsTo s k ps pl = partsTo s (i + 1) [] [] ∧ Below w.heap.size w wr ∧
    PartsOwn wr (w.heap.size + 1) pv ps ∧ PlainOwn wr (w.heap.size + 1) bv pl ∧ ps.length + pl.length ≤ k ∧ TokBlk wr w.heap.size (.int .i64 0) (.string ⟨#[]⟩) (.int .i64 0) (.slice none 0 0) (.int .i64 0)
theorem TokBlk.set4 {w : World} {g : Nat} {a c d e f : Value} (h : TokBlk w g a c d e f) (v : Value) : TokBlk (w.setCell ⟨g, 4, none⟩ v) g a c d e v := heap_setCell_same w g 4 _ _ v h
def setTok (w : World) (B : Nat) (a c d e f : Value) : World := ((((w.setCell ⟨B, 0, none⟩ a).setCell ⟨B, 1, none⟩ c).setCell ⟨B, 2, none⟩ d).setCell ⟨B, 3, none⟩ e).setCell ⟨B, 4, none⟩ f
theorem text_ret {w wr : World} {a c d e f : Value} (T : TokBlk wr w.heap.size a c d e f) (H : Below w.heap.size w wr) (v0 v1 v2 v3 v4 : Value) :
    TokBlk (setTok wr w.heap.size v0 v1 v2 v3 v4) w.heap.size v0 v1 v2 v3 v4 ∧ Below w.heap.size w (setTok wr w.heap.size v0 v1 v2 v3 v4) ∧ ∀ v ps, PartsOwn wr (w.heap.size + 1) v ps → PartsOwn (setTok wr w.heap.size v0 v1 v2 v3 v4) w.heap.size v ps := by
  refine ⟨((((T.set0 v0).set1 v1).set2 v2).set3 v3).set4 v4, ?_, fun v ps hp => ?_⟩
  · exact Below.setCell (p := ⟨w.heap.size, 4, none⟩) (Below.setCell (p := ⟨w.heap.size, 3, none⟩) (Below.setCell (p := ⟨w.heap.size, 2, none⟩) (Below.setCell (p := ⟨w.heap.size, 1, none⟩) (Below.setCell (p := ⟨w.heap.size, 0, none⟩) H (Nat.le_refl _) _) (Nat.le_refl _) _) (Nat.le_refl _) _) (Nat.le_refl _) _) (Nat.le_refl _) _
  · have l := Nat.lt_succ_self w.heap.size
    exact own_base (own_set (p := ⟨w.heap.size, 4, none⟩) (own_set (p := ⟨w.heap.size, 3, none⟩) (own_set (p := ⟨w.heap.size, 2, none⟩) (own_set (p := ⟨w.heap.size, 1, none⟩) (own_set (p := ⟨w.heap.size, 0, none⟩) hp l _) l _) l _) l _) l _) (Nat.le_succ _)
theorem TokBlk.grown {w w' : World} {g : Nat} {a c d e f : Value} {row : Option Nat} (h : TokBlk w g a c d e f) (hg : w.grownBy w' row) (hr : ∀ k, row = some k → g + 1 ≤ k) : TokBlk w' g a c d e f :=
  (hg.block g h.lt (fun e => by have := hr g e.symm; omega)).trans h
/-- What appending leaves of the two rows and of the rest. -/
theorem text_plain {w wr w5 : World} {pv bv : Value} {ps : List PartL} {pl : List UInt8} {O : Obj} (B : Nat) (hB : B = w.heap.size) (T : TokBlk wr B (.int .i64 0) (.string ⟨#[]⟩) (.int .i64 0) (.slice none 0 0) (.int .i64 0)) (H : Below w.heap.size w wr)
    (P : PartsOwn wr (B + 1) pv ps) (L : PlainOwn wr (B + 1) bv pl) (G : (wr.alloc O).grownBy w5 bv.ownBlock) :
    TokBlk w5 B (.int .i64 0) (.string ⟨#[]⟩) (.int .i64 0) (.slice none 0 0) (.int .i64 0) ∧ Below w.heap.size w w5 ∧ PartsOwn w5 (B + 1) pv ps := by
  subst hB
  have hg := grown_trans (World.grownBy_alloc wr O bv.ownBlock) G
  have hrow : ∀ k, bv.ownBlock = some k → w.heap.size + 1 ≤ k := fun k hk => (World.ownsRow.lt L k hk).1
  exact ⟨T.grown hg hrow, Below.grown H hg (Nat.le_of_lt T.lt) (fun k hk => Nat.le_of_succ_le (hrow k hk)), World.ownsRow.kept P hg (own_apart P L (by decide))⟩
theorem text_parts {w wr w5 : World} {pv : Value} {ps : List PartL} {O : Obj} (B : Nat) (hB : B = w.heap.size) (T : TokBlk wr B (.int .i64 0) (.string ⟨#[]⟩) (.int .i64 0) (.slice none 0 0) (.int .i64 0)) (H : Below w.heap.size w wr)
    (P : PartsOwn wr (B + 1) pv ps) (G : (wr.alloc O).grownBy w5 pv.ownBlock) :
    TokBlk w5 B (.int .i64 0) (.string ⟨#[]⟩) (.int .i64 0) (.slice none 0 0) (.int .i64 0) ∧ Below w.heap.size w w5 := by
  subst hB
  have hg := grown_trans (World.grownBy_alloc wr O pv.ownBlock) G
  have hrow : ∀ k, pv.ownBlock = some k → w.heap.size + 1 ≤ k := fun k hk => (World.ownsRow.lt P k hk).1
  exact ⟨T.grown hg hrow, Below.grown H hg (Nat.le_of_lt T.lt) (fun k hk => Nat.le_of_succ_le (hrow k hk))⟩
theorem text_keep {wr w5 : World} {pv bv : Value} {ps : List PartL} {pl : List UInt8} {O : Obj} (B : Nat) (P : PartsOwn wr (B + 1) pv ps) (L : PlainOwn wr (B + 1) bv pl) (G : (wr.alloc O).grownBy w5 pv.ownBlock) : PlainOwn w5 (B + 1) bv pl :=
  World.ownsRow.kept L (grown_trans (World.grownBy_alloc wr O pv.ownBlock) G) (own_apart L P (by decide))
theorem int_ref (k m : Nat) (z : Int) (h : z = (k : Int) + m + 3) : Value.int .i64 z = .int .i64 ((k + (m + 3) : Nat) : Int) := by rw [h]; congr 1
theorem withPl_len (ps : List PartL) (pl : List UInt8) : (withPl ps pl).length ≤ ps.length + pl.length := by
  unfold withPl; split
  · omega
  · rename_i hne
    have : 0 < pl.length := List.length_pos_iff.2 hne
    simp; omega
theorem plain_snoc (pl : List UInt8) (c : UInt8) : byteVals (pl ++ [c]) = byteVals pl ++ [.int .u8 (c.toNat : Int)] := by simp [byteVals]

theorem int_add2 (k : Nat) : Value.int .i64 ((k : Int) + 1 + 1) = .int .i64 ((k + 2 : Nat) : Int) := by congr 1
theorem int_add1 (k : Nat) : Value.int .i64 ((k : Int) + 1) = .int .i64 ((k + 1 : Nat) : Int) := rfl
section
variable (s : ByteArray) (w : World)
set_option maxHeartbeats 40000000 in
set_option maxRecDepth 20000 in
theorem rtext_any (i : Nat) (x : Int) (hx : x = i) (hs : s.size ≤ 6000) (hi : i < s.size) :
    Calls Tryd.prog 36 #[.string s, .int .i64 x] w (RTextPost i (partsTo s (i + 1) [] []) w) := by
  subst hx
  have HL := Lib.hid (len_ok hs)
  have HS6 := Lib.hid hs
  go_enter Tryd.func36, Tryd.ntmps36
  go_wp2_with fail
  go_loopg [6, 7, 8] (s.size + 1 - (i + 1)) (fun m pv bv vk wr => TextRel s i w m pv bv vk wr)
  case atStart => exact ⟨i + 1, [], [], by rfl, Nat.le_refl _, Nat.le_refl _, hi, rfl, (Below.refl _ _).alloc (Nat.le_refl _) _, World.ownsRow_nil _ _ _ _, World.ownsRow_nil _ _ _ _, by simp, TokBlk.new w _ _ _ _ _⟩
  case round =>
    obtain ⟨k, ps, pl, rfl, hm, hik, hks, he, hb, hps, hpl, hlen, htb⟩ := hrel
    have HM := Lib.hid hm
    have HK := Lib.hid (show i + 1 ≤ k ∧ k ≤ s.size from ⟨hik, hks⟩)
    have HE := Lib.hid he
    have HB := Lib.hid hb
    have PS := Lib.hid hps
    have PL := Lib.hid hpl
    have LEN := Lib.hid (show ps.length + pl.length ≤ k ∧ k ≤ 6000 from ⟨hlen, by omega⟩)
    have T := Lib.hid htb
    have LT := Lib.hid htb.lt
    obtain ⟨t0, t1, t2, t3, t4⟩ := htb.cells
    have tf := fun o => htb.free o
    have k1 : k ≤ 6000 := by omega
    clear hm he hb htb hik hlen
    by_cases hk : k < s.size
    · have hp := pk_in hk
      have q1 := pk_lo s k
      have q2 := pk_hi s k
      rw [hp] at q1 q2
      clear hp
      by_cases h34 : (s[k].toNat : Int) = 34
      · have TO := Lib.hid (HE.out.symm.trans (text_q (ps := ps) (pl := pl) hk h34))
        have g34 : ((s[k].toNat : Int) == 34) = true := by simpa using h34
        clear h34
        by_cases hpe : pl = []
        · obtain ⟨ao, cap, rfl⟩ := own_len hpl
          have hl0 : pl.length = 0 := by rw [hpe]; rfl
          have HWP := Lib.hid (show withPl ps pl = ps by simp [withPl, hpe])
          rw [hl0]
          clear hpl hps hpe
          obtain ⟨pao, pn, pcap, rfl⟩ := own_slice PS.out
          go_wp2_with fail
          show bodyPost _ _ _ _ _ (setTok wr w.heap.size (.int .i64 2) (.string ⟨#[]⟩) (.int .i64 0) (.slice pao pn pcap) (.int .i64 i))
          obtain ⟨z, zb, zp⟩ := text_ret T.out HB.out (.int .i64 2) (.string ⟨#[]⟩) (.int .i64 0) (.slice pao pn pcap) (.int .i64 i)
          generalize setTok wr w.heap.size (.int .i64 2) (.string ⟨#[]⟩) (.int .i64 0) (.slice pao pn pcap) (.int .i64 i) = W at *
          obtain ⟨r0, r1, r2, r3, r4⟩ := z.cells
          refine bodyPost_ret (v := .tuple #[.agg #[.int .i64 2, .string ⟨#[]⟩, .int .i64 0, .slice pao pn pcap, .int .i64 i], .int .i64 ((k : Int) + 1 - i)]) (by simp [results, Tryd.results36, go_sem, r0, r1, r2, r3, r4]) rfl ?_
          rw [TO.out, HWP.out]
          exact ⟨_, rfl, zb, zp _ _ PS.out⟩
        · have hn : pl.length ≠ 0 := fun h => hpe (List.eq_nil_of_length_eq_zero h)
          obtain ⟨g, cap, rfl⟩ := own_shape' hpl hn
          have hcv := run_convert_bytes_back (P := Tryd.prog) wr 33 9 5 ⟨g, 0, none⟩ cap pl Tryd.underlying33 Tryd.underlying5 Tryd.underlying9 (plain_conv hpl)
          have hpos : 0 < pl.length := by omega
          have hm' : pl.length ≤ 9223372036854775807 := by have := LEN.out; omega
          have HWP := Lib.hid (show withPl ps pl = ps ++ [(false, ⟨pl.toArray⟩)] by simp [withPl, hpe])
          clear hpl hps hpe
          obtain ⟨i0, hi0, hz0, hz1, hz2⟩ := info_parts info_part
          go_wp2_with (at_builtin; refine wpList_append_own _ rfl _ _ 34 rfl (w.heap.size + 1) 40 i0 _ 2 24 Tryd.underlying34 hi0 hz0 hz1 hz2 rfl (by decide) u6 ps.length (partCells ps) rfl (World.ownsRow.alloc PS.out _) ⟨wr.heap.size, 0, none⟩ 1 1 [.bool false, .string ⟨pl.toArray⟩] rfl rfl ?c1 ?c2 ?c3 ?c4 ?c5 ?_)
          case c1 => exact news_new wr #[.bool false, .string ⟨pl.toArray⟩] 40
          case c2 => simp [Value.oneCell']
          case c3 => have := LEN.out; unfold maxLen; omega
          case c4 => have := LEN.out; omega
          case c5 => have := LT.out; simp; omega
          intro v' w5 hown' hgrow _
          have hT5 := text_parts _ rfl T.out HB.out PS.out hgrow
          have T5 := Lib.hid hT5.1
          have B5 := Lib.hid hT5.2
          have HO := Lib.hid hown'
          clear hown' hgrow t0 t1 t2 t3 t4 tf hcv
          obtain ⟨t0, t1, t2, t3, t4⟩ := T5.out.cells
          have tf := fun o => T5.out.free o
          obtain ⟨pao, pn, pcap, rfl⟩ := own_slice HO.out
          go_wp2_with fail
          show bodyPost _ _ _ _ _ (setTok w5 w.heap.size (.int .i64 2) (.string ⟨#[]⟩) (.int .i64 0) (.slice pao pn pcap) (.int .i64 i))
          obtain ⟨z, zb, zp⟩ := text_ret T5.out B5.out (.int .i64 2) (.string ⟨#[]⟩) (.int .i64 0) (.slice pao pn pcap) (.int .i64 i)
          generalize setTok w5 w.heap.size (.int .i64 2) (.string ⟨#[]⟩) (.int .i64 0) (.slice pao pn pcap) (.int .i64 i) = W at *
          obtain ⟨r0, r1, r2, r3, r4⟩ := z.cells
          refine bodyPost_ret (v := .tuple #[.agg #[.int .i64 2, .string ⟨#[]⟩, .int .i64 0, .slice pao pn pcap, .int .i64 i], .int .i64 ((k : Int) + 1 - i)]) (by simp [results, Tryd.results36, go_sem, r0, r1, r2, r3, r4]) rfl ?_
          rw [TO.out, HWP.out]
          exact ⟨_, rfl, zb, zp _ _ (by unfold PartsOwn; rw [partCells_snoc, List.length_append]; exact HO.out)⟩
      have g34 : ((s[k].toNat : Int) == 34) = false := by simpa using h34
      by_cases h32 : (s[k].toNat : Int) < 32
      · have TO := Lib.hid (HE.out.symm.trans (text_low (ps := ps) (pl := pl) hk h32))
        clear hpl hps h34
        go_wp2_with fail
        (show bodyPost _ _ _ _ _ (setTok wr w.heap.size (.int .i64 0) (.string ⟨#[]⟩) (.int .i64 0) (.slice none 0 0) (.int .i64 0)))
        obtain ⟨z, zb, zp⟩ := text_ret T.out HB.out (.int .i64 0) (.string ⟨#[]⟩) (.int .i64 0) (.slice none 0 0) (.int .i64 0)
        generalize setTok wr w.heap.size (.int .i64 0) (.string ⟨#[]⟩) (.int .i64 0) (.slice none 0 0) (.int .i64 0) = W at *
        obtain ⟨r0, r1, r2, r3, r4⟩ := z.cells
        refine bodyPost_ret (v := .tuple #[.agg #[.int .i64 0, .string ⟨#[]⟩, .int .i64 0, .slice none 0 0, .int .i64 0], .int .i64 0]) (by simp [results, Tryd.results36, go_sem, r0, r1, r2, r3, r4]) rfl ?_
        rw [TO.out]
        exact ⟨rfl, zb⟩
      by_cases h92 : (s[k].toNat : Int) = 92
      · have g92 : ((s[k].toNat : Int) == 92) = true := by simpa using h92
        by_cases hk1 : k + 1 < s.size
        · have q3 := pk_lo s (k + 1)
          have q4 := pk_hi s (k + 1)
          rw [pk_in hk1] at q3 q4
          by_cases ha : (s[k + 1].toNat : Int) = 34
          · have TO := Lib.hid ((text_esc (ps := ps) (pl := pl) hk h92 hk1 (.inl ha)).symm.trans HE.out)
            have g1 : ((s[k + 1].toNat : Int) == 34) = true := by simpa using ha
            clear hpl hps h34 h92 ha
            obtain ⟨i0, hi0, hz0, hz1, hz2⟩ := info_parts info_byte
            go_wp2_with (at_builtin; refine wpList_append_own _ rfl _ _ 33 rfl (w.heap.size + 1) 5 i0 _ 1 1 Tryd.underlying33 hi0 hz0 hz1 hz2 rfl (by decide) u7 pl.length (byteVals pl) rfl (World.ownsRow.alloc PL.out _) ⟨wr.heap.size, 0, none⟩ 1 1 [.int .u8 (s[k + 1].toNat : Int)] rfl rfl ?c1 ?c2 ?c3 ?c4 ?c5 ?_)
            try case c1 => exact news_new wr #[.int .u8 (s[k + 1].toNat : Int)] 5
            try case c2 => simp [Value.oneCell']
            try case c3 => have := LEN.out; unfold maxLen; omega
            try case c4 => have := LEN.out; omega
            try case c5 => have := LT.out; simp; omega
            intro v' w5 hown' hgrow _
            have HO := Lib.hid hown'
            have HG := Lib.hid hgrow
            clear hown' hgrow t0 t1 t2 t3 t4 tf
            go_wp2
            go_roundg (s.size + 1 - (k + 2))
            case rel =>
              obtain ⟨f1, f2, f3⟩ := text_plain _ rfl T.out HB.out PS.out PL.out HG.out
              have := HK.out
              have := LEN.out
              exact ⟨k + 2, ps, pl ++ [s[k + 1]], (int_add2 k), Nat.le_refl _, by omega, by omega, TO.out, f2, f3, (by unfold PlainOwn; rw [plain_snoc, List.length_append]; exact HO.out), by simp; omega, f1⟩
            case measure => have := HM.out; have := HK.out; omega
          have g1 : ((s[k + 1].toNat : Int) == 34) = false := by simpa using ha
          by_cases hb : (s[k + 1].toNat : Int) = 92
          · have TO := Lib.hid ((text_esc (ps := ps) (pl := pl) hk h92 hk1 (.inr (.inl hb))).symm.trans HE.out)
            have g2 : ((s[k + 1].toNat : Int) == 92) = true := by simpa using hb
            clear hpl hps h34 h92 ha hb
            obtain ⟨i0, hi0, hz0, hz1, hz2⟩ := info_parts info_byte
            go_wp2_with (at_builtin; refine wpList_append_own _ rfl _ _ 33 rfl (w.heap.size + 1) 5 i0 _ 1 1 Tryd.underlying33 hi0 hz0 hz1 hz2 rfl (by decide) u7 pl.length (byteVals pl) rfl (World.ownsRow.alloc PL.out _) ⟨wr.heap.size, 0, none⟩ 1 1 [.int .u8 (s[k + 1].toNat : Int)] rfl rfl ?c1 ?c2 ?c3 ?c4 ?c5 ?_)
            try case c1 => exact news_new wr #[.int .u8 (s[k + 1].toNat : Int)] 5
            try case c2 => simp [Value.oneCell']
            try case c3 => have := LEN.out; unfold maxLen; omega
            try case c4 => have := LEN.out; omega
            try case c5 => have := LT.out; simp; omega
            intro v' w5 hown' hgrow _
            have HO := Lib.hid hown'
            have HG := Lib.hid hgrow
            clear hown' hgrow t0 t1 t2 t3 t4 tf
            go_wp2
            go_roundg (s.size + 1 - (k + 2))
            case rel =>
              obtain ⟨f1, f2, f3⟩ := text_plain _ rfl T.out HB.out PS.out PL.out HG.out
              have := HK.out
              have := LEN.out
              exact ⟨k + 2, ps, pl ++ [s[k + 1]], (int_add2 k), Nat.le_refl _, by omega, by omega, TO.out, f2, f3, (by unfold PlainOwn; rw [plain_snoc, List.length_append]; exact HO.out), by simp; omega, f1⟩
            case measure => have := HM.out; have := HK.out; omega
          have g2 : ((s[k + 1].toNat : Int) == 92) = false := by simpa using hb
          by_cases hc : (s[k + 1].toNat : Int) = 36
          · have TO := Lib.hid ((text_esc (ps := ps) (pl := pl) hk h92 hk1 (.inr (.inr hc))).symm.trans HE.out)
            have g3 : ((s[k + 1].toNat : Int) == 36) = true := by simpa using hc
            clear hpl hps h34 h92 ha hb hc
            obtain ⟨i0, hi0, hz0, hz1, hz2⟩ := info_parts info_byte
            go_wp2_with (at_builtin; refine wpList_append_own _ rfl _ _ 33 rfl (w.heap.size + 1) 5 i0 _ 1 1 Tryd.underlying33 hi0 hz0 hz1 hz2 rfl (by decide) u7 pl.length (byteVals pl) rfl (World.ownsRow.alloc PL.out _) ⟨wr.heap.size, 0, none⟩ 1 1 [.int .u8 (s[k + 1].toNat : Int)] rfl rfl ?c1 ?c2 ?c3 ?c4 ?c5 ?_)
            try case c1 => exact news_new wr #[.int .u8 (s[k + 1].toNat : Int)] 5
            try case c2 => simp [Value.oneCell']
            try case c3 => have := LEN.out; unfold maxLen; omega
            try case c4 => have := LEN.out; omega
            try case c5 => have := LT.out; simp; omega
            intro v' w5 hown' hgrow _
            have HO := Lib.hid hown'
            have HG := Lib.hid hgrow
            clear hown' hgrow t0 t1 t2 t3 t4 tf
            go_wp2
            go_roundg (s.size + 1 - (k + 2))
            case rel =>
              obtain ⟨f1, f2, f3⟩ := text_plain _ rfl T.out HB.out PS.out PL.out HG.out
              have := HK.out
              have := LEN.out
              exact ⟨k + 2, ps, pl ++ [s[k + 1]], (int_add2 k), Nat.le_refl _, by omega, by omega, TO.out, f2, f3, (by unfold PlainOwn; rw [plain_snoc, List.length_append]; exact HO.out), by simp; omega, f1⟩
            case measure => have := HM.out; have := HK.out; omega
          have g3 : ((s[k + 1].toNat : Int) == 36) = false := by simpa using hc
          by_cases hd : (s[k + 1].toNat : Int) = 110
          · have TO := Lib.hid ((text_esc_n (ps := ps) (pl := pl) hk h92 hk1 hd).symm.trans HE.out)
            have g4 : ((s[k + 1].toNat : Int) == 110) = true := by simpa using hd
            clear hpl hps h34 h92 ha hb hc hd
            obtain ⟨i0, hi0, hz0, hz1, hz2⟩ := info_parts info_byte
            go_wp2_with (at_builtin; refine wpList_append_own _ rfl _ _ 33 rfl (w.heap.size + 1) 5 i0 _ 1 1 Tryd.underlying33 hi0 hz0 hz1 hz2 rfl (by decide) u7 pl.length (byteVals pl) rfl (World.ownsRow.alloc PL.out _) ⟨wr.heap.size, 0, none⟩ 1 1 [.int .u8 (10 : Int)] rfl rfl ?c1 ?c2 ?c3 ?c4 ?c5 ?_)
            try case c1 => exact news_new wr #[.int .u8 (10 : Int)] 5
            try case c2 => simp [Value.oneCell']
            try case c3 => have := LEN.out; unfold maxLen; omega
            try case c4 => have := LEN.out; omega
            try case c5 => have := LT.out; simp; omega
            intro v' w5 hown' hgrow _
            have HO := Lib.hid hown'
            have HG := Lib.hid hgrow
            clear hown' hgrow t0 t1 t2 t3 t4 tf
            go_wp2
            go_roundg (s.size + 1 - (k + 2))
            case rel =>
              obtain ⟨f1, f2, f3⟩ := text_plain _ rfl T.out HB.out PS.out PL.out HG.out
              have := HK.out
              have := LEN.out
              exact ⟨k + 2, ps, pl ++ [(10 : UInt8)], (int_add2 k), Nat.le_refl _, by omega, by omega, TO.out, f2, f3, (by unfold PlainOwn; rw [plain_snoc, List.length_append]; exact HO.out), by simp; omega, f1⟩
            case measure => have := HM.out; have := HK.out; omega
          · have TO := Lib.hid (HE.out.symm.trans (text_esc_bad (ps := ps) (pl := pl) hk h92 hk1 ha hb hc hd))
            have g4 : ((s[k + 1].toNat : Int) == 110) = false := by simpa using hd
            clear hpl hps h34 h92 ha hb hc hd
            go_wp2_with fail
            (show bodyPost _ _ _ _ _ (setTok wr w.heap.size (.int .i64 0) (.string ⟨#[]⟩) (.int .i64 0) (.slice none 0 0) (.int .i64 0)))
            obtain ⟨z, zb, zp⟩ := text_ret T.out HB.out (.int .i64 0) (.string ⟨#[]⟩) (.int .i64 0) (.slice none 0 0) (.int .i64 0)
            generalize setTok wr w.heap.size (.int .i64 0) (.string ⟨#[]⟩) (.int .i64 0) (.slice none 0 0) (.int .i64 0) = W at *
            obtain ⟨r0, r1, r2, r3, r4⟩ := z.cells
            refine bodyPost_ret (v := .tuple #[.agg #[.int .i64 0, .string ⟨#[]⟩, .int .i64 0, .slice none 0 0, .int .i64 0], .int .i64 0]) (by simp [results, Tryd.results36, go_sem, r0, r1, r2, r3, r4]) rfl ?_
            rw [TO.out]
            exact ⟨rfl, zb⟩
        · have TO := Lib.hid (HE.out.symm.trans (text_esc_end (ps := ps) (pl := pl) hk h92 hk1))
          clear hpl hps h34 h92
          go_wp2_with fail
          (show bodyPost _ _ _ _ _ (setTok wr w.heap.size (.int .i64 0) (.string ⟨#[]⟩) (.int .i64 0) (.slice none 0 0) (.int .i64 0)))
          obtain ⟨z, zb, zp⟩ := text_ret T.out HB.out (.int .i64 0) (.string ⟨#[]⟩) (.int .i64 0) (.slice none 0 0) (.int .i64 0)
          generalize setTok wr w.heap.size (.int .i64 0) (.string ⟨#[]⟩) (.int .i64 0) (.slice none 0 0) (.int .i64 0) = W at *
          obtain ⟨r0, r1, r2, r3, r4⟩ := z.cells
          refine bodyPost_ret (v := .tuple #[.agg #[.int .i64 0, .string ⟨#[]⟩, .int .i64 0, .slice none 0 0, .int .i64 0], .int .i64 0]) (by simp [results, Tryd.results36, go_sem, r0, r1, r2, r3, r4]) rfl ?_
          rw [TO.out]
          exact ⟨rfl, zb⟩
      have g92 : ((s[k].toNat : Int) == 92) = false := by simpa using h92
      by_cases h36 : (s[k].toNat : Int) = 36
      · have g36 : ((s[k].toNat : Int) == 36) = true := by simpa using h36
        by_cases hk1 : k + 1 < s.size
        · have q3 := pk_lo s (k + 1)
          have q4 := pk_hi s (k + 1)
          rw [pk_in hk1] at q3 q4
          by_cases h123 : (s[k + 1].toNat : Int) = 123
          · have hd : isAt s dollar k = true := by rw [dollar_at hk1, h36, h123]; rfl
            have g123 : ((s[k + 1].toNat : Int) == 123) = true := by simpa using h123
            cases hr : refB s (k + 2)
            · have TO := Lib.hid (HE.out.symm.trans (text_ref_no (ps := ps) (pl := pl) hk h36 hd hr))
              have RN := Lib.hid (show refN s k = 0 by simp [refN, hr])
              clear hpl hps h34 h92 h36 h123 hd hr
              go_wp2_with fail
              refine (reference_any s wr k _ (by rfl) HS6.out hk1).mono ?_
              rw [RN.out]
              rintro e w2 ⟨rfl, n, rfl⟩
              have T := Lib.hid (show TokBlk (wr.drewN n) w.heap.size (.int .i64 0) (.string ⟨#[]⟩) (.int .i64 0) (.slice none 0 0) (.int .i64 0) from T.out)
              have HB := Lib.hid (below_drewN HB.out n)
              generalize wr.drewN n = wr at *
              clear t0 t1 t2 t3 t4 tf
              obtain ⟨t0, t1, t2, t3, t4⟩ := T.out.cells
              have tf := fun o => T.out.free o
              go_wp2_with fail
              (show bodyPost _ _ _ _ _ (setTok wr w.heap.size (.int .i64 0) (.string ⟨#[]⟩) (.int .i64 0) (.slice none 0 0) (.int .i64 0)))
              obtain ⟨z, zb, zp⟩ := text_ret T.out HB.out (.int .i64 0) (.string ⟨#[]⟩) (.int .i64 0) (.slice none 0 0) (.int .i64 0)
              generalize setTok wr w.heap.size (.int .i64 0) (.string ⟨#[]⟩) (.int .i64 0) (.slice none 0 0) (.int .i64 0) = W at *
              obtain ⟨r0, r1, r2, r3, r4⟩ := z.cells
              refine bodyPost_ret (v := .tuple #[.agg #[.int .i64 0, .string ⟨#[]⟩, .int .i64 0, .slice none 0 0, .int .i64 0], .int .i64 0]) (by simp [results, Tryd.results36, go_sem, r0, r1, r2, r3, r4]) rfl ?_
              rw [TO.out]
              exact ⟨rfl, zb⟩
            · have TO := Lib.hid ((text_ref (ps := ps) (pl := pl) hk h36 hd hr).symm.trans HE.out)
              have hrf := refTo_ok hr
              obtain ⟨m, hm⟩ : ∃ m, refTo s (k + 2) = k + (m + 3) := ⟨refTo s (k + 2) - k - 3, by omega⟩
              have hTO : partsTo s (k + (m + 3)) (withPl ps pl ++ [(true, s.extract (k + 2) (k + (m + 2)))]) [] = partsTo s (i + 1) [] [] := by
                have h := TO.out
                rw [hm, show k + (m + 3) - 1 = k + (m + 2) by omega] at h
                exact h
              rw [hm] at hrf
              clear TO
              have TO := Lib.hid hTO
              have RN := Lib.hid (show refN s k = ((m + 3 : Nat) : Int) by simp [refN, hr, hm]; omega)
              have CT := Lib.hid (show k + m + 3 ≤ s.size by omega)
              have g0 : ((m : Int) + 3 == 0) = false := by simp; omega
              clear hps h34 h92 h36 h123 hd hr hm hrf hTO
              by_cases hpe : pl = []
              · obtain ⟨ao, cap, rfl⟩ := own_len hpl
                have hl0 : pl.length = 0 := by rw [hpe]; rfl
                have HWP := Lib.hid (show withPl ps pl = ps by simp [withPl, hpe])
                have HP0 := Lib.hid hpe
                rw [hl0]
                clear hpl hpe
                go_wp2_with fail
                refine (reference_any s wr k _ (by rfl) HS6.out hk1).mono ?_
                rw [RN.out]
                rintro e w2 ⟨rfl, n, rfl⟩
                have T := Lib.hid (show TokBlk (wr.drewN n) w.heap.size (.int .i64 0) (.string ⟨#[]⟩) (.int .i64 0) (.slice none 0 0) (.int .i64 0) from T.out)
                have HB := Lib.hid (below_drewN HB.out n)
                have PS := Lib.hid (show PartsOwn (wr.drewN n) (w.heap.size + 1) u6 ps from PS.out)
                have PL := Lib.hid (show PlainOwn (wr.drewN n) (w.heap.size + 1) (.slice ao 0 cap) pl from hl0 ▸ PL.out)
                have LT := Lib.hid (show w.heap.size < (wr.drewN n).heap.size from LT.out)
                generalize wr.drewN n = wr at *
                clear t0 t1 t2 t3 t4 tf
                have hct := CT.out
                obtain ⟨i0, hi0, hz0, hz1, hz2⟩ := info_parts info_part
                go_wp2_with (at_builtin; refine wpList_append_own _ rfl _ _ 34 rfl (w.heap.size + 1) 40 i0 _ 2 24 Tryd.underlying34 hi0 hz0 hz1 hz2 rfl (by decide) u6 ps.length (partCells ps) rfl (World.ownsRow.alloc PS.out _) ⟨wr.heap.size, 0, none⟩ 1 1 [.bool true, .string (s.extract (k + 2) (k + (m + 2)))] rfl rfl ?c1 ?c2 ?c3 ?c4 ?c5 ?_)
                try case c1 => exact news_new wr #[.bool true, .string (s.extract (k + 2) (k + (m + 2)))] 40
                try case c2 => simp [Value.oneCell']
                try case c3 => have := LEN.out; unfold maxLen; omega
                try case c4 => have := LEN.out; omega
                try case c5 => have := LT.out; simp; omega
                intro v' w5 hown' hgrow _
                have hT5 := text_parts _ rfl T.out HB.out PS.out hgrow
                have T5 := Lib.hid hT5.1
                have B5 := Lib.hid hT5.2
                have L5 := Lib.hid (text_keep _ PS.out PL.out hgrow)
                have HO := Lib.hid hown'
                clear hown' hgrow hT5
                go_wp2
                go_roundg (s.size + 1 - (k + (m + 3)))
                case rel =>
                  have := HK.out
                  have := LEN.out
                  have h0 : pl = [] := HP0.out
                  refine ⟨k + (m + 3), withPl ps pl ++ [(true, s.extract (k + 2) (k + (m + 2)))], [], int_ref k m _ (by omega), Nat.le_refl _, by omega, by omega, TO.out, B5.out, ?_, ?_, ?_, T5.out⟩
                  · rw [HWP.out]; unfold PartsOwn; rw [partCells_snoc, List.length_append]; exact HO.out
                  · have h := L5.out; rw [h0] at h; exact h
                  · rw [HWP.out]; simp; omega
                case measure => have := HM.out; have := HK.out; omega
              · have hn : pl.length ≠ 0 := fun h => hpe (List.eq_nil_of_length_eq_zero h)
                obtain ⟨g, cap, rfl⟩ := own_shape' hpl hn
                have hpos : 0 < pl.length := by omega
                have hm' : pl.length ≤ 9223372036854775807 := by have := LEN.out; omega
                have HWP := Lib.hid (show withPl ps pl = ps ++ [(false, ⟨pl.toArray⟩)] by simp [withPl, hpe])
                clear hpl hpe
                go_wp2_with fail
                refine (reference_any s wr k _ (by rfl) HS6.out hk1).mono ?_
                rw [RN.out]
                rintro e w2 ⟨rfl, n, rfl⟩
                have T := Lib.hid (show TokBlk (wr.drewN n) w.heap.size (.int .i64 0) (.string ⟨#[]⟩) (.int .i64 0) (.slice none 0 0) (.int .i64 0) from T.out)
                have HB := Lib.hid (below_drewN HB.out n)
                have PS := Lib.hid (show PartsOwn (wr.drewN n) (w.heap.size + 1) u6 ps from PS.out)
                have PL := Lib.hid (show PlainOwn (wr.drewN n) (w.heap.size + 1) (.slice (some ⟨g, 0, none⟩) pl.length cap) pl from PL.out)
                have LT := Lib.hid (show w.heap.size < (wr.drewN n).heap.size from LT.out)
                generalize wr.drewN n = wr at *
                clear t0 t1 t2 t3 t4 tf
                have hct := CT.out
                have hcv := run_convert_bytes_back (P := Tryd.prog) wr 33 9 5 ⟨g, 0, none⟩ cap pl Tryd.underlying33 Tryd.underlying5 Tryd.underlying9 (plain_conv PL.out)
                obtain ⟨i0, hi0, hz0, hz1, hz2⟩ := info_parts info_part
                go_wp2_with (at_builtin; refine wpList_append_own _ rfl _ _ 34 rfl (w.heap.size + 1) 40 i0 _ 2 24 Tryd.underlying34 hi0 hz0 hz1 hz2 rfl (by decide) u6 ps.length (partCells ps) rfl (World.ownsRow.alloc PS.out _) ⟨wr.heap.size, 0, none⟩ 1 1 [.bool false, .string ⟨pl.toArray⟩] rfl rfl ?c1 ?c2 ?c3 ?c4 ?c5 ?_)
                try case c1 => exact news_new wr #[.bool false, .string ⟨pl.toArray⟩] 40
                try case c2 => simp [Value.oneCell']
                try case c3 => have := LEN.out; unfold maxLen; omega
                try case c4 => have := LEN.out; omega
                try case c5 => have := LT.out; simp; omega
                intro v4 w4 hown4 hgrow4 _
                have hT4 := text_parts _ rfl T.out HB.out PS.out hgrow4
                have T4 := Lib.hid hT4.1
                have B4 := Lib.hid hT4.2
                have P4 := Lib.hid (show PartsOwn w4 (w.heap.size + 1) v4 (withPl ps pl) by rw [HWP.out]; unfold PartsOwn; rw [partCells_snoc, List.length_append]; exact hown4)
                have LT4 := Lib.hid (hT4.1.lt)
                have WL := Lib.hid (show (withPl ps pl).length ≤ 6000 by have := LEN.out; have := withPl_len ps pl; omega)
                clear hown4 hgrow4 hT4 hcv PS PL T HB
                generalize hps' : withPl ps pl = ps' at *
                go_wp2_with (at_builtin; refine wpList_append_own _ rfl _ _ 34 rfl (w.heap.size + 1) 40 i0 _ 2 24 Tryd.underlying34 hi0 hz0 hz1 hz2 rfl (by decide) v4 ps'.length (partCells ps') rfl (World.ownsRow.alloc P4.out _) ⟨w4.heap.size, 0, none⟩ 1 1 [.bool true, .string (s.extract (k + 2) (k + (m + 2)))] rfl rfl ?d1 ?d2 ?d3 ?d4 ?d5 ?_)
                try case d1 => exact news_new w4 #[.bool true, .string (s.extract (k + 2) (k + (m + 2)))] 40
                try case d2 => simp [Value.oneCell']
                try case d3 => have := WL.out; unfold maxLen; omega
                try case d4 => have := WL.out; omega
                try case d5 => have := LT4.out; simp; omega
                intro v' w5 hown' hgrow _
                have hT5 := text_parts _ rfl T4.out B4.out P4.out hgrow
                have T5 := Lib.hid hT5.1
                have B5 := Lib.hid hT5.2
                have HO := Lib.hid hown'
                clear hown' hgrow hT5
                go_wp2
                go_roundg (s.size + 1 - (k + (m + 3)))
                case rel =>
                  have := HK.out
                  have := LEN.out
                  have hw := withPl_len ps pl
                  rw [hps'] at hw
                  refine ⟨k + (m + 3), ps' ++ [(true, s.extract (k + 2) (k + (m + 2)))], [], int_ref k m _ (by omega), Nat.le_refl _, by omega, by omega, TO.out, B5.out, ?_, World.ownsRow_nil _ _ _ _, ?_, T5.out⟩
                  · unfold PartsOwn; rw [partCells_snoc, List.length_append]; exact HO.out
                  · simp; omega
                case measure => have := HM.out; have := HK.out; omega
          · have TO := Lib.hid ((text_char (ps := ps) (pl := pl) hk h34 h92 (by omega) (by rw [dollar_at hk1, h36]; simpa using h123)).symm.trans HE.out)
            have g123 : ((s[k + 1].toNat : Int) == 123) = false := by simpa using h123
            clear hpl hps h34 h92 h36 h123
            obtain ⟨i0, hi0, hz0, hz1, hz2⟩ := info_parts info_byte
            go_wp2_with (at_builtin; refine wpList_append_own _ rfl _ _ 33 rfl (w.heap.size + 1) 5 i0 _ 1 1 Tryd.underlying33 hi0 hz0 hz1 hz2 rfl (by decide) u7 pl.length (byteVals pl) rfl (World.ownsRow.alloc PL.out _) ⟨wr.heap.size, 0, none⟩ 1 1 [.int .u8 (s[k].toNat : Int)] rfl rfl ?c1 ?c2 ?c3 ?c4 ?c5 ?_)
            try case c1 => exact news_new wr #[.int .u8 (s[k].toNat : Int)] 5
            try case c2 => simp [Value.oneCell']
            try case c3 => have := LEN.out; unfold maxLen; omega
            try case c4 => have := LEN.out; omega
            try case c5 => have := LT.out; simp; omega
            intro v' w5 hown' hgrow _
            have HO := Lib.hid hown'
            have HG := Lib.hid hgrow
            clear hown' hgrow t0 t1 t2 t3 t4 tf
            go_wp2
            go_roundg (s.size + 1 - (k + 1))
            case rel =>
              obtain ⟨f1, f2, f3⟩ := text_plain _ rfl T.out HB.out PS.out PL.out HG.out
              have := HK.out
              have := LEN.out
              exact ⟨k + 1, ps, pl ++ [s[k]], (int_add1 k), Nat.le_refl _, by omega, by omega, TO.out, f2, f3, (by unfold PlainOwn; rw [plain_snoc, List.length_append]; exact HO.out), by simp; omega, f1⟩
            case measure => have := HM.out; have := HK.out; omega
        · have TO := Lib.hid ((text_char (ps := ps) (pl := pl) hk h34 h92 (by omega) (dollar_no hk1)).symm.trans HE.out)
          clear hpl hps h34 h92 h36
          obtain ⟨i0, hi0, hz0, hz1, hz2⟩ := info_parts info_byte
          go_wp2_with (at_builtin; refine wpList_append_own _ rfl _ _ 33 rfl (w.heap.size + 1) 5 i0 _ 1 1 Tryd.underlying33 hi0 hz0 hz1 hz2 rfl (by decide) u7 pl.length (byteVals pl) rfl (World.ownsRow.alloc PL.out _) ⟨wr.heap.size, 0, none⟩ 1 1 [.int .u8 (s[k].toNat : Int)] rfl rfl ?c1 ?c2 ?c3 ?c4 ?c5 ?_)
          try case c1 => exact news_new wr #[.int .u8 (s[k].toNat : Int)] 5
          try case c2 => simp [Value.oneCell']
          try case c3 => have := LEN.out; unfold maxLen; omega
          try case c4 => have := LEN.out; omega
          try case c5 => have := LT.out; simp; omega
          intro v' w5 hown' hgrow _
          have HO := Lib.hid hown'
          have HG := Lib.hid hgrow
          clear hown' hgrow t0 t1 t2 t3 t4 tf
          go_wp2
          go_roundg (s.size + 1 - (k + 1))
          case rel =>
            obtain ⟨f1, f2, f3⟩ := text_plain _ rfl T.out HB.out PS.out PL.out HG.out
            have := HK.out
            have := LEN.out
            exact ⟨k + 1, ps, pl ++ [s[k]], (int_add1 k), Nat.le_refl _, by omega, by omega, TO.out, f2, f3, (by unfold PlainOwn; rw [plain_snoc, List.length_append]; exact HO.out), by simp; omega, f1⟩
          case measure => have := HM.out; have := HK.out; omega
      · have TO := Lib.hid ((text_char (ps := ps) (pl := pl) hk h34 h92 (by omega) (dollar_not hk h36)).symm.trans HE.out)
        have g36 : ((s[k].toNat : Int) == 36) = false := by simpa using h36
        clear hpl hps h34 h92 h36
        obtain ⟨i0, hi0, hz0, hz1, hz2⟩ := info_parts info_byte
        go_wp2_with (at_builtin; refine wpList_append_own _ rfl _ _ 33 rfl (w.heap.size + 1) 5 i0 _ 1 1 Tryd.underlying33 hi0 hz0 hz1 hz2 rfl (by decide) u7 pl.length (byteVals pl) rfl (World.ownsRow.alloc PL.out _) ⟨wr.heap.size, 0, none⟩ 1 1 [.int .u8 (s[k].toNat : Int)] rfl rfl ?c1 ?c2 ?c3 ?c4 ?c5 ?_)
        try case c1 => exact news_new wr #[.int .u8 (s[k].toNat : Int)] 5
        try case c2 => simp [Value.oneCell']
        try case c3 => have := LEN.out; unfold maxLen; omega
        try case c4 => have := LEN.out; omega
        try case c5 => have := LT.out; simp; omega
        intro v' w5 hown' hgrow _
        have HO := Lib.hid hown'
        have HG := Lib.hid hgrow
        clear hown' hgrow t0 t1 t2 t3 t4 tf
        go_wp2
        go_roundg (s.size + 1 - (k + 1))
        case rel =>
          obtain ⟨f1, f2, f3⟩ := text_plain _ rfl T.out HB.out PS.out PL.out HG.out
          have := HK.out
          have := LEN.out
          exact ⟨k + 1, ps, pl ++ [s[k]], (int_add1 k), Nat.le_refl _, by omega, by omega, TO.out, f2, f3, (by unfold PlainOwn; rw [plain_snoc, List.length_append]; exact HO.out), by simp; omega, f1⟩
        case measure => have := HM.out; have := HK.out; omega
    · have TO := Lib.hid (HE.out.symm.trans (text_end (ps := ps) (pl := pl) hk))
      clear hpl hps
      go_wp2_with fail
      (show bodyPost _ _ _ _ _ (setTok wr w.heap.size (.int .i64 0) (.string ⟨#[]⟩) (.int .i64 0) (.slice none 0 0) (.int .i64 0)))
      obtain ⟨z, zb, zp⟩ := text_ret T.out HB.out (.int .i64 0) (.string ⟨#[]⟩) (.int .i64 0) (.slice none 0 0) (.int .i64 0)
      generalize setTok wr w.heap.size (.int .i64 0) (.string ⟨#[]⟩) (.int .i64 0) (.slice none 0 0) (.int .i64 0) = W at *
      obtain ⟨r0, r1, r2, r3, r4⟩ := z.cells
      refine bodyPost_ret (v := .tuple #[.agg #[.int .i64 0, .string ⟨#[]⟩, .int .i64 0, .slice none 0 0, .int .i64 0], .int .i64 0]) (by simp [results, Tryd.results36, go_sem, r0, r1, r2, r3, r4]) rfl ?_
      rw [TO.out]
      exact ⟨rfl, zb⟩
end
end Go.Proofs.YtedcdibabdamcaaDoor
