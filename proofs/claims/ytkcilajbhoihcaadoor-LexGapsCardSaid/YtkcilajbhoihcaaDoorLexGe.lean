/- The law of gaps, walked (UNDER WAY). -/
import Derived.Test.YtkcilajbhoihcaaDoorLexGd
import Derived.Test.YtkcilajbhoihcaaDoorLexU
import Derived.Test.YtkcilajbhoihcaaDoorLexV0
import Derived.Deep.DeepCutAuto
import Derived.Deep.RegionHeld3
namespace Go.Proofs.YtkcilajbhoihcaaDoor
open Go.RowKit
set_option linter.unusedVariables false
set_option linter.unusedSimpArgs false
def BytesRd (w : World) (v : Value) (xs : List Nat) : Prop := Rds w v xs.length (xs.map fun x : Nat => Value.int .u8 (x : Int))
def bG : List ByteArray := [⟨#[]⟩, ⟨#[32]⟩, ⟨#[10]⟩, ⟨#[32, 35, 32, 120, 32, 34, 32, 36, 123, 32, 10]⟩, ⟨#[35, 10]⟩]
def gapsOf (xs : List Nat) : List (List UInt8) := xs.map fun x => gs5.getD (x % 5) []
theorem gsel (i : Nat) (hi : i < 5) : ∃ x : ByteArray, x.data.toList = gs5.getD i [] ∧ x.size ≤ 11 ∧ ∀ W : World, (W.alloc (.cells (bG.map Value.string).toArray 9)).cell? ⟨W.heap.size, i, none⟩ = some (.string x) := by
  have hb : i < bG.length := hi
  refine ⟨bG[i], ?_, ?_, fun W => ?_⟩
  · match i, hi with
    | 0, _ => rfl
    | 1, _ => rfl
    | 2, _ => rfl
    | 3, _ => rfl
    | 4, _ => rfl
  · match i, hi with
    | 0, _ => show (⟨#[]⟩ : ByteArray).size ≤ 11; decide
    | 1, _ => show (⟨#[32]⟩ : ByteArray).size ≤ 11; decide
    | 2, _ => show (⟨#[10]⟩ : ByteArray).size ≤ 11; decide
    | 3, _ => show (⟨#[32, 35, 32, 120, 32, 34, 32, 36, 123, 32, 10]⟩ : ByteArray).size ≤ 11; decide
    | 4, _ => show (⟨#[35, 10]⟩ : ByteArray).size ≤ 11; decide
  · have h := news_new W (bG.map Value.string).toArray 9 i (.string bG[i]) (by simp [hb])
    have hadd : (⟨W.heap.size, 0, none⟩ : Addr).add i = ⟨W.heap.size, i, none⟩ := by unfold Addr.add; split <;> simp_all
    rw [← hadd]; exact h
theorem gaps_ok (xs : List Nat) : ∀ g ∈ gapsOf xs, g ∈ gs5 := by
  intro g hg
  obtain ⟨x, -, rfl⟩ := List.mem_map.1 hg
  have h5 : x % 5 < 5 := Nat.mod_lt _ (by decide)
  generalize x % 5 = k at *
  match k, h5 with
  | 0, _ => simp [gs5]
  | 1, _ => simp [gs5]
  | 2, _ => simp [gs5]
  | 3, _ => simp [gs5]
  | 4, _ => simp [gs5]
def GapRel (w : World) (s : ByteArray) (xs : List Nat) (m : Nat) (tv lv iv : Value) (wr : World) : Prop :=
  ∃ (i : Nat) (t : ByteArray) (last : Nat), iv = .int .i64 i ∧ tv = .string t ∧ lv = .int .i64 last ∧ (lexT s).length - i ≤ m ∧ i ≤ (lexT s).length ∧ t.size + 11 * (xs.length - i) ≤ last + 11 * xs.length ∧ last ≤ s.size ∧ Below w.heap.size w wr ∧
    (i < (lexT s).length → GInv s (gapsOf xs) i t last) ∧ (i = (lexT s).length → t.data.toList = gapText s.data.toList (gapsOf xs) ∧ last = s.size)
def G2Rel (w : World) (n m : Nat) (iv : Value) (wr : World) : Prop := ∃ i : Nat, iv = .int .i64 i ∧ n - i ≤ m ∧ i ≤ n ∧ Below w.heap.size w wr
theorem LexRdPost.eq_defG (s : ByteArray) (w : World) : LexRdPost s w = fun e w' => ∃ v, e = .returned (.tuple #[v, .int .i64 (lexE s)]) ∧ Below w.heap.size w w' ∧ ToksRd w' v (lexT s) := rfl
theorem slice_mid {P : Program} (t : TypeId) (s : ByteArray) (K L : Nat) (hu : P.underlying t = some .string) (h : K ≤ L) (h2 : L ≤ s.size) (W : World) :
    (Instr.slice t (.string s) (some (.int .i64 (K : Int))) (some (.int .i64 (L : Int))) none).run P W = .ok (.string (s.extract K L)) W := by
  have hj : (0:Int) ≤ K ∧ (K:Int) ≤ (L : Int) ∧ (L : Int) ≤ (s.size : Int) := ⟨by omega, by omega, by omega⟩
  simp [Instr.slice, Instr.sliceBounds, Instr.sliceBound, asIntOf, run_underlying hu, hj]
  rw [if_pos h2, if_pos h]
theorem slice_rest {P : Program} (t : TypeId) (s : ByteArray) (hu : P.underlying t = some .string) (W : World) :
    (Instr.slice t (.string s) (some (.int .i64 (s.size : Int))) none none).run P W = .ok (.string ⟨#[]⟩) W := by
  have hj : (0:Int) ≤ (s.size : Int) := by omega
  have he : s.extract s.size s.size = ⟨#[]⟩ := by apply ByteArray.ext; simp [ByteArray.data_extract]
  rw [← he]
  simp [Instr.slice, Instr.sliceBounds, Instr.sliceBound, asIntOf, run_underlying hu, hj]
theorem ext_list (s : ByteArray) (K L : Nat) (h : K ≤ L) : (s.extract K L).data.toList = (suf s K).take (L - K) := by
  obtain ⟨d, rfl⟩ : ∃ d, L = K + d := ⟨L - K, by omega⟩
  rw [ext_take, Nat.add_sub_cancel_left]
theorem TokBlk.put4g {W : World} {B : Nat} {a c d e f : Value} (h : TokBlk W B a c d e f) (v : Value) : TokBlk (W.setCell ⟨B, 4, none⟩ v) B a c d e v := heap_setCell_same W B 4 _ _ v h
theorem tok_one {W : World} {b : Nat} {x : TokL} {pv : Value} (h : TokBlk W b (.int .i64 x.kind) (.string x.text) (.int .i64 x.num) pv (.int .i64 x.at_)) (hp : PartsRd W pv x.parts) : ToksRd W (.slice (some ⟨b, 0, none⟩) 1 1) [x] := by
  refine ⟨tokCells x pv, ⟨_, _, rfl, fun j u hj => ⟨b, 0, rfl, ?_⟩⟩, pv, [], by simp, hp, rfl⟩
  obtain ⟨c0, c1, c2, c3, c4⟩ := h.cells
  rw [Nat.zero_add]
  match j, hj with
  | 0, hj => cases hj; exact c0
  | 1, hj => cases hj; exact c1
  | 2, hj => cases hj; exact c2
  | 3, hj => cases hj; exact c3
  | 4, hj => cases hj; exact c4
  | j + 5, hj => simp [tokCells] at hj
theorem two_new (W : World) (O1 O2 : Obj) : ((W.alloc O1).alloc O2).heap[W.heap.size]? = some O1 ∧ ((W.alloc O1).alloc O2).heap[W.heap.size + 1]? = some O2 := by
  have h1 := heap_alloc_new W O1
  have h2 := heap_alloc_new (W.alloc O1) O2
  have hs : (W.alloc O1).heap.size = W.heap.size + 1 := by simp
  have hb : Below (W.alloc O1).heap.size (W.alloc O1) ((W.alloc O1).alloc O2) := (Below.refl _ _).alloc (Nat.le_refl _) _
  refine ⟨(hb.block W.heap.size (by omega)).trans h1, ?_⟩
  rw [← hs]; exact h2
theorem tok_blk_drew {W : World} {B : Nat} {a c d e f : Value} (h : TokBlk W B a c d e f) : TokBlk W.drew B a c d e f := h
theorem same_pair {W : World} {x : TokL} {pv qv : Value} (hp : PartsRd W pv x.parts) (hq : PartsRd W qv x.parts) (hl : x.parts.length ≤ 9000) :
    Calls Tryd.prog 7 #[.slice (some ⟨W.heap.size, 0, none⟩) 1 1, .slice (some ⟨W.heap.size + 1, 0, none⟩) 1 1]
      (((W.alloc (.cells #[.int .i64 x.kind, .string x.text, .int .i64 x.num, qv, .int .i64 x.at_] 31)).alloc (.cells #[.int .i64 x.kind, .string x.text, .int .i64 x.num, pv, .int .i64 x.at_] 31)).drew)
      (fun e w' => e = .returned (.bool true) ∧ Below W.heap.size W w' ∧ ∀ p u, W.cell? p = some u → w'.cell? p = some u) ∧
    Calls Tryd.prog 7 #[.slice (some ⟨W.heap.size + 1, 0, none⟩) 1 1, .slice (some ⟨W.heap.size, 0, none⟩) 1 1]
      (((W.alloc (.cells #[.int .i64 x.kind, .string x.text, .int .i64 x.num, qv, .int .i64 x.at_] 31)).alloc (.cells #[.int .i64 x.kind, .string x.text, .int .i64 x.num, pv, .int .i64 x.at_] 31)).drew)
      (fun e w' => e = .returned (.bool true) ∧ Below W.heap.size W w' ∧ ∀ p u, W.cell? p = some u → w'.cell? p = some u) := by
  obtain ⟨n1, n2⟩ := two_new W (.cells #[.int .i64 x.kind, .string x.text, .int .i64 x.num, qv, .int .i64 x.at_] 31) (.cells #[.int .i64 x.kind, .string x.text, .int .i64 x.num, pv, .int .i64 x.at_] 31)
  have hb : Below W.heap.size W (((W.alloc (.cells #[.int .i64 x.kind, .string x.text, .int .i64 x.num, qv, .int .i64 x.at_] 31)).alloc (.cells #[.int .i64 x.kind, .string x.text, .int .i64 x.num, pv, .int .i64 x.at_] 31)).drew) := below_drew (((Below.refl _ _).alloc (Nat.le_refl _) _).alloc (by simp) _)
  generalize ((W.alloc (.cells #[.int .i64 x.kind, .string x.text, .int .i64 x.num, qv, .int .i64 x.at_] 31)).alloc (.cells #[.int .i64 x.kind, .string x.text, .int .i64 x.num, pv, .int .i64 x.at_] 31)) = W2 at *
  have a := tok_one (tok_blk_drew (show TokBlk W2 _ _ _ _ _ _ from n1)) (Rds.below hq hb)
  have b := tok_one (tok_blk_drew (show TokBlk W2 _ _ _ _ _ _ from n2)) (Rds.below hp hb)
  have few : ([x] : List TokL).length ≤ 9000 := by simp
  have fp : ∀ t ∈ [x], t.parts.length ≤ 9000 := by intro t ht; simp at ht; subst ht; exact hl
  refine ⟨(sameTokens_any _ _ _ [x] a b few fp).mono ?_, (sameTokens_any _ _ _ [x] b a few fp).mono ?_⟩
  all_goals (rintro e w' ⟨rfl, n, rfl⟩; exact ⟨rfl, below_drewN hb n, fun p u hu => ((below_drewN hb n).cell (p := p) (World.block_lt_of_cell? _ _ hu)).trans hu⟩)
section
variable (w : World)
set_option maxHeartbeats 4000000 in
set_option maxRecDepth 20000 in
theorem law_gaps (s : ByteArray) (nv : Value) (xs : List Nat) (hn : BytesRd w nv xs) (hx : ∀ x ∈ xs, x < 256) (hs : s.size ≤ maxLen) (hl : xs.length ≤ maxLen) (hv : ErrVar w) : Calls Tryd.prog 3 #[.string s, nv] w (Made (.bool true) w) := by
  have V := Lib.hid hv
  have HL := Lib.hid hs
  obtain ⟨nao, ncap, rfl, hnc⟩ := hn
  have NC := Lib.hid hnc
  have HX := Lib.hid hx
  unfold maxLen at hs hl
  clear hv hnc hx
  by_cases h1 : 300 < s.size
  · go_enter Tryd.func3, Tryd.ntmps3
    go_wp2_with fail
    refine (awake_any w V.out).mono ?_
    rintro e w1 ⟨rfl, hb1⟩
    have B1 := Lib.hid hb1
    clear hb1
    go_wp2_with fail
    go_ret
    exact ⟨rfl, B1.out⟩
  by_cases h2 : 80 < xs.length
  · go_enter Tryd.func3, Tryd.ntmps3
    go_wp2_with fail
    refine (awake_any w V.out).mono ?_
    rintro e w1 ⟨rfl, hb1⟩
    have B1 := Lib.hid hb1
    clear hb1
    go_wp2_with fail
    go_ret
    exact ⟨rfl, B1.out⟩
  by_cases hE : lexE s = 0
  · have h6 : s.size ≤ 6000 := by omega
    have GS := Lib.hid (ginv_start (gs := gapsOf xs) h6 hE)
    have hlen : 0 < (lexT s).length := by
      obtain ⟨n, a, tsR, -, -, -, -, h5, -⟩ := GS.out
      rw [List.drop_zero] at h5
      rw [h5]
      simp
    have LN := Lib.hid hlen
    have FEW := Lib.hid (lexT_few s)
    have E0 := Lib.hid hE
    clear hE hlen
    go_enter Tryd.func3, Tryd.ntmps3
    go_wp2_with fail
    refine (lex_rd s w HL.out V.out).mono ?_
    rw [LexRdPost.eq_defG, E0.out]
    rintro e w1 ⟨v, rfl, hb1, ht1⟩
    obtain ⟨lao, lcap, rfl⟩ := ht1.len
    have B1 := Lib.hid hb1
    have T1 := Lib.hid ht1
    clear hb1 ht1
    go_wp2_with fail
    refine (num_any _ 0 (by omega) (by omega)).mono ?_
    rintro e w2 ⟨rfl, rfl⟩
    go_wp2_with fail
    go_loopg [7, 8, 9] (lexT s).length (fun m tv lv iv wr => GapRel w1 s xs m tv lv iv wr)
    case atStart => exact ⟨0, ⟨#[]⟩, 0, rfl, rfl, rfl, Nat.le_refl _, Nat.zero_le _, by show 0 + _ ≤ _; omega, Nat.zero_le _, Below.refl _ _, fun _ => GS.out, fun h => absurd h.symm (Nat.ne_of_gt LN.out)⟩
    case round =>
      obtain ⟨i, t, last, rfl, rfl, rfl, hm, hi, hts, hls, hb, hg, hd⟩ := hrel
      have HM := Lib.hid hm
      have BR := Lib.hid hb
      clear hm hb GS
      by_cases hil : i < (lexT s).length
      · obtain ⟨x, hx⟩ : ∃ x, (lexT s)[i]? = some x := ⟨_, List.getElem?_eq_getElem hil⟩
        obtain ⟨g1, g2, g3⟩ := ginv_step (hg hil) hx
        have G3 := Lib.hid g3
        obtain ⟨ao2, cap2, e2, hat⟩ := (T1.out.below BR.out).at
        simp at e2
        obtain ⟨rfl, rfl⟩ := e2
        obtain ⟨g, o, pv, rfl, hin⟩ := hat i x hx
        have c4 := hin.at_
        clear hat hin hx hg hd g3
        have a1 : ¬ ((x.at_ : Int) < (last : Int)) := by omega
        have a2 : ¬ ((x.at_ : Int) > (s.size : Int)) := by omega
        generalize hxa : x.at_ = xa at *
        clear hxa
        have sl := fun W => slice_mid (P := Tryd.prog) 9 s last xa Tryd.underlying9 g1 g2 W
        have EX := Lib.hid (ext_list s last xa g1)
        have ez : (s.extract last xa).size ≤ xa - last := by simp [ByteArray.size_extract]; omega
        generalize s.extract last xa = E at *
        have i9 : i ≤ 9000 := by have := FEW.out.1; omega
        have t1 : t.size ≤ 1180 := by omega
        have t2 : E.size ≤ 300 := by omega
        go_upto_region 12 with fail
        go_upto_region 13 with fail
        by_cases hin2 : i < xs.length
        · obtain ⟨y, hy⟩ : ∃ y, xs[i]? = some y := ⟨_, List.getElem?_eq_getElem hin2⟩
          have hy256 := HX.out y (List.mem_of_getElem? hy)
          obtain ⟨gb, ob, rfl, hc⟩ := NC.out i (.int .u8 (y : Int)) (by rw [List.getElem?_map, hy]; rfl)
          have C1 := Lib.hid (((BR.out.cell (p := ⟨gb, ob + i, none⟩) (World.block_lt_of_cell? _ _ ((B1.out.cell (p := ⟨gb, ob + i, none⟩) (World.block_lt_of_cell? _ _ hc)).trans hc))).trans (B1.out.cell (p := ⟨gb, ob + i, none⟩) (World.block_lt_of_cell? _ _ hc))).trans hc)
          obtain ⟨G, hG1, hG2, hG3⟩ := gsel (y % 5) (Nat.mod_lt _ (by decide))
          have hg5 : (gapsOf xs)[i]? = some (gs5.getD (y % 5) []) := by unfold gapsOf; rw [List.getElem?_map, hy]; rfl
          have HG := Lib.hid (And.intro hG1 hg5)
          have c1 := C1.out
          have y5 : y % 5 < 5 := by omega
          clear hy hc hG1 hg5
          have t3 : (t ++ E).size ≤ 1480 := by rw [ByteArray.size_append]; omega
          have t4 : (t ++ E).size ≤ t.size + E.size := by rw [ByteArray.size_append]; exact Nat.le_refl _
          generalize htE : t ++ E = tE at *
          have TE := Lib.hid htE
          clear htE
          have f1 : (wr.alloc (.cells #[.string ⟨#[]⟩, .string ⟨#[32]⟩, .string ⟨#[10]⟩, .string ⟨#[32, 35, 32, 120, 32, 34, 32, 36, 123, 32, 10]⟩, .string ⟨#[35, 10]⟩] 9)).cell? ⟨wr.heap.size, y % 5, none⟩ = some (.string G) := hG3 wr
          have f2 : (wr.drew.alloc (.cells #[.string ⟨#[]⟩, .string ⟨#[32]⟩, .string ⟨#[10]⟩, .string ⟨#[32, 35, 32, 120, 32, 34, 32, 36, 123, 32, 10]⟩, .string ⟨#[35, 10]⟩] 9)).cell? ⟨wr.heap.size, y % 5, none⟩ = some (.string G) := hG3 wr.drew
          clear hG3
          go_upto_region 14 with fail
          have B2 := Lib.hid (show Below w1.heap.size w1 (wr.alloc (.cells #[.string ⟨#[]⟩, .string ⟨#[32]⟩, .string ⟨#[10]⟩, .string ⟨#[32, 35, 32, 120, 32, 34, 32, 36, 123, 32, 10]⟩, .string ⟨#[35, 10]⟩] 9)) from BR.out.alloc BR.out.size _)
          have c1b := (((Below.refl wr.heap.size wr).alloc (Nat.le_refl _) (.cells #[.string ⟨#[]⟩, .string ⟨#[32]⟩, .string ⟨#[10]⟩, .string ⟨#[32, 35, 32, 120, 32, 34, 32, 36, 123, 32, 10]⟩, .string ⟨#[35, 10]⟩] 9)).cell (p := ⟨gb, ob + i, none⟩) (World.block_lt_of_cell? _ _ c1)).trans c1
          have c4b := (((Below.refl wr.heap.size wr).alloc (Nat.le_refl _) (.cells #[.string ⟨#[]⟩, .string ⟨#[32]⟩, .string ⟨#[10]⟩, .string ⟨#[32, 35, 32, 120, 32, 34, 32, 36, 123, 32, 10]⟩, .string ⟨#[35, 10]⟩] 9)).cell (p := ⟨g, o + i * 5 + 4, none⟩) (World.block_lt_of_cell? _ _ c4)).trans c4
          go_upto_region 15 with fail
          clear f1 f2
          generalize wr.alloc (.cells #[.string ⟨#[]⟩, .string ⟨#[32]⟩, .string ⟨#[10]⟩, .string ⟨#[32, 35, 32, 120, 32, 34, 32, 36, 123, 32, 10]⟩, .string ⟨#[35, 10]⟩] 9) = w5 at *
          go_wp2_with fail
          go_roundg ((lexT s).length - (i + 1))
          case rel =>
            have hgd : (gapsOf xs).drop i = gs5.getD (y % 5) [] :: (gapsOf xs).drop (i + 1) := by
              obtain ⟨h1, h2⟩ := List.getElem?_eq_some_iff.1 HG.out.2
              rw [← h2]; exact List.drop_eq_getElem_cons h1
            have hst := G3.out (tE ++ G) (by rw [hgd]; show (tE ++ G).data.toList = _; rw [← TE.out]; simp [EX.out, HG.out.1])
            exact ⟨i + 1, tE ++ G, xa, rfl, rfl, rfl, Nat.le_refl _, hil, by rw [ByteArray.size_append]; omega, g2, B2.out, hst.1, hst.2⟩
          case measure => have := HM.out; omega
        · have hgn : (gapsOf xs).drop i = [] := List.drop_eq_nil_of_le (by unfold gapsOf; rw [List.length_map]; omega)
          have HN := Lib.hid hgn
          clear hgn
          have t4 : (t ++ E).size ≤ t.size + E.size := by rw [ByteArray.size_append]; exact Nat.le_refl _
          generalize htE : t ++ E = tE at *
          have TE := Lib.hid htE
          clear htE
          go_wp2_with fail
          go_roundg ((lexT s).length - (i + 1))
          case rel =>
            have hst := G3.out tE (by rw [HN.out]; show tE.data.toList = _; rw [← TE.out]; simp [EX.out])
            exact ⟨i + 1, tE, xa, rfl, rfl, rfl, Nat.le_refl _, hil, by omega, g2, BR.out, hst.1, hst.2⟩
          case measure => have := HM.out; omega
      · have hi0 : i = (lexT s).length := by omega
        obtain ⟨d1, d2⟩ := hd hi0
        subst hi0
        obtain ⟨rfl⟩ : last = s.size := d2
        obtain ⟨ts, hts2⟩ : ∃ ts, lexAll s.data.toList = some ts := by
          have h := E0.out
          rw [lexE_all h6] at h
          cases hq : lexAll s.data.toList with
          | none => rw [hq] at h; simp at h
          | some ts => exact ⟨ts, rfl⟩
        obtain ⟨ts', hl1, hl2⟩ := gap_lex hts2 (gaps_ok xs)
        rw [← d1] at hl1
        have hT : lexT s = ts ++ [endTok s] := by rw [lexT_all h6, hts2]; rfl
        have t1 : t.size ≤ 1180 := by omega
        have hE2 : lexE t = 0 := by rw [lexE_all (by omega), hl1]
        have hT2 : lexT t = ts' ++ [endTok t] := by rw [lexT_all (by omega), hl1]; rfl
        have hlen2 : (lexT t).length = (lexT s).length := by
          rw [hT, hT2, List.length_append, List.length_append]
          have := congrArg List.length hl2
          simp at this
          simp [this]
        have hpt : ∀ (k : Nat) (x y : TokL), (lexT s)[k]? = some x → (lexT t)[k]? = some y → y.put 0 = x.put 0 := by
          intro k x y hx hy
          have hm : (lexT t).map (·.put 0) = (lexT s).map (·.put 0) := by rw [hT, hT2, List.map_append, List.map_append, hl2]; rfl
          have := congrArg (·[k]?) hm
          simp only [List.getElem?_map, hx, hy, Option.map_some, Option.some.injEq] at this
          exact this
        have E2 := Lib.hid hE2
        have L2 := Lib.hid hlen2
        have PT := Lib.hid hpt
        have sl := fun W => slice_rest (P := Tryd.prog) 9 s Tryd.underlying9 W
        have z0 : (⟨#[]⟩ : ByteArray).size = 0 := rfl
        have TT := Lib.hid (show t ++ ⟨#[]⟩ = t by apply ByteArray.ext; simp)
        have S6 := Lib.hid (show (t ++ ⟨#[]⟩).size ≤ maxLen by rw [ByteArray.size_append]; unfold maxLen; omega)
        clear d1 hts2 hl1 hl2 hT hT2 hE2 hlen2 hpt hg hd
        go_upto_region 16 with fail
        go_wp2_with fail
        refine (lex_rd _ _ S6.out (V.out.below (B1.out.trans (BR.out.mono B1.out.size)) V.out.lt)).mono ?_
        rw [TT.out, LexRdPost.eq_defG, E2.out]
        rintro e w3 ⟨v, rfl, hb3, ht3⟩
        have B3 := Lib.hid (BR.out.trans (hb3.mono BR.out.size))
        have T3 := Lib.hid ht3
        obtain ⟨mao, mcap, rfl⟩ := ht3.len
        clear hb3 ht3 sl z0
        rw [L2.out]
        go_wp2_with fail
        refine (num_any _ 0 (by omega) (by omega)).mono ?_
        rintro e w4 ⟨rfl, rfl⟩
        go_wp2_with fail
        have B13 := Lib.hid (B1.out.trans (B3.out.mono B1.out.size))
        have TL := Lib.hid (T1.out.below B3.out)
        go_loopg [12] (lexT s).length (fun m iv wr => G2Rel w3 (lexT s).length m iv wr)
        case atStart => exact ⟨0, rfl, Nat.le_refl _, Nat.zero_le _, Below.refl _ _⟩
        case round =>
          obtain ⟨i, rfl, hm, hi, hb⟩ := hrel
          have HM := Lib.hid hm
          have BR := Lib.hid hb
          clear hm hb
          by_cases hil : i < (lexT s).length
          · obtain ⟨x, hx⟩ : ∃ x, (lexT s)[i]? = some x := ⟨_, List.getElem?_eq_getElem hil⟩
            obtain ⟨y, hy⟩ : ∃ y, (lexT t)[i]? = some y := ⟨_, List.getElem?_eq_getElem (by rw [L2.out]; exact hil)⟩
            obtain ⟨ao2, cap2, e2, hat⟩ := (TL.out.below BR.out).at
            simp at e2
            obtain ⟨rfl, rfl⟩ := e2
            obtain ⟨g, o, pv, rfl, hin⟩ := hat i x hx
            obtain ⟨ao3, cap3, e3, hat3⟩ := (T3.out.below BR.out).at
            rw [L2.out] at e3
            simp at e3
            obtain ⟨rfl, rfl⟩ := e3
            obtain ⟨g', o', pv', rfl, hin'⟩ := hat3 i y hy
            have HXY := Lib.hid (PT.out i x y hx hy)
            obtain ⟨c0, c1, c2, c3, c4, c5⟩ := hin
            obtain ⟨d0, d1, d2, d3, d4, d5⟩ := hin'
            obtain ⟨pao, pcap, rfl, -⟩ := id c5
            obtain ⟨qao, qcap, rfl, -⟩ := id d5
            have PX := Lib.hid c5
            have PY := Lib.hid d5
            have i9 : i ≤ 9000 := by have := FEW.out.1; omega
            have hxm : x ∈ lexT s := List.mem_of_getElem? hx
            clear hat hat3 hx hy c5 d5
            have K5 := Lib.hid (TokBlk.new wr (.int .i64 y.kind) (.string y.text) (.int .i64 y.num) (.slice qao y.parts.length qcap) (.int .i64 y.at_))
            have B5 := Lib.hid (show Below wr.heap.size wr (wr.alloc (.cells #[.int .i64 y.kind, .string y.text, .int .i64 y.num, .slice qao y.parts.length qcap, .int .i64 y.at_] 31)) from (Below.refl _ _).alloc (Nat.le_refl _) _)
            go_upto_region 23 with fail
            generalize wr.alloc (.cells #[.int .i64 y.kind, .string y.text, .int .i64 y.num, .slice qao y.parts.length qcap, .int .i64 y.at_] 31) = w5 at *
            have c4' := (B5.out.cell (p := ⟨g, o + i * 5 + 4, none⟩) (World.block_lt_of_cell? _ _ c4)).trans c4
            clear d0 d1 d2 d3 d4
            obtain ⟨-, -, -, -, e4⟩ := K5.out.cells
            have f4 := K5.out.free 4
            have B6 := Lib.hid (show Below wr.heap.size wr (w5.setCell ⟨wr.heap.size, 4, none⟩ (.int .i64 x.at_)) from Below.setCell (p := ⟨wr.heap.size, 4, none⟩) B5.out (Nat.le_refl _) _)
            have K6 := Lib.hid (K5.out.put4g (.int .i64 x.at_))
            go_upto_region 24 with fail
            clear e4 f4 c4'
            generalize w5.setCell ⟨wr.heap.size, 4, none⟩ (.int .i64 x.at_) = w6 at *
            have mv : ∀ (p : Addr) (u : Value), wr.cell? p = some u → w6.cell? p = some u := fun p u hu => (B6.out.cell (p := p) (World.block_lt_of_cell? _ _ hu)).trans hu
            replace c0 := mv _ _ c0
            replace c1 := mv _ _ c1
            replace c2 := mv _ _ c2
            replace c3 := mv _ _ c3
            replace c4 := mv _ _ c4
            clear mv
            have h1 : y.kind = x.kind ∧ y.text = x.text ∧ y.num = x.num ∧ y.parts = x.parts := by
              have h := HXY.out
              simp only [TokL.put, TokL.mk.injEq] at h
              exact ⟨h.1, h.2.1, h.2.2.1, h.2.2.2.1⟩
            obtain ⟨h1, h2, h3, h4⟩ := h1
            have PY6 := Lib.hid (show PartsRd w6 (.slice qao y.parts.length qcap) x.parts by rw [← h4]; exact Rds.below PY.out B6.out)
            have PX6 := Lib.hid (Rds.below PX.out B6.out)
            have K7 := Lib.hid (show TokBlk w6 wr.heap.size (.int .i64 x.kind) (.string x.text) (.int .i64 x.num) (.slice qao y.parts.length qcap) (.int .i64 x.at_) by rw [← h1, ← h2, ← h3]; exact K6.out)
            clear h1 h2 h3 h4 K5 K6 B5 PX PY HXY PT
            obtain ⟨e0, e1, e2, e3, e4⟩ := K7.out.cells
            have hxp : x.parts.length ≤ 9000 := FEW.out.2 x hxm
            have SA := Lib.hid (same_pair PX6.out PY6.out hxp)
            have SB := Lib.hid (same_pair PY6.out PX6.out hxp)
            clear hxp
            go_cut [132] (fun s132 wx => s132 = .bool false ∧ Below w6.heap.size w6 wx)
            case first =>
              go_region_held3 (fun w' => w'.cell? ⟨g, o + i * 5, none⟩ = some (.int .i64 x.kind) ∧ w'.cell? ⟨g, o + i * 5 + 1, none⟩ = some (.string x.text) ∧ w'.cell? ⟨g, o + i * 5 + 2, none⟩ = some (.int .i64 x.num) ∧ w'.cell? ⟨g, o + i * 5 + 3, none⟩ = some (.slice pao x.parts.length pcap) ∧ w'.cell? ⟨g, o + i * 5 + 4, none⟩ = some (.int .i64 x.at_) ∧ w'.cell? ⟨wr.heap.size, 0, none⟩ = some (.int .i64 x.kind) ∧ w'.cell? ⟨wr.heap.size, 1, none⟩ = some (.string x.text) ∧ w'.cell? ⟨wr.heap.size, 2, none⟩ = some (.int .i64 x.num) ∧ w'.cell? ⟨wr.heap.size, 3, none⟩ = some (.slice qao y.parts.length qcap) ∧ w'.cell? ⟨wr.heap.size, 4, none⟩ = some (.int .i64 x.at_)) (first | exact ⟨HK.out _ _ c0, HK.out _ _ c1, HK.out _ _ c2, HK.out _ _ c3, HK.out _ _ c4, HK.out _ _ e0, HK.out _ _ e1, HK.out _ _ e2, HK.out _ _ e3, HK.out _ _ e4⟩ | go_keep) (first
                | (go_at_call 7; (with_reducible refine (SA.out.1).mono ?_); rintro e w' ⟨rfl, hb, hk⟩; have HB := Lib.hid hb; have HK := Lib.hid hk; clear hb hk)
                | (go_at_call 7; (with_reducible refine (SB.out.2).mono ?_); rintro e w' ⟨rfl, hb, hk⟩; have HB := Lib.hid hb; have HK := Lib.hid hk; clear hb hk))
              all_goals go_wp2
              all_goals go_meet
              all_goals (case rel => exact ⟨rfl, HB.out⟩)
            case rest =>
              obtain ⟨rfl, hbc⟩ := hcut
              have HB := Lib.hid hbc
              clear hbc
              go_wp2_with fail
              go_roundg ((lexT s).length - (i + 1))
              case rel => exact ⟨i + 1, rfl, Nat.le_refl _, hil, (BR.out.trans (B6.out.mono BR.out.size)).trans (HB.out.mono (BR.out.trans (B6.out.mono BR.out.size)).size)⟩
              case measure => have := HM.out; omega
          · obtain rfl : i = (lexT s).length := by omega
            go_wp2_with fail
            refine (awake_any _ (V.out.below (B13.out.trans (BR.out.mono B13.out.size)) V.out.lt)).mono ?_
            rintro e w9 ⟨rfl, hb9⟩
            have B9 := Lib.hid ((B13.out.trans (BR.out.mono B13.out.size)).trans (hb9.mono (B13.out.trans (BR.out.mono B13.out.size)).size))
            clear hb9
            go_wp2_with fail
            go_ret
            exact ⟨rfl, B9.out⟩
  · have E0 := Lib.hid (lexE_in s)
    have hT : lexT s = [] := by
      have h6 : s.size ≤ 6000 := by omega
      rw [lexE_all h6] at hE
      rw [lexT_all h6]
      cases hq : lexAll s.data.toList with
      | none => rfl
      | some ts => rw [hq] at hE; exact absurd rfl hE
    have TT := Lib.hid hT
    have g : (lexE s != 0) = true := by simpa using hE
    clear hE hT
    go_enter Tryd.func3, Tryd.ntmps3
    go_wp2_with fail
    refine (lex_rd s w HL.out V.out).mono ?_
    rw [LexRdPost.eq_defG, TT.out]
    rintro e w1 ⟨v, rfl, hb1, ht1⟩
    obtain ⟨ao, cap, rfl⟩ := ht1.len
    have B1 := Lib.hid hb1
    clear hb1 ht1
    go_wp2_with fail
    refine (num_any _ (lexE s) E0.out.1 (by have := E0.out.2; omega)).mono ?_
    rintro e w2 ⟨rfl, rfl⟩
    go_wp2_with fail
    refine (awake_any _ (V.out.below B1.out V.out.lt)).mono ?_
    rintro e w3 ⟨rfl, hb3⟩
    have B3 := Lib.hid (B1.out.trans (hb3.mono B1.out.size))
    clear hb3
    go_wp2_with fail
    go_ret
    exact ⟨rfl, B3.out⟩
end
end Go.Proofs.YtkcilajbhoihcaaDoor
