/- Values by numbers: Make of a list. -/
import Derived.Test.YthlilcgjjkkajaaDoorValMc
import Derived.Deep.AppendLies
import Derived.Deep.RegionLaw
import Derived.OneCell
namespace Go.Proofs.YthlilcgjjkkajaaDoor
open Go.RowKit
set_option linter.unusedVariables false
set_option linter.unusedSimpArgs false

/-- A row of the call's own, all blocks of which P holds. -/
theorem rowIn_of_own {w : World} {P Q : Nat → Prop} {B D : Nat} {ps : List (VL × Value)} {v : Value} (h : w.ownsRow B 27 4 v ps.length (rowCells ps)) (hl : ps.length ≤ maxLen) (hk : ∀ p ∈ ps, RowIn w Q D p.1.kids p.2) (hQ : ∀ g, Q g → P g) (hB : ∀ g, B ≤ g → P g) :
    RowIn w P (D + 1) (ps.map (·.1)) v := by
  rcases h.2 with ⟨rfl, h0⟩ | ⟨g, cap, cur, rfl, hbg, _⟩
  · obtain rfl : ps = [] := List.eq_nil_of_length_eq_zero h0
    exact rowIn_nil _ _ _ _ _
  · refine ⟨by simpa using hl, some ⟨g, 0, none⟩, cap, by simp, fun i u hu => ?_⟩
    rw [List.getElem?_map] at hu
    obtain ⟨p, hp, rfl⟩ := Option.map_eq_some_iff.1 hu
    have k : ∀ r u, r < 4 → (pairCells p)[r]? = some u → w.cell? ⟨g, i * 4 + r, none⟩ = some u := by
      intro r u hr hu
      have := World.ownsRow.cells (g := g) h rfl _ u (rowCells_at ps i r p u hp hr hu)
      have ha : (⟨g, 0, none⟩ : Addr).add (i * 4 + r) = ⟨g, 0 + (i * 4 + r), none⟩ := by unfold Addr.add; split <;> simp_all
      rw [ha, Nat.zero_add] at this
      exact this
    have z0 := k 0 _ (by omega) rfl
    have z1 := k 1 _ (by omega) rfl
    have z2 := k 2 _ (by omega) rfl
    have z3 := k 3 _ (by omega) rfl
    refine ⟨g, 0, p.2, rfl, hB g hbg, ?_, ?_, ?_, ?_, RowIn.keep hQ (fun _ _ _ _ h => h) (hk p (List.mem_of_getElem? hp))⟩
    · rw [Nat.zero_add]; simpa using z0
    · rw [Nat.zero_add]; exact z1
    · rw [Nat.zero_add]; exact z2
    · rw [Nat.zero_add]; exact z3
theorem rowIn_lt {w : World} {P : Nat → Prop} : ∀ {D : Nat} {l : List VL} {lv : Value}, RowIn w P D l lv → RowIn w (fun g => P g ∧ g < w.heap.size) D l lv := by
  intro D
  induction D with
  | zero => intro l lv h; exact h
  | succ D ih =>
    intro l lv h
    obtain ⟨hl, ao, cap, rfl, hc⟩ := h
    refine ⟨hl, ao, cap, rfl, fun i u hu => ?_⟩
    obtain ⟨g, o, lu, e, hp, c0, c1, c2, c3, hr⟩ := hc i u hu
    exact ⟨g, o, lu, e, ⟨hp, World.block_lt_of_cell? _ _ c0⟩, c0, c1, c2, c3, ih hr⟩
theorem grown_keep6 {a b : World} {row : Option Nat} (h : a.grownBy b row) {p : Addr} {u : Value} (hp : a.cell? p = some u) (hr : ∀ k, row = some k → k ≠ p.block) : b.cell? p = some u :=
  (World.cell?_of_block (h.block _ (World.block_lt_of_cell? _ _ hp) (fun e => hr _ e.symm rfl))).trans hp
theorem grown_free6 {a b : World} {row : Option Nat} (h : a.grownBy b row) {g o : Nat} (hg : g < a.heap.size) (hp : a.frozen? ⟨g, o, none⟩ = false) (hr : ∀ k, row = some k → k ≠ g) : b.frozen? ⟨g, o, none⟩ = false :=
  (World.frozen?_of_block (a := ⟨g, o, none⟩) (h.block _ hg (fun e => hr _ e.symm rfl))).trans hp
theorem numsRd_sub {w : World} {k : IntKind} {g o cap : Nat} {xs : List Int} (h : NumsRd k w (.slice (some ⟨g, o, none⟩) xs.length cap) xs) (i m c2 : Nat) (hm : i + m ≤ xs.length) : NumsRd k w (.slice (some ⟨g, o + i, none⟩) m c2) ((xs.drop i).take m) := by
  obtain ⟨ao, cap', e, hc⟩ := h
  simp only [Value.slice.injEq, true_and] at e
  obtain ⟨rfl, -⟩ := e
  have hl : ((xs.drop i).take m).length = m := by simp; omega
  refine ⟨_, _, by rw [hl], fun j x hj => ?_⟩
  rw [List.getElem?_take] at hj
  split at hj
  · rw [List.getElem?_drop] at hj
    obtain ⟨g', o', e', hx⟩ := hc _ _ hj
    simp only [Option.some.injEq, Addr.mk.injEq, and_true] at e'
    obtain ⟨rfl, rfl⟩ := e'
    exact ⟨_, _, rfl, by rw [Nat.add_assoc]; exact hx⟩
  · cases hj
theorem below_undrew {B : Nat} {a w : World} (h : Below B a.drew w) : Below B a w := ⟨h.os, h.tape, h.output, h.size, h.block⟩
theorem blk_set_last {w : World} {g : Nat} {v0 v1 v2 v3 : Value} {t : TypeId} (hg : w.heap[g]? = some (.cells #[v0, v1, v2, v3] t (0, 0))) (v : Value) : (w.setCell ⟨g, 3, none⟩ v).heap[g]? = some (.cells #[v0, v1, v2, v] t (0, 0)) := by
  have h := heap_setCell_same w g 3 _ _ v hg
  exact h
theorem make_next {w wr wm w6 : World} {f j gg cc lc ucap : Nat} {lo uao : Option Addr} {ps : List (VL × Value)} {u : VL} (hb : Below w.heap.size w wr) (hm : Below wr.heap.size wr wm) (hres : NBlk wr w.heap.size 0 0 ⟨#[]⟩)
    (hbox : wr.heap[w.heap.size + 1]? = some (.cells #[.int .i64 4, .int .i64 0, .string ⟨#[]⟩, .slice lo j lc] 27 (0, 0)))
    (ho : wr.ownsRow (w.heap.size + 1 + 1) 27 4 (.slice lo j lc) j (rowCells ps))
    (hk : ∀ p ∈ ps, RowIn wr (fun b => w.heap.size + 1 + 1 ≤ b ∧ b < wr.heap.size ∧ (Value.slice lo j lc).ownBlock ≠ some b) f p.1.kids p.2)
    (hu : RowIn wm (fun g => wr.heap.size ≤ g) f u.kids (.slice uao u.kids.length ucap))
    (hg : wm.grownBy w6 (Value.slice lo j lc).ownBlock)
    (hown : w6.ownsRow (w.heap.size + 1 + 1) 27 4 (.slice (some ⟨gg, 0, none⟩) (j + 1) cc) (j + 1) (rowCells ps ++ [.int .i64 u.kind, .int .i64 u.num, .string u.text, .slice uao u.kids.length ucap]))
    (hat : (Value.slice lo j lc).ownBlock = some gg ∨ gg = wm.heap.size + 1) (hlt : gg < w6.heap.size) (x : World) (hx : x = w6.setCell ⟨w.heap.size + 1, 3, none⟩ (.slice (some ⟨gg, 0, none⟩) (j + 1) cc)) :
    Below w.heap.size w x ∧ NBlk x w.heap.size 0 0 ⟨#[]⟩ ∧ x.heap[w.heap.size + 1]? = some (.cells #[.int .i64 4, .int .i64 0, .string ⟨#[]⟩, .slice (some ⟨gg, 0, none⟩) (j + 1) cc] 27 (0, 0)) ∧
    x.ownsRow (w.heap.size + 1 + 1) 27 4 (.slice (some ⟨gg, 0, none⟩) (j + 1) cc) (j + 1) (rowCells (ps ++ [(u, .slice uao u.kids.length ucap)])) ∧
    ∀ p ∈ ps ++ [(u, .slice uao u.kids.length ucap)], RowIn x (fun b => w.heap.size + 1 + 1 ≤ b ∧ b < x.heap.size ∧ (Value.slice (some ⟨gg, 0, none⟩) (j + 1) cc).ownBlock ≠ some b) f p.1.kids p.2 := by
  have hn : ∀ b, (Value.slice lo j lc).ownBlock = some b → w.heap.size + 1 + 1 ≤ b ∧ b < wr.heap.size := fun b hb => World.ownsRow.lt ho b hb
  have g1 : w.heap.size + 1 < wr.heap.size := (Array.getElem?_eq_some_iff.1 hbox).1
  have s1 := hm.size
  have s2 := hg.size
  have sx : x.heap.size = w6.heap.size := by rw [hx]; simp [World.setCell]
  have far : ∀ b, b < wm.heap.size → some b ≠ (Value.slice lo j lc).ownBlock → b ≠ w.heap.size + 1 → x.heap[b]? = wm.heap[b]? := fun b h1 h2 h3 => by
    rw [hx, Below.heap_setCell _ _ _ _ h3]; exact hg.block b h1 h2
  have low : ∀ b, b < w.heap.size + 1 + 1 → some b ≠ (Value.slice lo j lc).ownBlock := fun b h e => by have := (hn b e.symm).1; omega
  have keep : ∀ (b o : Nat) (z : Value), b < wm.heap.size → some b ≠ (Value.slice lo j lc).ownBlock → b ≠ w.heap.size + 1 → wm.cell? ⟨b, o, none⟩ = some z → x.cell? ⟨b, o, none⟩ = some z := fun b o z h1 h2 h3 hz =>
    (World.cell?_of_block (a := ⟨b, o, none⟩) (far b h1 h2 h3)).trans hz
  refine ⟨?_, ?_, ?_, ?_, ?_⟩
  · have hb2 := below_tr hb hm
    refine ⟨?_, ?_, ?_, by have := hb2.size; omega, fun b h => (far b (by have := hb2.size; omega) (low b (by omega)) (by omega)).trans (hb2.block b h)⟩
    · rw [hx]; exact hg.os.trans hb2.os
    · rw [hx]; exact hg.tape.trans hb2.tape
    · rw [hx]; exact hg.output.trans hb2.output
  · exact (far _ (by omega) (low _ (by omega)) (by omega)).trans ((hm.block _ (by omega)).trans hres)
  · rw [hx]
    refine blk_set_last (v3 := .slice lo j lc) ?_ _
    exact (hg.block _ (by omega) (low _ (by omega))).trans ((hm.block _ g1).trans hbox)
  · rw [hx, rowCells_snoc]
    refine ownsRow_setCell_other hown (fun e => ?_) _
    simp only [Value.ownBlock, Option.some.injEq] at e
    rcases hat with h | h
    · have := (hn gg h).1; omega
    · omega
  · intro p hp
    have fresh : ∀ b, (b < wm.heap.size ∧ (Value.slice lo j lc).ownBlock ≠ some b) → (Value.slice (some ⟨gg, 0, none⟩) (j + 1) cc).ownBlock ≠ some b := fun b h e => by
      simp only [Value.ownBlock, Option.some.injEq] at e
      subst e
      rcases hat with h' | h'
      · exact h.2 h'
      · omega
    rcases List.mem_append.1 hp with hp | hp
    · refine RowIn.keep (fun b h => ⟨h.1, by omega, fresh b ⟨by omega, h.2.2⟩⟩) (fun b o z h hz => ?_) (hk p hp)
      exact keep b o z (by omega) (fun e => h.2.2 e.symm) (by omega) ((hm.cell (p := ⟨b, o, none⟩) h.2.1).trans hz)
    · simp only [List.mem_singleton] at hp
      subst hp
      exact RowIn.keep (fun b h => ⟨by have := h.1; omega, by have := h.2; omega, fresh b ⟨h.2, fun e => by have := (hn b e).2; have := h.1; omega⟩⟩)
        (fun b o z h hz => keep b o z h.2 (fun e => by have := (hn b e.symm).2; have := h.1; omega) (by have := h.1; omega) hz) (rowIn_lt hu)
def CapOk (v : Value) : Prop := ∀ ao n cap, v = .slice ao n cap → n ≤ cap
def MakeOf (f : Nat) : Prop := ∀ (v : Value) (xs : List Int) (s : ByteArray) (w : World), NumsRd .u8 w v xs → CapOk v → (∀ x ∈ xs, 0 ≤ x ∧ x ≤ 255) → xs.length ≤ f → xs.length ≤ 20 → s.size ≤ 100 → Calls Tryd.prog 5 #[v, .string s] w (MadeBy f (makeV f s xs) w)
theorem MakeOf.call {f : Nat} (h : MakeOf f) (v : Value) (xs : List Int) (s : ByteArray) (w : World) (h1 : NumsRd .u8 w v xs) (hc : CapOk v) (h2 : ∀ x ∈ xs, 0 ≤ x ∧ x ≤ 255) (h3 : xs.length ≤ f) (h4 : xs.length ≤ 20) (h5 : s.size ≤ 100) :
    Calls Tryd.prog 5 #[v, .string s] w (MadeBy f (makeV f s xs) w) := h v xs s w h1 hc h2 h3 h4 h5
section
variable (w : World)
set_option maxHeartbeats 4000000 in
set_option maxRecDepth 20000 in
theorem make_list_call (f : Nat) (IH : MakeOf f) (s : ByteArray) (v : Value) (k : Nat) (l : List Int) (hr : NumsRd .u8 w v ((k : Int) :: l)) (hcap : CapOk v) (hx : ∀ x ∈ ((k : Int) :: l), 0 ≤ x ∧ x ≤ 255) (hf : l.length ≤ f) (h20 : l.length ≤ 19) (hs : s.size ≤ 100) (h : k % 5 = 2) :
    Calls Tryd.prog 5 #[v, .string s] w (MadeBy (f + 1) (vlist ((List.range (kidsN ((k : Int) :: l) k)).map (kidV f s ((k : Int) :: l) k))) w) := by
  have H := Lib.hid hr
  obtain ⟨ao, cap, rfl, hcs⟩ := hr
  obtain ⟨g, o, rfl, hc⟩ := hcs 0 (k : Int) rfl
  rw [Nat.add_zero] at hc
  have CAP := Lib.hid (show l.length + 1 ≤ cap from hcap _ _ _ rfl)
  clear hcap
  have hk : k ≤ 255 := by have := hx k (by simp); omega
  have g0 : ((k : Int) % 5 == 0) = false := by simp; omega
  have g1 : ((k : Int) % 5 == 1) = false := by simp; omega
  have g2 : ((k : Int) % 5 == 2) = true := by simp; omega
  have hg : g < w.heap.size := World.block_lt_of_cell? _ _ hc
  have HX := Lib.hid hx
  obtain ⟨i0, hi0, hz0, hz1, hz2⟩ := info_parts info_val
  have hlen : ((k : Int) :: l).length = l.length + 1 := rfl
  rw [hlen]
  have hl0 : (((l.length + 1 : Nat) : Int) == 0) = false := by simp; omega
  clear hcs hx
  go_enter Tryd.func5, Tryd.ntmps5
  go_wp2_with fail
  have hk5 : ((k : Int) / 5 % 6) = ((k / 5 % 6 : Nat) : Int) := by omega
  have hk3 : ((k : Int) / 30 % 3) = ((k / 30 % 3 : Nat) : Int) := by omega
  have b5 : k / 5 % 6 ≤ 5 := by omega
  have b3 : k / 30 % 3 ≤ 2 := by omega
  have KN := Lib.hid (show kidsN ((k : Int) :: l) k = min l.length (k / 5 % 6) by unfold kidsN; rw [hk5, Int.toNat_natCast]; simp)
  generalize hKN : kidsN ((k : Int) :: l) k = kn at *
  clear hKN
  generalize k / 5 % 6 = a5 at *
  generalize hC3 : k / 30 % 3 = c3 at *
  go_loopg [7] kn (fun m iv wr => ∃ (j : Nat) (ps : List (VL × Value)) (lv : Value), iv = .int .i64 ((j : Int) + 1) ∧ kn - j ≤ m ∧ j ≤ kn ∧ Hid (ps.map (·.1) = (List.range j).map (kidV f s ((k : Int) :: l) k)) ∧ Hid (ps.length = j) ∧ Below w.heap.size w wr ∧ NBlk wr w.heap.size 0 0 ⟨#[]⟩ ∧ wr.heap[w.heap.size + 1]? = some (.cells #[.int .i64 4, .int .i64 0, .string ⟨#[]⟩, lv] 27 (0, 0)) ∧ wr.ownsRow (w.heap.size + 1 + 1) 27 4 lv j (rowCells ps) ∧ Hid (∀ p ∈ ps, RowIn wr (fun b => w.heap.size + 1 + 1 ≤ b ∧ b < wr.heap.size ∧ lv.ownBlock ≠ some b) f p.1.kids p.2))
  case atStart =>
    refine ⟨0, [], .slice none 0 0, rfl, Nat.le_refl _, Nat.zero_le _, Lib.hid rfl, Lib.hid rfl, below_al (below_al (Below.refl _ _) _) _, (NBlk.new w 0 0 ⟨#[]⟩).al _, ?_, own_none _ _ _ _, Lib.hid (fun p hp => by cases hp)⟩
    exact heap_at (by simp)
  case round =>
    obtain ⟨j, ps, lv, rfl, hm, hj, PS, PL, hb, hres, hbox, ho, KI⟩ := hrel
    obtain ⟨lo, lc, rfl⟩ := own_len ho
    have HM := Lib.hid hm
    have BR := Lib.hid hb
    have RES := Lib.hid hres
    have BOX := Lib.hid hbox
    have O := Lib.hid ho
    have x3 := cell_of_row wr (w.heap.size + 1) 3 _ _ _ hbox
    replace x3 : wr.cell? ⟨w.heap.size + 1, 3, none⟩ = some (.slice lo j lc) := x3
    have f3 : wr.frozen? ⟨w.heap.size + 1, 3, none⟩ = false := by simp [World.frozen?, hbox]
    have gs : w.heap.size + 1 < wr.heap.size := (Array.getElem?_eq_some_iff.1 hbox).1
    clear hm hb hres hbox ho
    by_cases hjl : j < kn
    · have l1 : (j : Int) + 1 < (l.length : Int) + 1 := by have := KN.out; omega
      have l2 : (j : Int) + 1 ≤ (a5 : Int) := by have := KN.out; omega
      obtain ⟨m, hmm⟩ : ∃ m, m = min (l.length - j) (c3 + 1) := ⟨_, rfl⟩
      obtain ⟨hi, hhi⟩ : ∃ hi, hi = j + 1 + m := ⟨_, rfl⟩
      have hcap : l.length + 1 ≤ cap := CAP.out
      have hif : (if IntKind.i64.wrap (IntKind.i64.wrap ((j : Int) + 1 + (IntKind.i64.wrap ((k : Int) / 30)).tmod 3) + 1) < (l.length : Int) + 1 then IntKind.i64.wrap (IntKind.i64.wrap ((j : Int) + 1 + (IntKind.i64.wrap ((k : Int) / 30)).tmod 3) + 1) else (l.length : Int) + 1) = (hi : Int) := by
        have w1 : IntKind.i64.wrap ((k : Int) / 30) = (k : Int) / 30 := by rw [IntKind.wrap_i64]; omega
        have t1 : ((k : Int) / 30).tmod 3 = (c3 : Int) := by rw [Int.tmod_eq_emod_of_nonneg (by omega)]; exact hk3
        have w2 : IntKind.i64.wrap ((j : Int) + 1 + (c3 : Int)) = (j : Int) + 1 + (c3 : Int) := by rw [IntKind.wrap_i64]; omega
        have w3 : IntKind.i64.wrap ((j : Int) + 1 + (c3 : Int) + 1) = (j : Int) + 1 + (c3 : Int) + 1 := by rw [IntKind.wrap_i64]; omega
        rw [w1, t1, w2, w3]
        split <;> omega
      have hmx : max (hi : Int) 0 = (hi : Int) := by omega
      have hsb : hi - (j + 1) = m := by omega
      have hcn : ¬ cap = j + 1 := by omega
      have hb1 : hi ≤ cap := by omega
      have hb2 : (j : Int) + 1 ≤ (hi : Int) := by omega
      have hb0 : (0 : Int) ≤ (j : Int) + 1 := by omega
      have SUB : subL ((k : Int) :: l) (j + 1) ((k : Int) / 30 % 3) = ((((k : Int) :: l).drop (j + 1)).take m) := by
        unfold subL
        rw [hk3]
        have e1 : ((c3 : Int) + 1).toNat = c3 + 1 := by omega
        have e2 : (((k : Int) :: l).drop (j + 1)).length = l.length - j := by simp
        rw [e1, hmm]
        rcases Nat.le_total (l.length - j) (c3 + 1) with h1 | h1
        · rw [Nat.min_eq_left h1, List.take_of_length_le (by omega), List.take_of_length_le (by omega)]
        · rw [Nat.min_eq_right h1]
      obtain ⟨u, hu⟩ : ∃ u, u = kidV f s ((k : Int) :: l) k j := ⟨_, rfl⟩
      have UV := Lib.hid hu
      have CM := Lib.hid (fun W (hW : Below wr.heap.size wr W) => by
        have hsub := numsRd_sub (H.out.below (below_tr BR.out hW)) (j + 1) m (cap - (j + 1)) (by rw [hlen]; omega)
        have h := IH.call _ _ s W hsub (fun _ _ _ e => by injection e with _ e1 e2; omega) (fun x hx => HX.out x (List.mem_of_mem_drop (List.mem_of_mem_take hx))) (by simp; omega) (by simp; omega) hs
        rw [show makeV f s ((((k : Int) :: l).drop (j + 1)).take m) = u by rw [← SUB, hu]; rfl] at h
        exact h)
      have NB := Lib.hid (fun b (hb : (Value.slice lo j lc).ownBlock = some b) => World.ownsRow.lt O.out b hb)
      have HF := Lib.hid (show j + 1 ≤ maxLen ∧ (j + 1) * 56 ≤ 140737488355328 by have := KN.out; unfold maxLen; omega)
      clear hu SUB hmm hhi hcap
      go_upto_region 15 with fail
      go_region_law (first
        | (refine step_append_lies _ (by rfl) _ _ _ (by rfl) (w.heap.size + 1 + 1) 27 i0 _ 4 56 Tryd.underlying24 hi0 hz0 hz1 hz2 rfl (by omega) (.slice lo j lc) j (rowCells ps) (by rfl) (by exact World.ownsRow.alloc (own_below O.out BM.out) _) ⟨wm.heap.size, 0, none⟩ 1 1 [.int .i64 u.kind, .int .i64 u.num, .string u.text, .slice uao u.kids.length ucap] (by rfl) (by rfl) (by exact news_new wm #[.int .i64 u.kind, .int .i64 u.num, .string u.text, .slice uao u.kids.length ucap] 27) (by simp [Value.oneCell']) (by omega) HF.out.1 HF.out.2 (by have := BM.out.size; simp; omega) (wm.heap.size + 1) (by simp) ?_; intro gg cc w6 hown' hgrow hat hlt; have hg6 := grown_trans (World.grownBy_alloc wm _ _) hgrow; have x36 := grown_keep6 hg6 x3m (fun k' hk' => by have := NB.out k' hk'; simp; omega); have f36 := grown_free6 hg6 gsm f3m (fun k' hk' => by have := NB.out k' hk'; omega))
        | (go_simp; go_at_call 5; refine (CM.out _ (by first | exact Below.refl _ _ | exact below_drew (Below.refl _ _))).mono ?_; rintro e wm ⟨lu, rfl, hin, hbm, -⟩; obtain ⟨uao, ucap, rfl⟩ := hin.rd.shape; have HIN := Lib.hid hin; have BM := Lib.hid (show Below wr.heap.size wr wm from below_undrew hbm); have x3m := hold BM.out x3; have f3m := (bcell BM.out).2 _ 3 gs; rw [f3] at f3m; have gsm := Nat.lt_of_lt_of_le gs BM.out.size; clear hin hbm))
      all_goals (
        have HX7 := Lib.hid (make_next BR.out BM.out RES.out BOX.out O.out KI.out HIN.out hg6 hown' hat hlt _ rfl)
        have SX := Lib.hid (List.range_succ (n := j))
        clear hown' hgrow hat hlt hg6 x36 f36 x3m f3m gsm x3 f3 gs
        generalize w6.setCell ⟨w.heap.size + 1, 3, none⟩ (.slice (some ⟨gg, 0, none⟩) (j + 1) cc) = W7 at *)
      all_goals go_wp2_with fail
      all_goals go_roundg (kn - (j + 1))
      all_goals try (case rel => exact ⟨j + 1, ps ++ [(u, .slice uao u.kids.length ucap)], _, by congr 1, Nat.le_refl _, hjl, Lib.hid (by rw [List.map_append, PS.out, SX.out, List.map_append, UV.out]; rfl), Lib.hid (by rw [List.length_append, PL.out]; rfl), HX7.out.1, HX7.out.2.1, HX7.out.2.2.1, HX7.out.2.2.2.1, Lib.hid HX7.out.2.2.2.2⟩)
      all_goals (case measure => have := HM.out; omega)
    · have ej : j = kn := by omega
      have x0 := cell_of_row wr (w.heap.size + 1) 0 _ _ _ BOX.out
      replace x0 : wr.cell? ⟨w.heap.size + 1, 0, none⟩ = some (.int .i64 4) := x0
      have x1 := cell_of_row wr (w.heap.size + 1) 1 _ _ _ BOX.out
      replace x1 : wr.cell? ⟨w.heap.size + 1, 1, none⟩ = some (.int .i64 0) := x1
      have x2 := cell_of_row wr (w.heap.size + 1) 2 _ _ _ BOX.out
      replace x2 : wr.cell? ⟨w.heap.size + 1, 2, none⟩ = some (.string ⟨#[]⟩) := x2
      obtain ⟨⟨r0, r1, r2, r3, rl⟩, q0, q1, q2, q3⟩ := RES.out.full
      have RI := Lib.hid (rowIn_of_own (P := fun b => w.heap.size < b) (D := f) (by rw [PL.out]; exact O.out) (by rw [PL.out]; have := KN.out; unfold maxLen; omega) KI.out (fun b h => by have := h.1; omega) (fun b h => by omega))
      rw [PS.out, ej] at RI
      have LN : ((List.range kn).map (kidV f s ((k : Int) :: l) k)).length = kn := by simp
      have LNH := Lib.hid LN
      clear LN
      have NK := Lib.hid ej
      generalize hks : (List.range kn).map (kidV f s ((k : Int) :: l) k) = ks at *
      have fin : ∀ (W : World), W = ((((wr.setCell ⟨w.heap.size, 0, none⟩ (.int .i64 4)).setCell ⟨w.heap.size, 1, none⟩ (.int .i64 0)).setCell ⟨w.heap.size, 2, none⟩ (.string ⟨#[]⟩)).setCell ⟨w.heap.size, 3, none⟩ (.slice lo j lc)) →
          MadeBy (f + 1) (vlist ks) w (.returned (.agg #[.int .i64 4, .int .i64 0, .string ⟨#[]⟩, .slice lo j lc])) W := fun W hW => by
        subst hW
        refine ⟨.slice lo j lc, rfl, ?_, below_set4 BR.out (Nat.le_refl _) _ _ _ _, fun h => absurd rfl h⟩
        refine RowIn.keep (fun b h => Nat.le_of_lt h) (fun _ _ _ _ h => h) (set4_in (P := fun b => w.heap.size < b) ?_ (Nat.lt_irrefl _) _ _ _ _)
        rw [NK.out]
        exact RI.out
      have FIN := Lib.hid fin
      clear fin ej hjl
      by_cases hla : l.length ≤ a5
      · have l1 : ¬ ((j : Int) + 1 < (l.length : Int) + 1) := by have := KN.out; have := NK.out; omega
        go_wp2_with fail
        exact bodyPost_ret (v := .agg #[.int .i64 4, .int .i64 0, .string ⟨#[]⟩, .slice lo j lc]) (by simp [results, Tryd.results5, go_sem, r0, r1, r2, r3]) rfl (FIN.out _ rfl)
      · have l1 : (j : Int) + 1 < (l.length : Int) + 1 := by have := KN.out; have := NK.out; omega
        have l2 : ¬ ((j : Int) + 1 ≤ (a5 : Int)) := by have := KN.out; have := NK.out; omega
        go_wp2_with fail
        exact bodyPost_ret (v := .agg #[.int .i64 4, .int .i64 0, .string ⟨#[]⟩, .slice lo j lc]) (by simp [results, Tryd.results5, go_sem, r0, r1, r2, r3]) rfl (FIN.out _ rfl)
end
/-- Make, of any row of numbers. -/
theorem vmake : ∀ f, MakeOf f := by
  intro f
  induction f with
  | zero =>
    intro v xs s w h hc hx hf h20 hs
    obtain ⟨ao, cap, rfl⟩ := h.shape
    have e : xs = [] := List.eq_nil_of_length_eq_zero (by omega)
    subst e
    exact make_none w 0 s ao cap
  | succ f ih =>
    intro v xs s w h hc hx hf h20 hs
    cases xs with
    | nil =>
      obtain ⟨ao, cap, rfl⟩ := h.shape
      exact make_none w (f + 1) s ao cap
    | cons n l =>
      have hn := hx n (by simp)
      obtain ⟨k, rfl⟩ : ∃ k : Nat, n = (k : Int) := ⟨n.toNat, by omega⟩
      have h' := h
      obtain ⟨ao, cap, rfl, hcs⟩ := h'
      obtain ⟨g, o, rfl, hce⟩ := hcs 0 (k : Int) rfl
      rw [Nat.add_zero] at hce
      rcases make_cases f s (k : Int) l with h1 | h1 | h1 | h1
      · rw [make_text f s k l h1.1 h1.2]
        exact make_text_call w (f + 1) s _ _ cap k g o rfl (by simp) hce (by omega) (by omega) h1.2
      · rw [make_bool f s k l h1]
        exact make_bool_call w (f + 1) s _ _ cap k g o rfl (by simp) hce (by omega) (by omega)
      · rw [make_list f s k l h1]
        exact make_list_call w f ih s _ k l h hc hx (by simpa using hf) (by simp at h20; omega) hs (by omega)
      · rw [make_num f s k l h1]
        exact make_num_call w (f + 1) s _ _ cap k g o rfl (by simp) hce (by omega) hs (by omega)
end Go.Proofs.YthlilcgjjkkajaaDoor
