/- Package room: a map of rows of nodes; a row of nodes of which the first ones are taken, and to which others come. -/
import Derived.Test.YtffmmoligdoclaaMapK
import Derived.Test.YtffmmoligdoclaaSetK
import Derived.Test.YtffmmoligdoclaaTrI
import Derived.Deep.Upon
import Derived.Maps.AppendAt
namespace Go.Proofs.Ytffmmoligdoclaa
open Go.RowKit
set_option linter.unusedVariables false
set_option linter.unusedSimpArgs false
theorem nilR_run (w : World) : (zeroValue 22).run Try.prog w = .ok nilS w := by kernel_rfl
/-- The map at block g: d are its entries, V their rows, L what these hold. -/
structure MapR (w : World) (B g n : Nat) (d : DataW Value) (V : ByteArray → Value) (L : ByteArray → List I12) (K : ByteArray → Prop) : Prop where
  map : w.ownsMap Try.prog 9 heldW g n d
  at' : ∀ x, K x → d.atKey (keyW x) (.held nilS) = .held (V x)
  row : ∀ x, w.ownsRow B 40 12 (V x) (L x).length (i12s (L x))
  apart : ∀ x y k, x ≠ y → (V x).ownBlock = some k → (V y).ownBlock ≠ some k
  off : ∀ x, (V x).ownBlock ≠ some g
  nil : ∀ x, L x = [] → V x = nilS
theorem MapR.lt {w : World} {B g n : Nat} {d : DataW Value} {V : ByteArray → Value} {L : ByteArray → List I12} {K : ByteArray → Prop} (h : MapR w B g n d V L K) : g < w.heap.size := World.ownsMap.lt h.map
theorem MapR.alloc {w : World} {B g n : Nat} {d : DataW Value} {V : ByteArray → Value} {L : ByteArray → List I12} {K : ByteArray → Prop} (h : MapR w B g n d V L K) (O : Obj) : MapR (w.alloc O) B g n d V L K :=
  ⟨World.ownsMap.alloc h.map O, h.at', fun x => World.ownsRow.alloc (h.row x) O, h.apart, h.off, h.nil⟩
theorem MapR.new (w : World) : MapR (w.alloc (.map #[] 0)) w.heap.size w.heap.size 0 (.map []) (fun _ => nilS) (fun _ => []) (fun _ => True) :=
  ⟨World.ownsMap_made w _ _ _, fun x _ => rfl, fun x => (own_none _ _ _ _ : World.ownsRow _ _ _ _ _ _ _), fun x y k _ h => by (simp [Value.ownBlock] at h), fun x h => by (simp [Value.ownBlock] at h), fun x _ => rfl⟩
/-- A row with one more is put. -/
theorem MapR.put {w w6 w7 : World} {B g n : Nat} {d : DataW Value} {V : ByteArray → Value} {L : ByteArray → List I12} {K : ByteArray → Prop} (h : MapR w B g n d V L K) {s : ByteArray} {v : Value} {xs : List I12}
    (hg6 : w.grownBy w6 (V s).ownBlock) (h7 : w7.ownsMap Try.prog 9 heldW g (n + 1) (d.put (keyW s) (.held v))) (hg7 : w6.grownBy w7 (some g))
    (ho : w6.ownsRow B 40 12 v xs.length (i12s xs)) (hat : (V s).ownBlock = v.ownBlock ∨ v.ownBlock = some w.heap.size) (hne : xs ≠ []) :
    MapR w7 B g (n + 1) (d.put (keyW s) (.held v)) (fun x => if x = s then v else V x) (fun x => if x = s then xs else L x) K := by
  have hM : Maps.IsMap d := World.ownsMap.isMap h.map
  have hlt : ∀ x k, (V x).ownBlock = some k → k < w.heap.size := fun x k hk => ((h.row x).lt k hk).2
  have hvg : v.ownBlock ≠ some g := fun e => by
    rcases hat with h1 | h1
    · rw [e] at h1; exact h.off s h1
    · rw [h1] at e
      have := h.lt
      simp at e; omega
  refine ⟨h7, fun x hK => ?_, fun x => ?_, fun x y k hxy hk => ?_, fun x => ?_, fun x => ?_⟩
  · by_cases hx : x = s
    · subst hx; simp only [if_true]; exact Maps.atKey_put_same hM (keyW_key x) _ _
    · simp only [if_neg hx]; rw [Maps.atKey_put_other (keyW_ne hx)]; exact h.at' x hK
  · by_cases hx : x = s
    · subst hx; simp only [if_true]; exact ho.kept hg7 (.inr hvg)
    · simp only [if_neg hx]
      refine ((h.row x).kept hg6 ?_).kept hg7 (.inr (h.off x))
      by_cases hn : (V x).ownBlock = none
      · exact .inl hn
      · right
        intro e
        obtain ⟨k, hk⟩ := Option.ne_none_iff_exists'.1 hn
        exact h.apart x s k hx hk (by rw [← e]; exact hk)
  · by_cases hx : x = s
    · subst hx
      simp only [if_true] at hk
      rw [if_neg (fun e => hxy e.symm)]
      intro e
      rcases hat with h1 | h1
      · exact h.apart x y k hxy (h1.trans hk) e
      · rw [h1] at hk
        have := hlt y k e
        simp at hk; omega
    · simp only [if_neg hx] at hk
      by_cases hy : y = s
      · subst hy
        simp only [if_true]
        intro e
        rcases hat with h1 | h1
        · exact h.apart x y k hx hk (h1.trans e)
        · rw [h1] at e
          have := hlt x k hk
          simp at e; omega
      · simp only [if_neg hy]
        exact h.apart x y k hxy hk
  · by_cases hx : x = s
    · simp only [if_pos hx]; exact hvg
    · simp only [if_neg hx]; exact h.off x
  · by_cases hx : x = s
    · simp only [if_pos hx]; intro e; exact absurd e hne
    · simp only [if_neg hx]; exact h.nil x
/-- A row is struck. -/
theorem MapR.del {w w' : World} {B g n : Nat} {d : DataW Value} {V : ByteArray → Value} {L : ByteArray → List I12} {K : ByteArray → Prop} (h : MapR w B g n d V L K) {s : ByteArray}
    (h' : w'.ownsMap Try.prog 9 heldW g n (d.del (keyW s))) (hg : w.grownBy w' (some g)) :
    MapR w' B g n (d.del (keyW s)) (fun x => if x = s then nilS else V x) (fun x => if x = s then [] else L x) K := by
  refine ⟨h', fun x hK => ?_, fun x => ?_, fun x y k hxy hk => ?_, fun x => ?_, fun x => ?_⟩
  · by_cases hx : x = s
    · subst hx; simp only [if_true]; exact Maps.atKey_del_same _
    · simp only [if_neg hx]; rw [Maps.atKey_del_other (keyW_ne hx)]; exact h.at' x hK
  · by_cases hx : x = s
    · simp only [if_pos hx]; exact (own_none _ _ _ _ : World.ownsRow _ _ _ _ _ _ _)
    · simp only [if_neg hx]; exact (h.row x).kept hg (.inr (h.off x))
  · by_cases hx : x = s
    · simp only [if_pos hx] at hk; simp [Value.ownBlock] at hk
    · simp only [if_neg hx] at hk
      by_cases hy : y = s
      · simp only [if_pos hy]; simp [Value.ownBlock]
      · simp only [if_neg hy]; exact h.apart x y k hxy hk
  · by_cases hx : x = s
    · simp only [if_pos hx]; simp [Value.ownBlock]
    · simp only [if_neg hx]; exact h.off x
  · by_cases hx : x = s
    · simp only [if_pos hx]; intro _; trivial
    · simp only [if_neg hx]; exact h.nil x
/-- Other blocks turn. -/
theorem MapR.kept {w w' : World} {B g n : Nat} {d : DataW Value} {V : ByteArray → Value} {L : ByteArray → List I12} {K : ByteArray → Prop} (h : MapR w B g n d V L K) {row : Option Nat} (hg : w.grownBy w' row) (hr : row ≠ some g) (hv : ∀ x k, (V x).ownBlock = some k → row ≠ some k) : MapR w' B g n d V L K :=
  ⟨World.ownsMap.kept h.map hg (fun e => hr e.symm), h.at', fun x => (h.row x).kept hg (by
    by_cases hn : (V x).ownBlock = none
    · exact .inl hn
    · right
      intro e
      obtain ⟨k, hk⟩ := Option.ne_none_iff_exists'.1 hn
      exact hv x k hk (by rw [← e]; exact hk)), h.apart, h.off, h.nil⟩
theorem look_belowR {W : World} {g n : Nat} {d : DataW Value} (h : W.ownsMap Try.prog 9 heldW g n d) {s : ByteArray} (hs : s.size ≤ maxLen) {v : Value} (hat : d.atKey (keyW s) (.held nilS) = .held v) :
    (Instr.lookup 68 (.map (some g)) (.string s) false).run Try.prog W = .ok v W := by
  obtain ⟨v', ps, hrun, hv⟩ := World.ownsMap.lookup h strKeyedW Try.underlying68 (nilR_run W) (R := heldW) (zd := .held nilS) (zp := []) rfl (Go.WideMaps.keyOf_string_mk Try.underlying9 hs)
  rw [show Lit.string s.data.toList = keyW s from rfl, hat] at hv
  simp only [heldW, Option.some.injEq, Prod.mk.injEq, DataW.held.injEq] at hv
  rw [hv.1] at hrun
  exact hrun
theorem put_belowR {W : World} {g n : Nat} {d : DataW Value} (h : W.ownsMap Try.prog 9 heldW g n d) (hn : n ≤ 1000000) {s : ByteArray} (hs : s.size ≤ maxLen) (v : Value) :
    ∃ W', (Instr.mapUpdate 68 (.map (some g)) (.string s) v).run Try.prog W = .ok () W' ∧ W'.ownsMap Try.prog 9 heldW g (n + 1) (d.put (keyW s) (.held v)) ∧ W.grownBy W' (some g) :=
  World.ownsMap.update h strKeyedW Try.underlying68 (by unfold maxLen; omega) (Go.WideMaps.keyOf_string_mk Try.underlying9 hs) rfl
/-- One row is told apart from the map. -/
theorem MapR.forget {w : World} {B g n : Nat} {d : DataW Value} {V : ByteArray → Value} {L : ByteArray → List I12} {K : ByteArray → Prop} (h : MapR w B g n d V L K) (s : ByteArray) :
    MapR w B g n d (fun x => if x = s then nilS else V x) (fun x => if x = s then [] else L x) (fun x => K x ∧ x ≠ s) := by
  refine ⟨h.map, fun x hK => ?_, fun x => ?_, fun x y k hxy hk => ?_, fun x => ?_, fun x => ?_⟩
  · simp only [if_neg hK.2]; exact h.at' x hK.1
  · by_cases hx : x = s
    · simp only [if_pos hx]; exact (own_none _ _ _ _ : World.ownsRow _ _ _ _ _ _ _)
    · simp only [if_neg hx]; exact h.row x
  · by_cases hx : x = s
    · simp only [if_pos hx] at hk; simp [Value.ownBlock] at hk
    · simp only [if_neg hx] at hk
      by_cases hy : y = s
      · simp only [if_pos hy]; simp [Value.ownBlock]
      · simp only [if_neg hy]; exact h.apart x y k hxy hk
  · by_cases hx : x = s
    · simp only [if_pos hx]; simp [Value.ownBlock]
    · simp only [if_neg hx]; exact h.off x
  · by_cases hx : x = s
    · simp only [if_pos hx]; intro _; trivial
    · simp only [if_neg hx]; exact h.nil x
/-- A row of nodes, maybe from some place of its block on, with the room behind it. -/
structure QAt (w : World) (B g o cap : Nat) (l : List I12) : Prop where
  low : B ≤ g
  lt : g < w.heap.size
  le : l.length ≤ cap
  max : cap ≤ maxLen
  cells : ∀ j u, (i12s l)[j]? = some u → w.cell? ⟨g, o + j, none⟩ = some u
  spare : ∀ j, j < (cap - l.length) * 12 → (w.cell? ⟨g, o + l.length * 12 + j, none⟩).isSome = true ∧ w.frozen? ⟨g, o + l.length * 12 + j, none⟩ = false
def QRow (w : World) (B : Nat) (l : List I12) (v : Value) : Prop := (v = .slice none 0 0 ∧ l = []) ∨ ∃ g o cap, v = .slice (some ⟨g, o, none⟩) l.length cap ∧ QAt w B g o cap l
theorem QRow.shape {w : World} {B : Nat} {l : List I12} {v : Value} (h : QRow w B l v) : ∃ ao cap, v = .slice ao l.length cap := by
  rcases h with ⟨rfl, rfl⟩ | ⟨g, o, cap, rfl, -⟩
  · exact ⟨_, _, rfl⟩
  · exact ⟨_, _, rfl⟩
theorem QRow.lt {w : World} {B : Nat} {l : List I12} {v : Value} (h : QRow w B l v) (k : Nat) (hk : v.ownBlock = some k) : B ≤ k ∧ k < w.heap.size := by
  rcases h with ⟨rfl, rfl⟩ | ⟨g, o, cap, rfl, h⟩
  · simp [Value.ownBlock] at hk
  · simp [Value.ownBlock] at hk
    subst hk
    exact ⟨h.low, h.lt⟩
theorem QRow.of_own {w : World} {B : Nat} {l : List I12} {v : Value} (h : w.ownsRow B 40 12 v l.length (i12s l)) : QRow w B l v := by
  rcases h.2 with ⟨rfl, h0⟩ | ⟨g, cap, cur, rfl, hbg, hg, hnc, hcm, hcs, htake⟩
  · exact .inl ⟨rfl, List.eq_nil_of_length_eq_zero h0⟩
  · refine .inr ⟨g, 0, cap, rfl, hbg, (Array.getElem?_eq_some_iff.1 hg).1, hnc, hcm, fun j u hu => ?_, fun j hj => ?_⟩
    · have hj := (List.getElem?_eq_some_iff.1 hu).1
      rw [i12s_len] at hj
      rw [Nat.zero_add, h.cellAt j hj]
      exact hu
    · have hjc : 0 + l.length * 12 + j < cur.size := by rw [hcs]; have := Nat.sub_mul cap l.length 12; omega
      refine ⟨?_, frozen_of_row _ _ _ _ _ hg⟩
      rw [cell_of_row _ _ _ _ _ _ hg, Array.getElem?_eq_getElem hjc]
      rfl
theorem QRow.head {w : World} {B : Nat} {l : List I12} {x : I12} {v : Value} (h : QRow w B (x :: l) v) : ∃ g o cap, v = .slice (some ⟨g, o, none⟩) (x :: l).length cap ∧ I12At w g o x := by
  rcases h with ⟨-, h⟩ | ⟨g, o, cap, rfl, h⟩
  · cases h
  · refine ⟨g, o, cap, rfl, ?_⟩
    have key : ∀ r c, x.cells[r]? = some c → w.cell? ⟨g, o + r, none⟩ = some c := fun r c hc => by
      refine h.cells r c ?_
      have hr := (List.getElem?_eq_some_iff.1 hc).1
      have := i12s_at (x :: l) 0 r x rfl hr
      rw [Nat.zero_mul, Nat.zero_add] at this
      rw [this]; exact hc
    exact ⟨key 0 _ rfl, key 1 _ rfl, key 2 _ rfl, key 3 _ rfl, key 4 _ rfl, key 5 _ rfl, key 6 _ rfl, key 7 _ rfl, key 8 _ rfl, key 9 _ rfl, key 10 _ rfl, key 11 _ rfl⟩
theorem QRow.drop1 {w : World} {B : Nat} {l : List I12} {x : I12} {ao : Option Addr} {n cap : Nat} (h : QRow w B (x :: l) (.slice ao n cap)) : QRow w B l (sliced ao 1 n cap 12) := by
  rcases h with ⟨-, h⟩ | ⟨g, o, cap', e, h⟩
  · cases h
  · simp only [Value.slice.injEq] at e
    obtain ⟨rfl, rfl, rfl⟩ := e
    have hl : (x :: l).length = l.length + 1 := rfl
    by_cases hc : cap = 1
    · subst hc
      have h0 : l = [] := List.eq_nil_of_length_eq_zero (by have := h.le; rw [hl] at this; omega)
      subst h0
      refine .inr ⟨g, o, 0, rfl, h.low, h.lt, Nat.le_refl _, Nat.zero_le _, fun j u hu => (by simp [i12s] at hu), fun j hj => (by omega)⟩
    · refine .inr ⟨g, o + 12, cap - 1, ?_, h.low, h.lt, by have := h.le; omega, by have := h.max; omega, fun j u hu => ?_, fun j hj => ?_⟩
      · unfold sliced
        rw [if_neg hc, Option.map_some, wadd, hl, Nat.one_mul]
        rfl
      · have := h.cells (12 + j) u (by
          show (x.cells ++ i12s l)[12 + j]? = _
          rw [List.getElem?_append_right (by show 12 ≤ 12 + j; omega)]
          show (i12s l)[12 + j - 12]? = _
          rw [show 12 + j - 12 = j by omega]; exact hu)
        rw [show o + 12 + j = o + (12 + j) by omega]; exact this
      · have := h.spare j (by rw [hl]; have : cap - (l.length + 1) = cap - 1 - l.length := by omega
                              rw [this]; exact hj)
        rw [hl, Nat.add_mul, Nat.one_mul] at this
        rw [show o + 12 + l.length * 12 + j = o + (l.length * 12 + 12) + j by omega]
        exact this
theorem tape_setCells (b : Nat) : ∀ (vs : List Value) (o : Nat) (w : World), (w.setCells b o vs).tape = w.tape
  | [], o, w => rfl
  | v :: r, o, w => by
    show ((w.setCell ⟨b, o, none⟩ v).setCells b (o + 1) r).tape = _
    rw [tape_setCells b r]; rfl
/-- Other blocks turn. -/
theorem QRow.kept {w w' : World} {B : Nat} {l : List I12} {v : Value} (h : QRow w B l v) {row : Option Nat} (hg : w.grownBy w' row) (hr : ∀ k, v.ownBlock = some k → row ≠ some k) : QRow w' B l v := by
  rcases h with ⟨rfl, rfl⟩ | ⟨g, o, cap, rfl, h⟩
  · exact .inl ⟨rfl, rfl⟩
  · have hb : w'.heap[g]? = w.heap[g]? := hg.block g h.lt (fun e => hr g rfl e.symm)
    refine .inr ⟨g, o, cap, rfl, h.low, Nat.lt_of_lt_of_le h.lt hg.size, h.le, h.max, fun j u hu => ?_, fun j hj => ?_⟩
    · exact (World.cell?_of_block (a := ⟨g, o + j, none⟩) hb).trans (h.cells j u hu)
    · rw [World.cell?_of_block (a := ⟨g, o + l.length * 12 + j, none⟩) hb, World.frozen?_of_block (a := ⟨g, o + l.length * 12 + j, none⟩) hb]
      exact h.spare j hj
theorem QRow.alloc {w : World} {B : Nat} {l : List I12} {v : Value} (h : QRow w B l v) (O : Obj) : QRow (w.alloc O) B l v := h.kept (World.grownBy_alloc w O none) (fun k hk e => by cases e)
theorem run_append_q {w : World} {B : Nat} {l : List I12} {v : Value} (hq : QRow w B l v) (i : TypeInfo) (z : Value) (hi : Try.prog.info? 40 = some i) (hz : i.zero = some z) (hsz : i.size = 12) (hby : i.bytes = 112) (hzs : z.cells.size = 12)
    (ks : List I12) (ao : Option Addr) (c : Nat) (hnone : ao = none → ks.length = 0) (hnews : ∀ ad, ao = some ad → ∀ j u, (i12s ks)[j]? = some u → w.cell? (ad.add j) = some u)
    (hmax : l.length + ks.length ≤ 1000000) (hB : B ≤ w.heap.size) :
    ∃ v' w', (Builtin.append_ #[22, 22] 22 #[v, .slice ao ks.length c]).run Try.prog w = .ok v' w' ∧ QRow w' B (l ++ ks) v' ∧ w.grownBy w' v.ownBlock ∧ (v.ownBlock = v'.ownBlock ∨ v'.ownBlock = some w.heap.size) := by
  have hks := i12s_len ks
  have hl := i12s_len l
  cases ao with
  | none =>
    have hk0 := hnone rfl
    obtain rfl : ks = [] := List.eq_nil_of_length_eq_zero hk0
    obtain ⟨bo, bc, hv⟩ := hq.shape
    have hle : l.length ≤ bc := by
      rcases hq with ⟨e, rfl⟩ | ⟨g, o, cap, e, h⟩
      · exact Nat.zero_le _
      · rw [hv] at e
        simp only [Value.slice.injEq] at e
        rw [e.2.2]; exact h.le
    have hrun := _root_.Go.run_append_nothing (P := Try.prog) w 22 22 22 40 i Try.underlying22 hi bo l.length bc hle (.slice none 0 c) (Src.ofNil w Try.underlying22 c)
    rw [← hv] at hrun
    exact ⟨v, w, hrun, by rw [List.append_nil]; exact hq, grown_refl _ _, .inl rfl⟩
  | some ad =>
    have hn := hnews ad rfl
    have hsrc : Src Try.prog i.size 22 (.slice (some ad) ks.length c) ks.length (i12s ks) w := Src.ofSlice w Try.underlying22 ad ks.length c (i12s ks) (by rw [hsz]; exact hks) hn (i12s_one _)
    rcases hq with ⟨rfl, rfl⟩ | ⟨g, o, cap, rfl, h⟩
    · obtain ⟨v', w', hr, h2, h3, h4, h5⟩ := run_append_own_at (P := Try.prog) w B 22 22 40 i z 12 112 Try.underlying22 hi hz hsz hby hzs (by decide) (.slice none 0 0) 0 [] (own_none _ _ _ _) ad ks.length c (i12s ks) hks hn (i12s_one _) (by unfold maxLen; omega) (by omega) hB
      refine ⟨v', w', hr, QRow.of_own ?_, h3, ?_⟩
      · rw [List.nil_append]
        rw [List.nil_append, Nat.zero_add] at h2
        exact h2
      · rcases h5 with h5 | h5
        · exact .inl h5.symm
        · exact .inr h5
    · by_cases hroom : l.length + ks.length ≤ cap
      · have hsp : ∀ j, j < (i12s ks).length → (w.cell? ⟨g, o + l.length * i.size + j, none⟩).isSome = true ∧ w.frozen? ⟨g, o + l.length * i.size + j, none⟩ = false := fun j hj => by
          rw [hsz]
          exact h.spare j (by rw [hks] at hj; have := Nat.sub_mul cap l.length 12; omega)
        have hr := run_append_room_src (P := Try.prog) w 22 22 22 40 i Try.underlying22 hi g o l.length cap (.slice (some ad) ks.length c) ks.length (i12s ks) hsrc hroom (fun j hj => (hsp j hj).1) (fun j hj => (hsp j hj).2)
        have hin := World.cell?_setCells_in g (i12s ks) (o + l.length * i.size) w (fun j hj => (hsp j hj).1)
        rw [hsz] at hr hin
        have hgr : w.grownBy (w.setCells g (o + l.length * 12) (i12s ks)) (some g) := ⟨World.os_setCells .., tape_setCells .., World.output_setCells .., (World.keptBut_setCells g (may := fun _ => True) _ _ w (fun _ _ => trivial)).size, fun k hk hne => World.heap_setCells_other w g _ _ hk (fun e => hne (by rw [e]))⟩
        refine ⟨_, _, hr, .inr ⟨g, o, cap, by rw [List.length_append], h.low, Nat.lt_of_lt_of_le h.lt hgr.size, by rw [List.length_append]; exact hroom, h.max, fun j u hu => ?_, fun j hj => ?_⟩, hgr, .inl rfl⟩
        · rw [i12s_app] at hu
          by_cases hj : j < (i12s l).length
          · rw [List.getElem?_append_left hj] at hu
            rw [World.cell?_setCells_out g _ _ w _ (fun _ _ => .inl (by show o + j < o + l.length * 12; omega))]
            exact h.cells j u hu
          · rw [List.getElem?_append_right (by omega)] at hu
            obtain ⟨hj2, rfl⟩ := List.getElem?_eq_some_iff.1 hu
            have := hin (j - (i12s l).length) hj2
            rwa [show o + l.length * 12 + (j - (i12s l).length) = o + j by omega] at this
        · rw [List.length_append] at hj ⊢
          rw [World.cell?_setCells_out g _ _ w _ (fun _ _ => .inr (by show o + l.length * 12 + (i12s ks).length ≤ o + (l.length + ks.length) * 12 + j; omega)), World.frozen?_setCells]
          have := h.spare (ks.length * 12 + j) (by have h1 := Nat.sub_mul cap l.length 12; have h2 := Nat.sub_mul cap (l.length + ks.length) 12; omega)
          rwa [show o + l.length * 12 + (ks.length * 12 + j) = o + (l.length + ks.length) * 12 + j by omega] at this
      · have hold : (Builtin.firstCells i.size l.length (.slice (some ⟨g, o, none⟩) l.length cap)).run Try.prog w.drew = .ok (i12s l).toArray w.drew :=
          run_firstCells_some w.drew i.size l.length ⟨g, o, none⟩ l.length cap (i12s l) (by rw [hsz]; exact hl) (fun j u hu => by
            rw [wadd]
            have := h.cells j u hu
            simpa using this)
        have hr := run_append_grow_src (P := Try.prog) w 22 22 22 40 i z Try.underlying22 hi hz (some ⟨g, o, none⟩) l.length cap (i12s l) hold (.slice (some ad) ks.length c) ks.length (i12s ks) hsrc (by omega) (by omega) (growslice_fits (by omega) (by rw [hby]; omega))
        refine ⟨_, _, hr, QRow.of_own ?_, ⟨rfl, rfl, rfl, by simp, fun k hk _ => heap_alloc_old w.drew _ hk⟩, .inr rfl⟩
        have hge := grownCap_ge w (l.length + ks.length) cap 40
        have hcm : grownCap w (l.length + ks.length) cap 40 ≤ maxLen := grownCap_le_maxLen w (l.length + ks.length) cap _ (by unfold maxLen; omega)
        rw [List.length_append]
        refine ⟨by rw [i12s_len, List.length_append], .inr ⟨w.heap.size, _, _, rfl, hB, heap_alloc_new w.drew _, hge, hcm, ?_, ?_⟩⟩
        · simp only [Array.size_append, List.size_toArray, size_zeroCells, hzs, List.length_append, hl, hks, ← Nat.add_mul]
          congr 1
          omega
        · simp only [Array.toList_append, i12s_app]
          have e : ((l.length + ks.length) * 12) = (i12s l ++ i12s ks).length := by rw [List.length_append, hl, hks, Nat.add_mul]
          rw [e]
          exact List.take_left
theorem wpList_append_q (w : World) {ops : Array Oper} {rest : List Oper} {o : Oper} {a : Act} {Q : Exit → Act → World → Prop} (hgd : o.guard = none) (s x : Operand)
    (ho : o.op = .call { callee := .builtin .append, args := #[s, x], argTypes := #[22, 22] }) (hot : o.type = 22)
    {B : Nat} {l : List I12} (v : Value) (hs : a.eval s = v) (hq : QRow w B l v)
    (ks : List I12) (ao : Option Addr) (c : Nat) (hx : a.eval x = .slice ao ks.length c) (hnone : ao = none → ks.length = 0) (hnews : ∀ ad, ao = some ad → ∀ j u, (i12s ks)[j]? = some u → w.cell? (ad.add j) = some u)
    (hmax : l.length + ks.length ≤ 1000000) (hB : B ≤ w.heap.size)
    (h : ∀ v' w', QRow w' B (l ++ ks) v' → w.grownBy w' v.ownBlock → (v.ownBlock = v'.ownBlock ∨ v'.ownBlock = some w.heap.size) → wpList Try.prog ops Q rest (a.put o.dst v') w') : wpList Try.prog ops Q (o :: rest) a w := by
  obtain ⟨i0, hi0, hz0, hz1, hz2⟩ := info_partsT info_item
  obtain ⟨v', w', hrun, h1, h2, h3⟩ := run_append_q hq i0 _ hi0 hz0 hz1 hz2 rfl ks ao c hnone hnews hmax hB
  refine wpList_plain hgd fun K hK' => ?_
  unfold Oper.wp
  simp [execOp, ho, hot, resolve, invoke, builtin, hs, hx, hrun, Result.andThen]
  exact hK' _ _ (h v' w' h1 h2 h3)
end Go.Proofs.Ytffmmoligdoclaa
