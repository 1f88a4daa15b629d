/- Package eval: what a node is made of: numbers, truths, references, operations of two. -/
import Derived.Test.YtndeihmclecmcaaGreatDoorEvE
namespace Go.Proofs.YtndeihmclecmcaaGreatDoor
open Go.RowKit
set_option linter.unusedVariables false
set_option linter.unusedSimpArgs false
/-- What made is called with. -/
structure MadeIn (X : World → Prop) (w : World) (b g nn : Nat) (nv av vv : Value) (L : ByteArray → Option VL) (n : NodeL) (vs : List VL) (pao kao : Option Addr) (pcap kcap : Nat) (lv : Value) : Prop where
  blk : AskB w b g nv av vv
  scope : ScopeAt w 0 g nn L
  parts : PartsRd w (.slice pao n.parts.length pcap) n.parts
  row : RowRd w 1 vs lv
  nums : ∀ v ∈ vs, I64 v.num
  env : X w
/-- made answers r. -/
def MadeOK (X : World → Prop) (L : ByteArray → Option VL) (n : NodeL) (vs : List VL) (r : VL × Int) : Prop :=
  ∀ (w : World) (b g nn : Nat) (nv av vv : Value) (pao kao : Option Addr) (pcap kcap : Nat) (lv : Value), MadeIn X w b g nn nv av vv L n vs pao kao pcap kcap lv →
    Calls Tryz.prog 97 #[.pointer (some ⟨b, 0, none⟩), .agg #[.int .i64 n.kind, .int .i64 n.num, .string n.text, .slice pao n.parts.length pcap, .slice kao n.kids.length kcap], lv] w (Tells 0 r w)
theorem made_num (X : World → Prop) (L : ByteArray → Option VL) (n : NodeL) (vs : List VL) (hk : n.kind = 1) : MadeOK X L n vs (.mk 1 n.num ⟨#[]⟩ [], 0) := by
  intro w b g nn nv av vv pao kao pcap kcap lv h
  obtain ⟨lao, lcap, rfl⟩ := h.row.shape
  have B := Lib.hid (show Below w.heap.size w ((w.alloc (.cells #[.int .i64 n.kind, .int .i64 n.num, .string n.text, .slice pao n.parts.length pcap, .slice kao n.kids.length kcap] 35)).alloc (.cells #[.int .i64 1, .int .i64 n.num, .string ⟨#[]⟩, .slice none 0 0] 39)) from below_al (below_al (Below.refl _ _) _) _)
  have g1 : (n.kind == 1) = true := by simpa using hk
  clear h hk
  go_enter Tryz.func97, Tryz.ntmps97
  go_wp2_with fail
  exact bodyPost_ret (v := .tuple #[.agg #[.int .i64 1, .int .i64 n.num, .string ⟨#[]⟩, .slice none 0 0], .int .i64 0]) (by simp [results, Tryz.results97, go_sem]) rfl ⟨.slice none 0 0, rfl, RowRd.nil _ _ _ _, B.out⟩
theorem made_bool (X : World → Prop) (L : ByteArray → Option VL) (n : NodeL) (vs : List VL) (hk : n.kind = 3) : MadeOK X L n vs (.mk 3 n.num ⟨#[]⟩ [], 0) := by
  intro w b g nn nv av vv pao kao pcap kcap lv h
  obtain ⟨lao, lcap, rfl⟩ := h.row.shape
  have B := Lib.hid (show Below w.heap.size w ((w.alloc (.cells #[.int .i64 n.kind, .int .i64 n.num, .string n.text, .slice pao n.parts.length pcap, .slice kao n.kids.length kcap] 35)).alloc (.cells #[.int .i64 3, .int .i64 n.num, .string ⟨#[]⟩, .slice none 0 0] 39)) from below_al (below_al (Below.refl _ _) _) _)
  have g1 : (n.kind == 1) = false := by rw [hk]; rfl
  have g2 : (n.kind == 2) = false := by rw [hk]; rfl
  have g3 : (n.kind == 3) = true := by simpa using hk
  clear h hk
  go_enter Tryz.func97, Tryz.ntmps97
  go_wp2_with fail
  exact bodyPost_ret (v := .tuple #[.agg #[.int .i64 3, .int .i64 n.num, .string ⟨#[]⟩, .slice none 0 0], .int .i64 0]) (by simp [results, Tryz.results97, go_sem]) rfl ⟨.slice none 0 0, rfl, RowRd.nil _ _ _ _, B.out⟩
set_option maxHeartbeats 2000000 in
set_option maxRecDepth 20000 in
theorem made_ref (X : World → Prop) (L : ByteArray → Option VL) (n : NodeL) (vs : List VL) (hk : n.kind = 4) (hs : n.text.size ≤ maxLen) : MadeOK X L n vs (refR L n.text) := by
  intro w b g nn nv av vv pao kao pcap kcap lv h
  obtain ⟨lao, lcap, rfl⟩ := h.row.shape
  have HS := Lib.hid hs
  have B := Lib.hid (show Below w.heap.size w ((w.alloc (.cells #[.int .i64 n.kind, .int .i64 n.num, .string n.text, .slice pao n.parts.length pcap, .slice kao n.kids.length kcap] 35)).alloc (.cells #[.int .i64 0, .int .i64 0, .string ⟨#[]⟩, .slice none 0 0] 39)) from below_al (below_al (Below.refl _ _) _) _)
  have SC := Lib.hid (fun V (hV : Below w.heap.size w V) => preferS V 0 g nn L (h.scope.below hV) n.text hs)
  have g1 : (n.kind == 1) = false := by rw [hk]; rfl
  have g2 : (n.kind == 2) = false := by rw [hk]; rfl
  have g3 : (n.kind == 3) = false := by rw [hk]; rfl
  have g4 : (n.kind == 4) = true := by simpa using hk
  obtain ⟨b0, -, -, -, b4, -⟩ := h.blk.cells
  clear h hk hs
  go_enter Tryz.func97, Tryz.ntmps97
  go_upto_region 9 with fail
  have d0 : ((w.alloc (.cells #[.int .i64 n.kind, .int .i64 n.num, .string n.text, .slice pao n.parts.length pcap, .slice kao n.kids.length kcap] 35)).alloc (.cells #[.int .i64 0, .int .i64 0, .string ⟨#[]⟩, .slice none 0 0] 39)).cell? ⟨b, 0, none⟩ = some (.map (some g)) := hold B.out b0
  have d2 := cell_of_row _ _ 2 _ _ _ (heap_at (w := w) (O := .cells #[.int .i64 n.kind, .int .i64 n.num, .string n.text, .slice pao n.parts.length pcap, .slice kao n.kids.length kcap] 35) rfl)
  have NB := Lib.hid (show NBlk ((w.alloc (.cells #[.int .i64 n.kind, .int .i64 n.num, .string n.text, .slice pao n.parts.length pcap, .slice kao n.kids.length kcap] 35)).alloc (.cells #[.int .i64 0, .int .i64 0, .string ⟨#[]⟩, .slice none 0 0] 39)) (w.heap.size + 1) 0 0 ⟨#[]⟩ from heap_at (by simp))
  generalize refR L n.text = r at *
  go_region_with (go_at_call 123; refine (SC.out _ (below_drewN B.out _)).mono ?_; rintro e w' ⟨l2, rfl, hr2, hb2⟩; obtain ⟨xo, xc, rfl⟩ := hr2.shape; unfold VL.val; obtain ⟨⟨e0, e1, e2, e3, e4⟩, f0, f1, f2, f3⟩ := ((nblk_drewN NB.out _).below hb2).full; have HR := Lib.hid hr2; have HB := Lib.hid ((below_drewN B.out _).trans (hb2.mono (below_drewN B.out _).size)); clear hr2 hb2)
  all_goals (
    have HW := Lib.hid (below_set4 HB.out (g := w.heap.size + 1) (by omega) (.int .i64 r.1.kind) (.int .i64 r.1.num) (.string r.1.text) (.slice xo r.1.kids.length xc))
    go_wp2_with fail
    refine bodyPost_ret (v := .tuple #[.agg #[.int .i64 r.1.kind, .int .i64 r.1.num, .string r.1.text, .slice xo r.1.kids.length xc], .int .i64 r.2]) ?_ rfl ⟨.slice xo r.1.kids.length xc, rfl, HR.out, HW.out⟩
    simp [results, Tryz.results97, go_sem, e0, e1, e2, e3, e4, f0, f1, f2, f3])
theorem twoR_kids (D : Nat) (k : Int) (a b : VL) : (twoR D k a b).1.kids = [] := by
  unfold twoR
  repeat' split
  all_goals first | rfl | (unfold numR; split <;> rfl)
set_option maxHeartbeats 4000000 in
set_option maxRecDepth 20000 in
theorem made_two (X : World → Prop) (L : ByteArray → Option VL) (n : NodeL) (x y : VL) (hk : 13 ≤ n.kind ∧ n.kind ≤ 23) : MadeOK X L n [x, y] (twoR 0 n.kind x y) := by
  intro w b g nn nv av vv pao kao pcap kcap lv h
  obtain ⟨lao, lcap, rfl, hat⟩ := h.row.at
  obtain ⟨gx, ox, lx, rfl, -, x0, x1, x2, x3, hx⟩ := hat 0 x rfl
  obtain ⟨gy, oy, ly, e, -, y0, y1, y2, y3, hy⟩ := hat 1 y rfl
  simp at e
  obtain ⟨rfl, rfl⟩ := e
  obtain ⟨hxk, xo, xc, rfl⟩ := hx
  obtain ⟨hyk, yo, yc, rfl⟩ := hy
  simp only [Nat.zero_mul, Nat.one_mul, Nat.add_zero] at x0 x1 x2 x3 y0 y1 y2 y3
  have B := Lib.hid (show Below w.heap.size w ((w.alloc (.cells #[.int .i64 n.kind, .int .i64 n.num, .string n.text, .slice pao n.parts.length pcap, .slice kao n.kids.length kcap] 35)).alloc (.cells #[.int .i64 0, .int .i64 0, .string ⟨#[]⟩, .slice none 0 0] 39)) from below_al (below_al (Below.refl _ _) _) _)
  have SC := Lib.hid (fun V => vtwo V 0 n.kind x y (.slice xo 0 xc) (.slice yo 0 yc) ⟨hxk, xo, xc, rfl⟩ ⟨hyk, yo, yc, rfl⟩ (h.nums x (by simp)) (h.nums y (by simp)))
  have g1 : (n.kind == 1) = false := by simp; omega
  have g2 : (n.kind == 2) = false := by simp; omega
  have g3 : (n.kind == 3) = false := by simp; omega
  have g4 : (n.kind == 4) = false := by simp; omega
  have g5 : (n.kind == 5) = false := by simp; omega
  have g6 : (n.kind == 6) = false := by simp; omega
  have g7 : (n.kind == 7) = false := by simp; omega
  have g8 : (n.kind == 8) = false := by simp; omega
  have g9 : (n.kind == 9) = false := by simp; omega
  have g10 : (n.kind == 10) = false := by simp; omega
  have g11 : (n.kind == 11) = false := by simp; omega
  have g12 : (n.kind == 12) = false := by simp; omega
  clear h hk hat hxk hyk
  go_enter Tryz.func97, Tryz.ntmps97
  go_upto_region 23 with fail
  replace x0 := hold B.out x0
  replace x1 := hold B.out x1
  replace x2 := hold B.out x2
  replace x3 := hold B.out x3
  replace y0 := hold B.out y0
  replace y1 := hold B.out y1
  replace y2 := hold B.out y2
  replace y3 := hold B.out y3
  have NB := Lib.hid (show NBlk ((w.alloc (.cells #[.int .i64 n.kind, .int .i64 n.num, .string n.text, .slice pao n.parts.length pcap, .slice kao n.kids.length kcap] 35)).alloc (.cells #[.int .i64 0, .int .i64 0, .string ⟨#[]⟩, .slice none 0 0] 39)) (w.heap.size + 1) 0 0 ⟨#[]⟩ from heap_at (by simp))
  have HK := Lib.hid (twoR_kids 0 n.kind x y)
  generalize twoR 0 n.kind x y = r at *
  go_region_with (go_at_call 127; refine (SC.out _).mono ?_; rintro e w' ⟨rfl, hb2⟩; obtain ⟨⟨e0, e1, e2, e3, e4⟩, f0, f1, f2, f3⟩ := ((nblk_drewN NB.out _).below hb2).full; have HB := Lib.hid ((below_drewN B.out _).trans (hb2.mono (below_drewN B.out _).size)); clear hb2)
  all_goals (
    have HW := Lib.hid (below_set4 HB.out (g := w.heap.size + 1) (by omega) (.int .i64 r.1.kind) (.int .i64 r.1.num) (.string r.1.text) (.slice none 0 0))
    go_wp2_with fail
    refine bodyPost_ret (v := .tuple #[.agg #[.int .i64 r.1.kind, .int .i64 r.1.num, .string r.1.text, .slice none 0 0], .int .i64 r.2]) ?_ rfl ⟨.slice none 0 0, rfl, ⟨HK.out, _, _, rfl⟩, HW.out⟩
    simp [results, Tryz.results97, go_sem, e0, e1, e2, e3, e4, f0, f1, f2, f3])
end Go.Proofs.YtndeihmclecmcaaGreatDoor
