/- The law of values by numbers, walked. -/
import Derived.Test.YthlilcgjjkkajaaValMj
namespace Go.Proofs.Ythlilcgjjkkajaa
open Go.RowKit
set_option linter.unusedVariables false
set_option linter.unusedSimpArgs false

section
variable (w : World)
set_option maxRecDepth 100000
set_option maxHeartbeats 8000000 in
theorem vmade_in (va vb : Value) (xs ys : List Int) (s : ByteArray) (n : Nat) (ha : NumsRd .u8 w va xs) (hb0 : NumsRd .u8 w vb ys) (hca : CapOk va) (hcb : CapOk vb) (hx : ∀ x ∈ xs, 0 ≤ x ∧ x ≤ 255) (hy : ∀ x ∈ ys, 0 ≤ x ∧ x ≤ 255) (hn : n < 256) (hxl : xs.length ≤ 20) (hyl : ys.length ≤ 20) (hs : s.size ≤ 100) :
    Calls Try.prog 3 #[.int .u8 (n : Int), va, vb, .string s] w (Made (.bool true) w) := by
  have MA := Lib.hid (fun W (hW : Below w.heap.size w W) => (vmake 20).call va xs s W (ha.below hW) hca hx hxl hxl hs)
  have MB := Lib.hid (fun W (hW : Below w.heap.size w W) => (vmake 20).call vb ys s W (hb0.below hW) hcb hy hyl hyl hs)
  obtain ⟨ao, acap, rfl⟩ := ha.shape
  obtain ⟨bo, bcap, rfl⟩ := hb0.shape
  have IA := Lib.hid (make_i64 20 s xs hx)
  have IB := Lib.hid (make_i64 20 s ys hy)
  have KA := Lib.hid (make_kind 20 s xs)
  have KB := Lib.hid (make_kind 20 s ys)
  have YA := Lib.hid (make_may 20 64 (by omega) s xs)
  have YB := Lib.hid (make_may 20 64 (by omega) s ys)
  have Y3 := Lib.hid (make_may 20 63 (by omega) s xs)
  have Z3 := Lib.hid (make_may 20 63 (by omega) s ys)
  generalize makeV 20 s xs = a at *
  generalize makeV 20 s ys = b at *
  clear ha hb0 hca hcb hx hy
  go_enter Try.func3, Try.ntmps3
  go_wp2_with fail
  refine (MA.out _ (Below.refl _ _)).mono ?_
  rintro e w1 ⟨la, rfl, hia, hb1, -⟩
  obtain ⟨lao, lac, rfl⟩ := hia.rd.shape
  have K1 := Lib.hid hb1
  have RA1 := Lib.hid hia.rd
  clear hia hb1
  go_wp2_with fail
  refine (MB.out _ K1.out).mono ?_
  rintro e w2 ⟨lb, rfl, hib, hb2, hnb⟩
  obtain ⟨lbo, lbc, rfl⟩ := hib.rd.shape
  have NB := Lib.hid hnb
  have K2 := Lib.hid (below_tr K1.out hb2)
  have RA2 := Lib.hid (RA1.out.below hb2)
  have RB2 := Lib.hid hib.rd
  clear hib hb2 hnb RA1 K1
  go_wp2_with fail
  have A0 := Lib.hid ((VBlk.new w2 a (.slice lao a.kids.length lac)).below (below_al (Below.refl _ _) (.cells #[.int .i64 b.kind, .int .i64 b.num, .string b.text, .slice lbo b.kids.length lbc] 26)))
  have B0 := Lib.hid (VBlk.new (w2.alloc (.cells #[.int .i64 a.kind, .int .i64 a.num, .string a.text, .slice lao a.kids.length lac] 26)) b (.slice lbo b.kids.length lbc))
  rw [show (w2.alloc (.cells #[.int .i64 a.kind, .int .i64 a.num, .string a.text, .slice lao a.kids.length lac] 26)).heap.size = w2.heap.size + 1 by simp] at B0
  have W3 := Lib.hid (show Below w2.heap.size w2 _ from below_al (below_al (Below.refl w2.heap.size w2) (.cells #[.int .i64 a.kind, .int .i64 a.num, .string a.text, .slice lao a.kids.length lac] 26)) (.cells #[.int .i64 b.kind, .int .i64 b.num, .string b.text, .slice lbo b.kids.length lbc] 26))
  generalize (w2.alloc (.cells #[.int .i64 a.kind, .int .i64 a.num, .string a.text, .slice lao a.kids.length lac] 26)).alloc (.cells #[.int .i64 b.kind, .int .i64 b.num, .string b.text, .slice lbo b.kids.length lbc] 26) = w3 at *
  have K3 := Lib.hid (below_tr K2.out W3.out)
  have RA := Lib.hid (RA2.out.below W3.out)
  have RB := Lib.hid (RB2.out.below W3.out)
  generalize hgb : w2.heap.size + 1 = GB at *
  generalize hga : w2.heap.size = GA at *
  clear hga hgb K2 W3 RA2 RB2
  have hk16 : 8 ≤ 8 + (n : Int) % 16 ∧ 8 + (n : Int) % 16 ≤ 23 := by omega
  generalize 8 + (n : Int) % 16 = k at *
  refine (vone w3 20 a _ k RA.out IA.out).mono ?_
  rintro e w4 ⟨rfl, hb4⟩
  have KX := Lib.hid (below_tr K3.out hb4)
  have AX := Lib.hid (A0.out.below hb4)
  have BX := Lib.hid (B0.out.below hb4)
  have RAX := Lib.hid (RA.out.below hb4)
  have RBX := Lib.hid (RB.out.below hb4)
  clear hb4 K3 A0 B0 RA RB
  generalize hx0 : oneR k a = x at *
  have XV := Lib.hid hx0
  clear hx0
  obtain ⟨c0, c1, c2, c3⟩ := AX.out.cells
  obtain ⟨d0, d1, d2, d3⟩ := BX.out.cells
  have al := AX.out.lt
  have bl := BX.out.lt
  go_wp2_with fail
  clear c0 c1 c2 c3 d0 d1 d2 d3 al bl
  have X4 := Lib.hid (VBlk.new w4 x.1 (.slice none 0 0))
  have W5 := Lib.hid (below_al (Below.refl w4.heap.size w4) (.cells #[.int .i64 x.1.kind, .int .i64 x.1.num, .string x.1.text, .slice none 0 0] 26))
  generalize w4.alloc (.cells #[.int .i64 x.1.kind, .int .i64 x.1.num, .string x.1.text, .slice none 0 0] 26) = w5 at *
  generalize hgx : w4.heap.size = GX at X4 ⊢
  clear hgx
  refine (vtwo w5 20 k a b _ _ (RAX.out.below W5.out) (RBX.out.below W5.out) IA.out IB.out).mono ?_
  rintro e w6 ⟨rfl, hb6⟩
  have W6 := Lib.hid (below_tr W5.out hb6)
  have KY := Lib.hid (below_tr KX.out W6.out)
  have AY := Lib.hid (AX.out.below W6.out)
  have BY := Lib.hid (BX.out.below W6.out)
  have RAY := Lib.hid (RAX.out.below W6.out)
  have RBY := Lib.hid (RBX.out.below W6.out)
  have XY := Lib.hid (X4.out.below hb6)
  clear hb6 W5 W6 KX AX BX RAX RBX X4
  generalize hy0 : twoR 20 k a b = y at *
  have YV := Lib.hid hy0
  clear hy0
  obtain ⟨c0, c1, c2, c3⟩ := AY.out.cells
  obtain ⟨d0, d1, d2, d3⟩ := BY.out.cells
  have al := AY.out.lt
  have bl := BY.out.lt
  go_wp2_with fail
  clear c0 c1 c2 c3 d0 d1 d2 d3 al bl
  have Y4 := Lib.hid (VBlk.new w6 y.1 (.slice none 0 0))
  have W7 := Lib.hid (below_al (Below.refl w6.heap.size w6) (.cells #[.int .i64 y.1.kind, .int .i64 y.1.num, .string y.1.text, .slice none 0 0] 26))
  generalize w6.alloc (.cells #[.int .i64 y.1.kind, .int .i64 y.1.num, .string y.1.text, .slice none 0 0] 26) = w7 at *
  generalize hgy : w6.heap.size = GY at Y4 ⊢
  clear hgy
  refine (vindex w7 20 a b _ _ (RAY.out.below W7.out) (RBY.out.below W7.out) NB.out KA.out.1 KB.out.2 64 YA.out).mono ?_
  rintro e w8 ⟨lz, he, hrz, hb8⟩
  replace he : e = .returned (.tuple #[.agg #[.int .i64 (idxR a b).1.kind, .int .i64 (idxR a b).1.num, .string (idxR a b).1.text, lz], .int .i64 (idxR a b).2]) := he
  subst he
  obtain ⟨zo, zc, rfl⟩ := hrz.shape
  have W8 := Lib.hid (below_tr W7.out hb8)
  have KZ := Lib.hid (below_tr KY.out W8.out)
  have AZ := Lib.hid (AY.out.below W8.out)
  have BZ := Lib.hid (BY.out.below W8.out)
  have RAZ := Lib.hid (RAY.out.below W8.out)
  have RBZ := Lib.hid (RBY.out.below W8.out)
  have XZ := Lib.hid (XY.out.below W8.out)
  have YZ := Lib.hid (Y4.out.below hb8)
  have RZ := Lib.hid hrz
  clear hb8 hrz W7 W8 KY AY BY RAY RBY XY Y4
  generalize hz0 : idxR a b = z at *
  have ZV := Lib.hid hz0
  clear hz0
  obtain ⟨c0, c1, c2, c3⟩ := AZ.out.cells
  obtain ⟨d0, d1, d2, d3⟩ := BZ.out.cells
  have al := AZ.out.lt
  have bl := BZ.out.lt
  go_wp2_with fail
  clear c0 c1 c2 c3 d0 d1 d2 d3 al bl
  have Z4 := Lib.hid ((VBlk.new w8 z.1 (.slice zo z.1.kids.length zc)).below (below_al (Below.refl _ _) (.cells #[.int .i64 a.kind, .int .i64 a.num, .string a.text, .slice lao a.kids.length lac, .int .i64 b.kind, .int .i64 b.num, .string b.text, .slice lbo b.kids.length lbc, .int .i64 a.kind, .int .i64 a.num, .string a.text, .slice lao a.kids.length lac] 26)))
  have W9 := Lib.hid (below_al (below_al (Below.refl w8.heap.size w8) (.cells #[.int .i64 z.1.kind, .int .i64 z.1.num, .string z.1.text, .slice zo z.1.kids.length zc] 26)) (.cells #[.int .i64 a.kind, .int .i64 a.num, .string a.text, .slice lao a.kids.length lac, .int .i64 b.kind, .int .i64 b.num, .string b.text, .slice lbo b.kids.length lbc, .int .i64 a.kind, .int .i64 a.num, .string a.text, .slice lao a.kids.length lac] 26))
  have L9 := Lib.hid (row_three (v := a) (u := b) (t := a) (D := 20) (w := (w8.alloc (.cells #[.int .i64 z.1.kind, .int .i64 z.1.num, .string z.1.text, .slice zo z.1.kids.length zc] 26)).alloc (.cells #[.int .i64 a.kind, .int .i64 a.num, .string a.text, .slice lao a.kids.length lac, .int .i64 b.kind, .int .i64 b.num, .string b.text, .slice lbo b.kids.length lbc, .int .i64 a.kind, .int .i64 a.num, .string a.text, .slice lao a.kids.length lac] 26)) (g := w8.heap.size + 1) (heap_at (by simp)) (RAZ.out.below W9.out) (RBZ.out.below W9.out) (RAZ.out.below W9.out))
  generalize (w8.alloc (.cells #[.int .i64 z.1.kind, .int .i64 z.1.num, .string z.1.text, .slice zo z.1.kids.length zc] 26)).alloc (.cells #[.int .i64 a.kind, .int .i64 a.num, .string a.text, .slice lao a.kids.length lac, .int .i64 b.kind, .int .i64 b.num, .string b.text, .slice lbo b.kids.length lbc, .int .i64 a.kind, .int .i64 a.num, .string a.text, .slice lao a.kids.length lac] 26) = w9 at *
  have KW := Lib.hid (below_tr KZ.out W9.out)
  have AW := Lib.hid (AZ.out.below W9.out)
  have BW := Lib.hid (BZ.out.below W9.out)
  have RAW := Lib.hid (RAZ.out.below W9.out)
  have RBW := Lib.hid (RBZ.out.below W9.out)
  have XW := Lib.hid (XZ.out.below W9.out)
  have YW := Lib.hid (YZ.out.below W9.out)
  have RZW := Lib.hid (RZ.out.below W9.out)
  clear W9 KZ AZ BZ RAZ RBZ XZ YZ RZ
  generalize hgl : w8.heap.size + 1 = GL at *
  generalize hgz : w8.heap.size = GZ at *
  clear hgl hgz
  have MT := Lib.hid (may_three Y3.out Z3.out)
  refine (vlist_ok w9 21 [a, b, a] _ L9.out MT.out).mono ?_
  rintro e w10 ⟨lw, rfl, hiw, hb10⟩
  obtain ⟨wo, wc, rfl⟩ := hiw.rd.shape
  have K10 := Lib.hid (below_tr KW.out hb10)
  have A10 := Lib.hid (AW.out.below hb10)
  have B10 := Lib.hid (BW.out.below hb10)
  have RA10 := Lib.hid (RAW.out.below hb10)
  have RB10 := Lib.hid (RBW.out.below hb10)
  have X10 := Lib.hid (XW.out.below hb10)
  have Y10 := Lib.hid (YW.out.below hb10)
  have Z10 := Lib.hid (Z4.out.below hb10)
  have RZ10 := Lib.hid (RZW.out.below hb10)
  have RW10 := Lib.hid hiw.rd
  clear hb10 hiw KW AW BW RAW RBW XW YW Z4 RZW L9
  go_wp2_with fail
  have W11 := Lib.hid (below_al (Below.refl w10.heap.size w10) (.cells #[.int .i64 4, .int .i64 0, .string ⟨#[]⟩, .slice wo 3 wc] 26))
  have Wbx := Lib.hid (VBlk.new w10 (vlist [a, b, a]) (.slice wo 3 wc))
  have K := Lib.hid (below_tr K10.out W11.out)
  have Abx := Lib.hid (A10.out.below W11.out)
  have Bbx := Lib.hid (B10.out.below W11.out)
  have Xbx := Lib.hid (X10.out.below W11.out)
  have Ybx := Lib.hid (Y10.out.below W11.out)
  have Zbx := Lib.hid (Z10.out.below W11.out)
  have RA := Lib.hid (RA10.out.below W11.out)
  have RB := Lib.hid (RB10.out.below W11.out)
  have RZ := Lib.hid (RZ10.out.below W11.out)
  have RW := Lib.hid (RW10.out.below W11.out)
  replace RW : Hid (RowRd (w10.alloc (.cells #[.int .i64 4, .int .i64 0, .string ⟨#[]⟩, .slice wo 3 wc] 26)) 21 [a, b, a] (.slice wo 3 wc)) := RW
  clear W11 K10 A10 B10 X10 Y10 Z10 RA10 RB10 RZ10 RW10
  replace Wbx : Hid (VBlk (w10.alloc (.cells #[.int .i64 4, .int .i64 0, .string ⟨#[]⟩, .slice wo 3 wc] 26)) w10.heap.size (vlist [a, b, a]) (.slice wo 3 wc)) := Wbx
  generalize w10.alloc (.cells #[.int .i64 4, .int .i64 0, .string ⟨#[]⟩, .slice wo 3 wc] 26) = wd at *
  generalize w10.heap.size = GW at *
  have SIX : Hid (∀ V, Below wd.heap.size wd V → (fun w' => w'.cell? ⟨GA, 0, none⟩ = some (.int .i64 a.kind) ∧ w'.cell? ⟨GA, 1, none⟩ = some (.int .i64 a.num) ∧ w'.cell? ⟨GA, 2, none⟩ = some (.string a.text) ∧ w'.cell? ⟨GA, 3, none⟩ = some (.slice lao a.kids.length lac) ∧ w'.cell? ⟨GB, 0, none⟩ = some (.int .i64 b.kind) ∧ w'.cell? ⟨GB, 1, none⟩ = some (.int .i64 b.num) ∧ w'.cell? ⟨GB, 2, none⟩ = some (.string b.text) ∧ w'.cell? ⟨GB, 3, none⟩ = some (.slice lbo b.kids.length lbc) ∧ w'.cell? ⟨GX, 0, none⟩ = some (.int .i64 x.1.kind) ∧ w'.cell? ⟨GX, 1, none⟩ = some (.int .i64 x.1.num) ∧ w'.cell? ⟨GX, 2, none⟩ = some (.string x.1.text) ∧ w'.cell? ⟨GX, 3, none⟩ = some (.slice none 0 0) ∧ w'.cell? ⟨GY, 0, none⟩ = some (.int .i64 y.1.kind) ∧ w'.cell? ⟨GY, 1, none⟩ = some (.int .i64 y.1.num) ∧ w'.cell? ⟨GY, 2, none⟩ = some (.string y.1.text) ∧ w'.cell? ⟨GY, 3, none⟩ = some (.slice none 0 0) ∧ w'.cell? ⟨GZ, 0, none⟩ = some (.int .i64 z.1.kind) ∧ w'.cell? ⟨GZ, 1, none⟩ = some (.int .i64 z.1.num) ∧ w'.cell? ⟨GZ, 2, none⟩ = some (.string z.1.text) ∧ w'.cell? ⟨GZ, 3, none⟩ = some (.slice zo z.1.kids.length zc) ∧ w'.cell? ⟨GW, 0, none⟩ = some (.int .i64 4) ∧ w'.cell? ⟨GW, 1, none⟩ = some (.int .i64 0) ∧ w'.cell? ⟨GW, 2, none⟩ = some (.string ⟨#[]⟩) ∧ w'.cell? ⟨GW, 3, none⟩ = some (.slice wo 3 wc)) V) := Lib.hid (fun V h => by
    obtain ⟨aa0, aa1, aa2, aa3⟩ := (Abx.out.below h).cells
    obtain ⟨bb0, bb1, bb2, bb3⟩ := (Bbx.out.below h).cells
    obtain ⟨xx0, xx1, xx2, xx3⟩ := (Xbx.out.below h).cells
    obtain ⟨yy0, yy1, yy2, yy3⟩ := (Ybx.out.below h).cells
    obtain ⟨zz0, zz1, zz2, zz3⟩ := (Zbx.out.below h).cells
    obtain ⟨ww0, ww1, ww2, ww3⟩ := (Wbx.out.below h).cells
    exact ⟨aa0, aa1, aa2, aa3, bb0, bb1, bb2, bb3, xx0, xx1, xx2, xx3, yy0, yy1, yy2, yy3, zz0, zz1, zz2, zz3, ww0, ww1, ww2, ww3⟩)
  have C1 := Lib.hid (fun V (h : Below wd.heap.size wd V) => made_one V k a lao a.kids.length lac IA.out x XV.out)
  have C2 := Lib.hid (fun V (h : Below wd.heap.size wd V) => made_two V 20 k a b _ _ (RA.out.below h) (RB.out.below h) IA.out IB.out y YV.out)
  have C3 := Lib.hid (fun V (h : Below wd.heap.size wd V) => made_idx V 20 a b _ lbo b.kids.length lbc (RA.out.below h) IB.out z ZV.out)
  have C4 := Lib.hid (fun V g (h : Below wd.heap.size wd V) => made_list V a b _ _ g (RA.out.below h) (RB.out.below h) Y3.out Z3.out)
  have CA := Lib.hid (fun V (h : Below wd.heap.size wd V) => made_may V 20 a _ (RA.out.below h) YA.out)
  have IX := Lib.hid (fun V => lis_leaf V x.1.kind x.1.num x.1.text x.2)
  have IY := Lib.hid (fun V => lis_leaf V y.1.kind y.1.num y.1.text y.2)
  have IZ := Lib.hid (fun V lg (h : Below wd.heap.size wd V) (hr : RowRd V (20 - 1) z.1.kids lg) => lis_same V (20 - 1) z.1 _ lg z.2 (RZ.out.below h) hr)
  have IW := Lib.hid (fun V lg (h : Below wd.heap.size wd V) (hr : RowRd V 21 [a, b, a] lg) => lis_list V 21 [a, b, a] _ lg (RW.out.below h) hr)
  have MY : Hid (y.2 = 0 → ∀ V, Calls Try.prog 16 #[.agg #[.int .i64 y.1.kind, .int .i64 y.1.num, .string y.1.text, .slice none 0 0]] V (Made (.bool true) V)) := Lib.hid (fun h V => made_two_may V 20 k a b y YV.out h)
  clear RA RB RZ RW Abx Bbx Xbx Ybx Zbx Wbx Y3 Z3 YA YB IA IB KA KB NB MT XV YV ZV MA MB
  by_cases hy : y.2 = 0
  · have MYY := Lib.hid (MY.out hy)
    have gy : (y.2 != 0) = false := by simpa using hy
    clear hy MY
    go_region_held3 (fun w' => w'.cell? ⟨GA, 0, none⟩ = some (.int .i64 a.kind) ∧ w'.cell? ⟨GA, 1, none⟩ = some (.int .i64 a.num) ∧ w'.cell? ⟨GA, 2, none⟩ = some (.string a.text) ∧ w'.cell? ⟨GA, 3, none⟩ = some (.slice lao a.kids.length lac) ∧ w'.cell? ⟨GB, 0, none⟩ = some (.int .i64 b.kind) ∧ w'.cell? ⟨GB, 1, none⟩ = some (.int .i64 b.num) ∧ w'.cell? ⟨GB, 2, none⟩ = some (.string b.text) ∧ w'.cell? ⟨GB, 3, none⟩ = some (.slice lbo b.kids.length lbc) ∧ w'.cell? ⟨GX, 0, none⟩ = some (.int .i64 x.1.kind) ∧ w'.cell? ⟨GX, 1, none⟩ = some (.int .i64 x.1.num) ∧ w'.cell? ⟨GX, 2, none⟩ = some (.string x.1.text) ∧ w'.cell? ⟨GX, 3, none⟩ = some (.slice none 0 0) ∧ w'.cell? ⟨GY, 0, none⟩ = some (.int .i64 y.1.kind) ∧ w'.cell? ⟨GY, 1, none⟩ = some (.int .i64 y.1.num) ∧ w'.cell? ⟨GY, 2, none⟩ = some (.string y.1.text) ∧ w'.cell? ⟨GY, 3, none⟩ = some (.slice none 0 0) ∧ w'.cell? ⟨GZ, 0, none⟩ = some (.int .i64 z.1.kind) ∧ w'.cell? ⟨GZ, 1, none⟩ = some (.int .i64 z.1.num) ∧ w'.cell? ⟨GZ, 2, none⟩ = some (.string z.1.text) ∧ w'.cell? ⟨GZ, 3, none⟩ = some (.slice zo z.1.kids.length zc) ∧ w'.cell? ⟨GW, 0, none⟩ = some (.int .i64 4) ∧ w'.cell? ⟨GW, 1, none⟩ = some (.int .i64 0) ∧ w'.cell? ⟨GW, 2, none⟩ = some (.string ⟨#[]⟩) ∧ w'.cell? ⟨GW, 3, none⟩ = some (.slice wo 3 wc)) (((with_reducible refine SIX.out _ ?_); (repeat (first | with_reducible exact HB.out | with_reducible exact Below.refl _ _ | with_reducible refine below_drew ?_ | with_reducible refine below_drewN ?_ _ | with_reducible refine below_al ?_ _)))) (first
      | (go_at_call 11; (with_reducible refine (C1.out _ ?_).mono ?_); (· (repeat (first | with_reducible exact HB.out | with_reducible exact Below.refl _ _ | with_reducible refine below_drew ?_ | with_reducible refine below_drewN ?_ _ | with_reducible refine below_al ?_ _))); rintro e w'' ⟨rfl, hb⟩; (have HB' : Below wd.heap.size wd w'' := by ((refine below_tr ?_ hb); (repeat (first | with_reducible exact HB.out | with_reducible exact Below.refl _ _ | with_reducible refine below_drew ?_ | with_reducible refine below_drewN ?_ _ | with_reducible refine below_al ?_ _)))); (clear hb); (have HB := Lib.hid HB'); (clear HB'))
      | (go_at_call 12; (with_reducible refine (C2.out _ ?_).mono ?_); (· (repeat (first | with_reducible exact HB.out | with_reducible exact Below.refl _ _ | with_reducible refine below_drew ?_ | with_reducible refine below_drewN ?_ _ | with_reducible refine below_al ?_ _))); rintro e w'' ⟨rfl, hb⟩; (have HB' : Below wd.heap.size wd w'' := by ((refine below_tr ?_ hb); (repeat (first | with_reducible exact HB.out | with_reducible exact Below.refl _ _ | with_reducible refine below_drew ?_ | with_reducible refine below_drewN ?_ _ | with_reducible refine below_al ?_ _)))); (clear hb); (have HB := Lib.hid HB'); (clear HB'))
      | (go_at_call 13; (with_reducible refine (C3.out _ ?_).mono ?_); (· (repeat (first | with_reducible exact HB.out | with_reducible exact Below.refl _ _ | with_reducible refine below_drew ?_ | with_reducible refine below_drewN ?_ _ | with_reducible refine below_al ?_ _))); rintro e w'' ⟨go, gc, rfl, hr, hb⟩; (have HB' : Below wd.heap.size wd w'' := by ((refine below_tr ?_ hb); (repeat (first | with_reducible exact HB.out | with_reducible exact Below.refl _ _ | with_reducible refine below_drew ?_ | with_reducible refine below_drewN ?_ _ | with_reducible refine below_al ?_ _)))); (clear hb); (have HB := Lib.hid HB'); (clear HB'); (have RG := Lib.hid hr); (clear hr))
      | (go_at_call 14; (with_reducible refine (C4.out _ _ ?_ ?_).mono ?_); (· (repeat (first | with_reducible exact HB.out | with_reducible exact Below.refl _ _ | with_reducible refine below_drew ?_ | with_reducible refine below_drewN ?_ _ | with_reducible refine below_al ?_ _))); (· with_reducible exact heap_alloc_new _ _); rintro e w'' ⟨go, gc, rfl, hr, hb⟩; (have HB' : Below wd.heap.size wd w'' := by ((refine below_tr ?_ hb); (repeat (first | with_reducible exact HB.out | with_reducible exact Below.refl _ _ | with_reducible refine below_drew ?_ | with_reducible refine below_drewN ?_ _ | with_reducible refine below_al ?_ _)))); (clear hb); (have HB := Lib.hid HB'); (clear HB'); (have RL := Lib.hid hr); (clear hr))
      | (go_at_call 10; (first | (with_reducible refine (IX.out _).mono ?_) | (with_reducible refine (IY.out _).mono ?_) | ((with_reducible refine (IZ.out _ _ ?_ RG.out).mono ?_); (· (repeat (first | with_reducible exact HB.out | with_reducible exact Below.refl _ _ | with_reducible refine below_drew ?_ | with_reducible refine below_drewN ?_ _ | with_reducible refine below_al ?_ _)))) | ((with_reducible refine (IW.out _ _ ?_ RL.out).mono ?_); (· (repeat (first | with_reducible exact HB.out | with_reducible exact Below.refl _ _ | with_reducible refine below_drew ?_ | with_reducible refine below_drewN ?_ _ | with_reducible refine below_al ?_ _))))); rintro e w'' ⟨rfl, hb⟩; (have HB' : Below wd.heap.size wd w'' := by ((refine below_tr ?_ hb); (repeat (first | with_reducible exact HB.out | with_reducible exact Below.refl _ _ | with_reducible refine below_drew ?_ | with_reducible refine below_drewN ?_ _ | with_reducible refine below_al ?_ _)))); (clear hb); (have HB := Lib.hid HB'); (clear HB'))
      | (go_at_call 15; (with_reducible refine (lnum _ _).mono ?_); rintro e w'' ⟨rfl, rfl⟩)
      | (go_at_call 16; (first | ((with_reducible refine (CA.out _ ?_).mono ?_); (· (repeat (first | with_reducible exact HB.out | with_reducible exact Below.refl _ _ | with_reducible refine below_drew ?_ | with_reducible refine below_drewN ?_ _ | with_reducible refine below_al ?_ _)))) | (with_reducible refine (MYY.out _).mono ?_)); rintro e w'' ⟨rfl, hb⟩; (have HB' : Below wd.heap.size wd w'' := by ((refine below_tr ?_ hb); (repeat (first | with_reducible exact HB.out | with_reducible exact Below.refl _ _ | with_reducible refine below_drew ?_ | with_reducible refine below_drewN ?_ _ | with_reducible refine below_al ?_ _)))); (clear hb); (have HB := Lib.hid HB'); (clear HB'))
      | (go_at_call 4; (with_reducible refine (law_awake _).mono ?_); rintro e w'' ⟨rfl, hb⟩; (have HB' : Below wd.heap.size wd w'' := by ((refine below_tr ?_ hb); (repeat (first | with_reducible exact HB.out | with_reducible exact Below.refl _ _ | with_reducible refine below_drew ?_ | with_reducible refine below_drewN ?_ _ | with_reducible refine below_al ?_ _)))); (clear hb); (have HB := Lib.hid HB'); (clear HB')))
    all_goals go_wp2
    all_goals go_ret
    all_goals exact ⟨rfl, below_tr K.out HB.out⟩
  · have gy : (y.2 != 0) = true := by simpa using hy
    clear hy MY
    refine wp_region_held_drew (S := (fun w' => w'.cell? ⟨GA, 0, none⟩ = some (.int .i64 a.kind) ∧ w'.cell? ⟨GA, 1, none⟩ = some (.int .i64 a.num) ∧ w'.cell? ⟨GA, 2, none⟩ = some (.string a.text) ∧ w'.cell? ⟨GA, 3, none⟩ = some (.slice lao a.kids.length lac) ∧ w'.cell? ⟨GB, 0, none⟩ = some (.int .i64 b.kind) ∧ w'.cell? ⟨GB, 1, none⟩ = some (.int .i64 b.num) ∧ w'.cell? ⟨GB, 2, none⟩ = some (.string b.text) ∧ w'.cell? ⟨GB, 3, none⟩ = some (.slice lbo b.kids.length lbc) ∧ w'.cell? ⟨GX, 0, none⟩ = some (.int .i64 x.1.kind) ∧ w'.cell? ⟨GX, 1, none⟩ = some (.int .i64 x.1.num) ∧ w'.cell? ⟨GX, 2, none⟩ = some (.string x.1.text) ∧ w'.cell? ⟨GX, 3, none⟩ = some (.slice none 0 0) ∧ w'.cell? ⟨GY, 0, none⟩ = some (.int .i64 y.1.kind) ∧ w'.cell? ⟨GY, 1, none⟩ = some (.int .i64 y.1.num) ∧ w'.cell? ⟨GY, 2, none⟩ = some (.string y.1.text) ∧ w'.cell? ⟨GY, 3, none⟩ = some (.slice none 0 0) ∧ w'.cell? ⟨GZ, 0, none⟩ = some (.int .i64 z.1.kind) ∧ w'.cell? ⟨GZ, 1, none⟩ = some (.int .i64 z.1.num) ∧ w'.cell? ⟨GZ, 2, none⟩ = some (.string z.1.text) ∧ w'.cell? ⟨GZ, 3, none⟩ = some (.slice zo z.1.kids.length zc) ∧ w'.cell? ⟨GW, 0, none⟩ = some (.int .i64 4) ∧ w'.cell? ⟨GW, 1, none⟩ = some (.int .i64 0) ∧ w'.cell? ⟨GW, 2, none⟩ = some (.string ⟨#[]⟩) ∧ w'.cell? ⟨GW, 3, none⟩ = some (.slice wo 3 wc))) (by kernel_rfl) (by (with_reducible refine SIX.out _ ?_); (repeat (first | with_reducible exact HB.out | with_reducible exact Below.refl _ _ | with_reducible refine below_drew ?_ | with_reducible refine below_drewN ?_ _ | with_reducible refine below_al ?_ _))) (fun hHeld => ?_)
    refine wpAnyH_take (i := 0) (v := ?_) rfl (by kernel_rfl) (by kernel_rfl) (by kernel_rfl) (fun _ _ _ h => h) (Or.inl ⟨by rfl, ?_⟩) (by assumption) ?_
    rotate_left
    · (intro w hSw; (try dsimp only at hSw); go_simp <;> with_reducible rfl)
    simp only [Act.put, List.getElem_toArray, List.getElem_cons_zero, List.getElem_cons_succ, List.setIfInBounds_toArray, List.set_cons_zero, List.set_cons_succ]
    refine wpAnyH_take (i := 1) (v := ?_) rfl (by kernel_rfl) (by kernel_rfl) (by kernel_rfl) (fun _ _ _ h => h) (Or.inl ⟨by rfl, ?_⟩) (by assumption) ?_
    rotate_left
    · (intro w hSw; (try dsimp only at hSw); go_simp <;> with_reducible rfl)
    simp only [Act.put, List.getElem_toArray, List.getElem_cons_zero, List.getElem_cons_succ, List.setIfInBounds_toArray, List.set_cons_zero, List.set_cons_succ]
    refine wpAnyH_take (i := 2) (v := ?_) rfl (by kernel_rfl) (by kernel_rfl) (by kernel_rfl) (fun _ _ _ h => h) (Or.inl ⟨by rfl, ?_⟩) (by assumption) ?_
    rotate_left
    · (intro w hSw; (try dsimp only at hSw); go_simp <;> with_reducible rfl)
    simp only [Act.put, List.getElem_toArray, List.getElem_cons_zero, List.getElem_cons_succ, List.setIfInBounds_toArray, List.set_cons_zero, List.set_cons_succ]
    refine wpAnyH_take (i := 3) (v := ?_) rfl (by kernel_rfl) (by kernel_rfl) (by kernel_rfl) (fun _ _ _ h => h) (Or.inl ⟨by rfl, ?_⟩) (by assumption) ?_
    rotate_left
    · (intro w hSw; (try dsimp only at hSw); go_simp <;> with_reducible rfl)
    simp only [Act.put, List.getElem_toArray, List.getElem_cons_zero, List.getElem_cons_succ, List.setIfInBounds_toArray, List.set_cons_zero, List.set_cons_succ]
    refine wpAnyH_ready (rs := [4]) (by kernel_rfl) (by simp) ?_
    refine AllReadyH.cons rfl (fun K hK => ?_) AllReadyH.nil
    try simp only [List.getElem_toArray, List.getElem_cons_zero, List.getElem_cons_succ]
    go_simp
    (go_at_call 11; (with_reducible refine (C1.out _ ?_).mono ?_); (· (repeat (first | with_reducible exact HB.out | with_reducible exact Below.refl _ _ | with_reducible refine below_drew ?_ | with_reducible refine below_drewN ?_ _ | with_reducible refine below_al ?_ _))); rintro e w'' ⟨rfl, hb⟩; (have HB' : Below wd.heap.size wd w'' := by ((refine below_tr ?_ hb); (repeat (first | with_reducible exact HB.out | with_reducible exact Below.refl _ _ | with_reducible refine below_drew ?_ | with_reducible refine below_drewN ?_ _ | with_reducible refine below_al ?_ _)))); (clear hb); (have HB := Lib.hid HB'); (clear HB'))
    try go_wp2_with fail
    refine hK.out _ _ (by (try dsimp only); (with_reducible refine SIX.out _ ?_); (repeat (first | with_reducible exact HB.out | with_reducible exact Below.refl _ _ | with_reducible refine below_drew ?_ | with_reducible refine below_drewN ?_ _ | with_reducible refine below_al ?_ _))) (fun hHeld => ?_)
    clear hK K
    try simp only [Act.put, List.getElem_toArray, List.getElem_cons_zero, List.getElem_cons_succ, List.setIfInBounds_toArray, List.set_cons_zero, List.set_cons_succ]
    refine wpAnyH_ready (rs := [5]) (by kernel_rfl) (by simp) ?_
    refine AllReadyH.cons rfl (fun K hK => ?_) AllReadyH.nil
    try simp only [List.getElem_toArray, List.getElem_cons_zero, List.getElem_cons_succ]
    go_simp
    (go_at_call 10; (first | (with_reducible refine (IX.out _).mono ?_) | (with_reducible refine (IY.out _).mono ?_) | ((with_reducible refine (IZ.out _ _ ?_ RG.out).mono ?_); (· (repeat (first | with_reducible exact HB.out | with_reducible exact Below.refl _ _ | with_reducible refine below_drew ?_ | with_reducible refine below_drewN ?_ _ | with_reducible refine below_al ?_ _)))) | ((with_reducible refine (IW.out _ _ ?_ RL.out).mono ?_); (· (repeat (first | with_reducible exact HB.out | with_reducible exact Below.refl _ _ | with_reducible refine below_drew ?_ | with_reducible refine below_drewN ?_ _ | with_reducible refine below_al ?_ _))))); rintro e w'' ⟨rfl, hb⟩; (have HB' : Below wd.heap.size wd w'' := by ((refine below_tr ?_ hb); (repeat (first | with_reducible exact HB.out | with_reducible exact Below.refl _ _ | with_reducible refine below_drew ?_ | with_reducible refine below_drewN ?_ _ | with_reducible refine below_al ?_ _)))); (clear hb); (have HB := Lib.hid HB'); (clear HB'))
    try go_wp2_with fail
    refine hK.out _ _ (by (try dsimp only); (with_reducible refine SIX.out _ ?_); (repeat (first | with_reducible exact HB.out | with_reducible exact Below.refl _ _ | with_reducible refine below_drew ?_ | with_reducible refine below_drewN ?_ _ | with_reducible refine below_al ?_ _))) (fun hHeld => ?_)
    clear hK K
    try simp only [Act.put, List.getElem_toArray, List.getElem_cons_zero, List.getElem_cons_succ, List.setIfInBounds_toArray, List.set_cons_zero, List.set_cons_succ]
    refine wpAnyH_take (i := 6) (v := ?_) rfl (by kernel_rfl) (by kernel_rfl) (by kernel_rfl) (fun _ _ _ h => h) (Or.inl ⟨by rfl, ?_⟩) (by assumption) ?_
    rotate_left
    · (intro w hSw; (try dsimp only at hSw); go_simp <;> with_reducible rfl)
    simp only [Act.put, List.getElem_toArray, List.getElem_cons_zero, List.getElem_cons_succ, List.setIfInBounds_toArray, List.set_cons_zero, List.set_cons_succ]
    refine wpAnyH_take (i := 7) (v := ?_) rfl (by kernel_rfl) (by kernel_rfl) (by kernel_rfl) (fun _ _ _ h => h) (Or.inl ⟨by rfl, ?_⟩) (by assumption) ?_
    rotate_left
    · (intro w hSw; (try dsimp only at hSw); go_simp <;> with_reducible rfl)
    simp only [Act.put, List.getElem_toArray, List.getElem_cons_zero, List.getElem_cons_succ, List.setIfInBounds_toArray, List.set_cons_zero, List.set_cons_succ]
    refine wpAnyH_take (i := 8) (v := ?_) rfl (by kernel_rfl) (by kernel_rfl) (by kernel_rfl) (fun _ _ _ h => h) (Or.inl ⟨by rfl, ?_⟩) (by assumption) ?_
    rotate_left
    · (intro w hSw; (try dsimp only at hSw); go_simp <;> with_reducible rfl)
    simp only [Act.put, List.getElem_toArray, List.getElem_cons_zero, List.getElem_cons_succ, List.setIfInBounds_toArray, List.set_cons_zero, List.set_cons_succ]
    refine wpAnyH_take (i := 9) (v := ?_) rfl (by kernel_rfl) (by kernel_rfl) (by kernel_rfl) (fun _ _ _ h => h) (Or.inl ⟨by rfl, ?_⟩) (by assumption) ?_
    rotate_left
    · (intro w hSw; (try dsimp only at hSw); go_simp <;> with_reducible rfl)
    simp only [Act.put, List.getElem_toArray, List.getElem_cons_zero, List.getElem_cons_succ, List.setIfInBounds_toArray, List.set_cons_zero, List.set_cons_succ]
    refine wpAnyH_take (i := 10) (v := ?_) rfl (by kernel_rfl) (by kernel_rfl) (by kernel_rfl) (fun _ _ _ h => h) (Or.inl ⟨by rfl, ?_⟩) (by assumption) ?_
    rotate_left
    · (intro w hSw; (try dsimp only at hSw); go_simp <;> with_reducible rfl)
    simp only [Act.put, List.getElem_toArray, List.getElem_cons_zero, List.getElem_cons_succ, List.setIfInBounds_toArray, List.set_cons_zero, List.set_cons_succ]
    refine wpAnyH_take (i := 11) (v := ?_) rfl (by kernel_rfl) (by kernel_rfl) (by kernel_rfl) (fun _ _ _ h => h) (Or.inl ⟨by rfl, ?_⟩) (by assumption) ?_
    rotate_left
    · (intro w hSw; (try dsimp only at hSw); go_simp <;> with_reducible rfl)
    simp only [Act.put, List.getElem_toArray, List.getElem_cons_zero, List.getElem_cons_succ, List.setIfInBounds_toArray, List.set_cons_zero, List.set_cons_succ]
    refine wpAnyH_ready (rs := [12]) (by kernel_rfl) (by simp) ?_
    refine AllReadyH.cons rfl (fun K hK => ?_) AllReadyH.nil
    try simp only [List.getElem_toArray, List.getElem_cons_zero, List.getElem_cons_succ]
    go_simp
    (go_at_call 12; (with_reducible refine (C2.out _ ?_).mono ?_); (· (repeat (first | with_reducible exact HB.out | with_reducible exact Below.refl _ _ | with_reducible refine below_drew ?_ | with_reducible refine below_drewN ?_ _ | with_reducible refine below_al ?_ _))); rintro e w'' ⟨rfl, hb⟩; (have HB' : Below wd.heap.size wd w'' := by ((refine below_tr ?_ hb); (repeat (first | with_reducible exact HB.out | with_reducible exact Below.refl _ _ | with_reducible refine below_drew ?_ | with_reducible refine below_drewN ?_ _ | with_reducible refine below_al ?_ _)))); (clear hb); (have HB := Lib.hid HB'); (clear HB'))
    try go_wp2_with fail
    refine hK.out _ _ (by (try dsimp only); (with_reducible refine SIX.out _ ?_); (repeat (first | with_reducible exact HB.out | with_reducible exact Below.refl _ _ | with_reducible refine below_drew ?_ | with_reducible refine below_drewN ?_ _ | with_reducible refine below_al ?_ _))) (fun hHeld => ?_)
    clear hK K
    try simp only [Act.put, List.getElem_toArray, List.getElem_cons_zero, List.getElem_cons_succ, List.setIfInBounds_toArray, List.set_cons_zero, List.set_cons_succ]
    refine wpAnyH_ready (rs := [13]) (by kernel_rfl) (by simp) ?_
    refine AllReadyH.cons rfl (fun K hK => ?_) AllReadyH.nil
    try simp only [List.getElem_toArray, List.getElem_cons_zero, List.getElem_cons_succ]
    go_simp
    (go_at_call 10; (first | (with_reducible refine (IX.out _).mono ?_) | (with_reducible refine (IY.out _).mono ?_) | ((with_reducible refine (IZ.out _ _ ?_ RG.out).mono ?_); (· (repeat (first | with_reducible exact HB.out | with_reducible exact Below.refl _ _ | with_reducible refine below_drew ?_ | with_reducible refine below_drewN ?_ _ | with_reducible refine below_al ?_ _)))) | ((with_reducible refine (IW.out _ _ ?_ RL.out).mono ?_); (· (repeat (first | with_reducible exact HB.out | with_reducible exact Below.refl _ _ | with_reducible refine below_drew ?_ | with_reducible refine below_drewN ?_ _ | with_reducible refine below_al ?_ _))))); rintro e w'' ⟨rfl, hb⟩; (have HB' : Below wd.heap.size wd w'' := by ((refine below_tr ?_ hb); (repeat (first | with_reducible exact HB.out | with_reducible exact Below.refl _ _ | with_reducible refine below_drew ?_ | with_reducible refine below_drewN ?_ _ | with_reducible refine below_al ?_ _)))); (clear hb); (have HB := Lib.hid HB'); (clear HB'))
    try go_wp2_with fail
    refine hK.out _ _ (by (try dsimp only); (with_reducible refine SIX.out _ ?_); (repeat (first | with_reducible exact HB.out | with_reducible exact Below.refl _ _ | with_reducible refine below_drew ?_ | with_reducible refine below_drewN ?_ _ | with_reducible refine below_al ?_ _))) (fun hHeld => ?_)
    clear hK K
    try simp only [Act.put, List.getElem_toArray, List.getElem_cons_zero, List.getElem_cons_succ, List.setIfInBounds_toArray, List.set_cons_zero, List.set_cons_succ]
    refine wpAnyH_take (i := 14) (v := ?_) rfl (by kernel_rfl) (by kernel_rfl) (by kernel_rfl) (fun _ _ _ h => h) (Or.inl ⟨by rfl, ?_⟩) (by assumption) ?_
    rotate_left
    · (intro w hSw; (try dsimp only at hSw); go_simp <;> with_reducible rfl)
    simp only [Act.put, List.getElem_toArray, List.getElem_cons_zero, List.getElem_cons_succ, List.setIfInBounds_toArray, List.set_cons_zero, List.set_cons_succ]
    refine wpAnyH_take (i := 15) (v := ?_) rfl (by kernel_rfl) (by kernel_rfl) (by kernel_rfl) (fun _ _ _ h => h) (Or.inl ⟨by rfl, ?_⟩) (by assumption) ?_
    rotate_left
    · (intro w hSw; (try dsimp only at hSw); go_simp <;> with_reducible rfl)
    simp only [Act.put, List.getElem_toArray, List.getElem_cons_zero, List.getElem_cons_succ, List.setIfInBounds_toArray, List.set_cons_zero, List.set_cons_succ]
    refine wpAnyH_take (i := 16) (v := ?_) rfl (by kernel_rfl) (by kernel_rfl) (by kernel_rfl) (fun _ _ _ h => h) (Or.inl ⟨by rfl, ?_⟩) (by assumption) ?_
    rotate_left
    · (intro w hSw; (try dsimp only at hSw); go_simp <;> with_reducible rfl)
    simp only [Act.put, List.getElem_toArray, List.getElem_cons_zero, List.getElem_cons_succ, List.setIfInBounds_toArray, List.set_cons_zero, List.set_cons_succ]
    refine wpAnyH_take (i := 17) (v := ?_) rfl (by kernel_rfl) (by kernel_rfl) (by kernel_rfl) (fun _ _ _ h => h) (Or.inl ⟨by rfl, ?_⟩) (by assumption) ?_
    rotate_left
    · (intro w hSw; (try dsimp only at hSw); go_simp <;> with_reducible rfl)
    simp only [Act.put, List.getElem_toArray, List.getElem_cons_zero, List.getElem_cons_succ, List.setIfInBounds_toArray, List.set_cons_zero, List.set_cons_succ]
    refine wpAnyH_take (i := 18) (v := ?_) rfl (by kernel_rfl) (by kernel_rfl) (by kernel_rfl) (fun _ _ _ h => h) (Or.inl ⟨by rfl, ?_⟩) (by assumption) ?_
    rotate_left
    · (intro w hSw; (try dsimp only at hSw); go_simp <;> with_reducible rfl)
    simp only [Act.put, List.getElem_toArray, List.getElem_cons_zero, List.getElem_cons_succ, List.setIfInBounds_toArray, List.set_cons_zero, List.set_cons_succ]
    refine wpAnyH_take (i := 19) (v := ?_) rfl (by kernel_rfl) (by kernel_rfl) (by kernel_rfl) (fun _ _ _ h => h) (Or.inl ⟨by rfl, ?_⟩) (by assumption) ?_
    rotate_left
    · (intro w hSw; (try dsimp only at hSw); go_simp <;> with_reducible rfl)
    simp only [Act.put, List.getElem_toArray, List.getElem_cons_zero, List.getElem_cons_succ, List.setIfInBounds_toArray, List.set_cons_zero, List.set_cons_succ]
    refine wpAnyH_ready (rs := [20]) (by kernel_rfl) (by simp) ?_
    refine AllReadyH.cons rfl (fun K hK => ?_) AllReadyH.nil
    try simp only [List.getElem_toArray, List.getElem_cons_zero, List.getElem_cons_succ]
    go_simp
    (go_at_call 13; (with_reducible refine (C3.out _ ?_).mono ?_); (· (repeat (first | with_reducible exact HB.out | with_reducible exact Below.refl _ _ | with_reducible refine below_drew ?_ | with_reducible refine below_drewN ?_ _ | with_reducible refine below_al ?_ _))); rintro e w'' ⟨go, gc, rfl, hr, hb⟩; (have HB' : Below wd.heap.size wd w'' := by ((refine below_tr ?_ hb); (repeat (first | with_reducible exact HB.out | with_reducible exact Below.refl _ _ | with_reducible refine below_drew ?_ | with_reducible refine below_drewN ?_ _ | with_reducible refine below_al ?_ _)))); (clear hb); (have HB := Lib.hid HB'); (clear HB'); (have RG := Lib.hid hr); (clear hr))
    try go_wp2_with fail
    refine hK.out _ _ (by (try dsimp only); (with_reducible refine SIX.out _ ?_); (repeat (first | with_reducible exact HB.out | with_reducible exact Below.refl _ _ | with_reducible refine below_drew ?_ | with_reducible refine below_drewN ?_ _ | with_reducible refine below_al ?_ _))) (fun hHeld => ?_)
    clear hK K
    try simp only [Act.put, List.getElem_toArray, List.getElem_cons_zero, List.getElem_cons_succ, List.setIfInBounds_toArray, List.set_cons_zero, List.set_cons_succ]
    refine wpAnyH_ready (rs := [21]) (by kernel_rfl) (by simp) ?_
    refine AllReadyH.cons rfl (fun K hK => ?_) AllReadyH.nil
    try simp only [List.getElem_toArray, List.getElem_cons_zero, List.getElem_cons_succ]
    go_simp
    (go_at_call 10; (first | (with_reducible refine (IX.out _).mono ?_) | (with_reducible refine (IY.out _).mono ?_) | ((with_reducible refine (IZ.out _ _ ?_ RG.out).mono ?_); (· (repeat (first | with_reducible exact HB.out | with_reducible exact Below.refl _ _ | with_reducible refine below_drew ?_ | with_reducible refine below_drewN ?_ _ | with_reducible refine below_al ?_ _)))) | ((with_reducible refine (IW.out _ _ ?_ RL.out).mono ?_); (· (repeat (first | with_reducible exact HB.out | with_reducible exact Below.refl _ _ | with_reducible refine below_drew ?_ | with_reducible refine below_drewN ?_ _ | with_reducible refine below_al ?_ _))))); rintro e w'' ⟨rfl, hb⟩; (have HB' : Below wd.heap.size wd w'' := by ((refine below_tr ?_ hb); (repeat (first | with_reducible exact HB.out | with_reducible exact Below.refl _ _ | with_reducible refine below_drew ?_ | with_reducible refine below_drewN ?_ _ | with_reducible refine below_al ?_ _)))); (clear hb); (have HB := Lib.hid HB'); (clear HB'))
    try go_wp2_with fail
    refine hK.out _ _ (by (try dsimp only); (with_reducible refine SIX.out _ ?_); (repeat (first | with_reducible exact HB.out | with_reducible exact Below.refl _ _ | with_reducible refine below_drew ?_ | with_reducible refine below_drewN ?_ _ | with_reducible refine below_al ?_ _))) (fun hHeld => ?_)
    clear hK K
    try simp only [Act.put, List.getElem_toArray, List.getElem_cons_zero, List.getElem_cons_succ, List.setIfInBounds_toArray, List.set_cons_zero, List.set_cons_succ]
    refine wpAnyH_take (i := 22) (v := ?_) rfl (by kernel_rfl) (by kernel_rfl) (by kernel_rfl) (fun _ _ _ h => h) (Or.inl ⟨by rfl, ?_⟩) (by assumption) ?_
    rotate_left
    · (intro w hSw; (try dsimp only at hSw); go_simp <;> with_reducible rfl)
    simp only [Act.put, List.getElem_toArray, List.getElem_cons_zero, List.getElem_cons_succ, List.setIfInBounds_toArray, List.set_cons_zero, List.set_cons_succ]
    refine wpAnyH_take (i := 23) (v := ?_) rfl (by kernel_rfl) (by kernel_rfl) (by kernel_rfl) (fun _ _ _ h => h) (Or.inl ⟨by rfl, ?_⟩) (by assumption) ?_
    rotate_left
    · (intro w hSw; (try dsimp only at hSw); go_simp <;> with_reducible rfl)
    simp only [Act.put, List.getElem_toArray, List.getElem_cons_zero, List.getElem_cons_succ, List.setIfInBounds_toArray, List.set_cons_zero, List.set_cons_succ]
    refine wpAnyH_take (i := 24) (v := ?_) rfl (by kernel_rfl) (by kernel_rfl) (by kernel_rfl) (fun _ _ _ h => h) (Or.inl ⟨by rfl, ?_⟩) (by assumption) ?_
    rotate_left
    · (intro w hSw; (try dsimp only at hSw); go_simp <;> with_reducible rfl)
    simp only [Act.put, List.getElem_toArray, List.getElem_cons_zero, List.getElem_cons_succ, List.setIfInBounds_toArray, List.set_cons_zero, List.set_cons_succ]
    refine wpAnyH_take (i := 25) (v := ?_) rfl (by kernel_rfl) (by kernel_rfl) (by kernel_rfl) (fun _ _ _ h => h) (Or.inl ⟨by rfl, ?_⟩) (by assumption) ?_
    rotate_left
    · (intro w hSw; (try dsimp only at hSw); go_simp <;> with_reducible rfl)
    simp only [Act.put, List.getElem_toArray, List.getElem_cons_zero, List.getElem_cons_succ, List.setIfInBounds_toArray, List.set_cons_zero, List.set_cons_succ]
    refine wpAnyH_take (i := 26) (v := ?_) rfl (by kernel_rfl) (by kernel_rfl) (by kernel_rfl) (fun _ _ _ h => h) (Or.inl ⟨by rfl, ?_⟩) (by assumption) ?_
    rotate_left
    · (intro w hSw; (try dsimp only at hSw); go_simp <;> with_reducible rfl)
    simp only [Act.put, List.getElem_toArray, List.getElem_cons_zero, List.getElem_cons_succ, List.setIfInBounds_toArray, List.set_cons_zero, List.set_cons_succ]
    refine wpAnyH_take (i := 27) (v := ?_) rfl (by kernel_rfl) (by kernel_rfl) (by kernel_rfl) (fun _ _ _ h => h) (Or.inl ⟨by rfl, ?_⟩) (by assumption) ?_
    rotate_left
    · (intro w hSw; (try dsimp only at hSw); go_simp <;> with_reducible rfl)
    simp only [Act.put, List.getElem_toArray, List.getElem_cons_zero, List.getElem_cons_succ, List.setIfInBounds_toArray, List.set_cons_zero, List.set_cons_succ]
    refine wpAnyH_take (i := 28) (v := ?_) rfl (by kernel_rfl) (by kernel_rfl) (by kernel_rfl) (fun _ _ _ h => h) (Or.inl ⟨by rfl, ?_⟩) (by assumption) ?_
    rotate_left
    · (intro w hSw; (try dsimp only at hSw); go_simp <;> with_reducible rfl)
    simp only [Act.put, List.getElem_toArray, List.getElem_cons_zero, List.getElem_cons_succ, List.setIfInBounds_toArray, List.set_cons_zero, List.set_cons_succ]
    refine wpAnyH_ready (rs := [29]) (by kernel_rfl) (by simp) ?_
    refine AllReadyH.cons rfl (fun K hK => ?_) AllReadyH.nil
    try simp only [List.getElem_toArray, List.getElem_cons_zero, List.getElem_cons_succ]
    go_simp
    refine hK.out _ _ (by (try dsimp only); (with_reducible refine SIX.out _ ?_); (repeat (first | with_reducible exact HB.out | with_reducible exact Below.refl _ _ | with_reducible refine below_drew ?_ | with_reducible refine below_drewN ?_ _ | with_reducible refine below_al ?_ _))) (fun hHeld => ?_)
    clear hK K
    try simp only [Act.put, List.getElem_toArray, List.getElem_cons_zero, List.getElem_cons_succ, List.setIfInBounds_toArray, List.set_cons_zero, List.set_cons_succ]
    refine wpAnyH_ready (rs := [30]) (by kernel_rfl) (by simp) ?_
    refine AllReadyH.cons rfl (fun K hK => ?_) AllReadyH.nil
    try simp only [List.getElem_toArray, List.getElem_cons_zero, List.getElem_cons_succ]
    go_simp
    (go_at_call 14; (with_reducible refine (C4.out _ _ ?_ ?_).mono ?_); (· (repeat (first | with_reducible exact HB.out | with_reducible exact Below.refl _ _ | with_reducible refine below_drew ?_ | with_reducible refine below_drewN ?_ _ | with_reducible refine below_al ?_ _))); (· with_reducible exact heap_alloc_new _ _); rintro e w'' ⟨go, gc, rfl, hr, hb⟩; (have HB' : Below wd.heap.size wd w'' := by ((refine below_tr ?_ hb); (repeat (first | with_reducible exact HB.out | with_reducible exact Below.refl _ _ | with_reducible refine below_drew ?_ | with_reducible refine below_drewN ?_ _ | with_reducible refine below_al ?_ _)))); (clear hb); (have HB := Lib.hid HB'); (clear HB'); (have RL := Lib.hid hr); (clear hr))
    try go_wp2_with fail
    refine hK.out _ _ (by (try dsimp only); (with_reducible refine SIX.out _ ?_); (repeat (first | with_reducible exact HB.out | with_reducible exact Below.refl _ _ | with_reducible refine below_drew ?_ | with_reducible refine below_drewN ?_ _ | with_reducible refine below_al ?_ _))) (fun hHeld => ?_)
    clear hK K
    try simp only [Act.put, List.getElem_toArray, List.getElem_cons_zero, List.getElem_cons_succ, List.setIfInBounds_toArray, List.set_cons_zero, List.set_cons_succ]
    refine wpAnyH_ready (rs := [31]) (by kernel_rfl) (by simp) ?_
    refine AllReadyH.cons rfl (fun K hK => ?_) AllReadyH.nil
    try simp only [List.getElem_toArray, List.getElem_cons_zero, List.getElem_cons_succ]
    go_simp
    (go_at_call 10; (first | (with_reducible refine (IX.out _).mono ?_) | (with_reducible refine (IY.out _).mono ?_) | ((with_reducible refine (IZ.out _ _ ?_ RG.out).mono ?_); (· (repeat (first | with_reducible exact HB.out | with_reducible exact Below.refl _ _ | with_reducible refine below_drew ?_ | with_reducible refine below_drewN ?_ _ | with_reducible refine below_al ?_ _)))) | ((with_reducible refine (IW.out _ _ ?_ RL.out).mono ?_); (· (repeat (first | with_reducible exact HB.out | with_reducible exact Below.refl _ _ | with_reducible refine below_drew ?_ | with_reducible refine below_drewN ?_ _ | with_reducible refine below_al ?_ _))))); rintro e w'' ⟨rfl, hb⟩; (have HB' : Below wd.heap.size wd w'' := by ((refine below_tr ?_ hb); (repeat (first | with_reducible exact HB.out | with_reducible exact Below.refl _ _ | with_reducible refine below_drew ?_ | with_reducible refine below_drewN ?_ _ | with_reducible refine below_al ?_ _)))); (clear hb); (have HB := Lib.hid HB'); (clear HB'))
    try go_wp2_with fail
    refine hK.out _ _ (by (try dsimp only); (with_reducible refine SIX.out _ ?_); (repeat (first | with_reducible exact HB.out | with_reducible exact Below.refl _ _ | with_reducible refine below_drew ?_ | with_reducible refine below_drewN ?_ _ | with_reducible refine below_al ?_ _))) (fun hHeld => ?_)
    clear hK K
    try simp only [Act.put, List.getElem_toArray, List.getElem_cons_zero, List.getElem_cons_succ, List.setIfInBounds_toArray, List.set_cons_zero, List.set_cons_succ]
    refine wpAnyH_take (i := 32) (v := ?_) rfl (by kernel_rfl) (by kernel_rfl) (by kernel_rfl) (fun _ _ _ h => h) (Or.inl ⟨by rfl, ?_⟩) (by assumption) ?_
    rotate_left
    · (intro w hSw; (try dsimp only at hSw); go_simp <;> with_reducible rfl)
    simp only [Act.put, List.getElem_toArray, List.getElem_cons_zero, List.getElem_cons_succ, List.setIfInBounds_toArray, List.set_cons_zero, List.set_cons_succ]
    refine wpAnyH_take (i := 33) (v := ?_) rfl (by kernel_rfl) (by kernel_rfl) (by kernel_rfl) (fun _ _ _ h => h) (Or.inl ⟨by rfl, ?_⟩) (by assumption) ?_
    rotate_left
    · (intro w hSw; (try dsimp only at hSw); go_simp <;> with_reducible rfl)
    simp only [Act.put, List.getElem_toArray, List.getElem_cons_zero, List.getElem_cons_succ, List.setIfInBounds_toArray, List.set_cons_zero, List.set_cons_succ]
    refine wpAnyH_take (i := 34) (v := ?_) rfl (by kernel_rfl) (by kernel_rfl) (by kernel_rfl) (fun _ _ _ h => h) (Or.inl ⟨by rfl, ?_⟩) (by assumption) ?_
    rotate_left
    · (intro w hSw; (try dsimp only at hSw); go_simp <;> with_reducible rfl)
    simp only [Act.put, List.getElem_toArray, List.getElem_cons_zero, List.getElem_cons_succ, List.setIfInBounds_toArray, List.set_cons_zero, List.set_cons_succ]
    refine wpAnyH_ready (rs := [35]) (by kernel_rfl) (by simp) ?_
    refine AllReadyH.cons rfl (fun K hK => ?_) AllReadyH.nil
    try simp only [List.getElem_toArray, List.getElem_cons_zero, List.getElem_cons_succ]
    go_simp
    (go_at_call 15; (with_reducible refine (lnum _ _).mono ?_); rintro e w'' ⟨rfl, rfl⟩)
    try go_wp2_with fail
    refine hK.out _ _ (by (try dsimp only); (with_reducible refine SIX.out _ ?_); (repeat (first | with_reducible exact HB.out | with_reducible exact Below.refl _ _ | with_reducible refine below_drew ?_ | with_reducible refine below_drewN ?_ _ | with_reducible refine below_al ?_ _))) (fun hHeld => ?_)
    clear hK K
    try simp only [Act.put, List.getElem_toArray, List.getElem_cons_zero, List.getElem_cons_succ, List.setIfInBounds_toArray, List.set_cons_zero, List.set_cons_succ]
    refine wpAnyH_take (i := 36) (v := ?_) rfl (by kernel_rfl) (by kernel_rfl) (by kernel_rfl) (fun _ _ _ h => h) (Or.inl ⟨by rfl, ?_⟩) (by assumption) ?_
    rotate_left
    · (intro w hSw; (try dsimp only at hSw); go_simp <;> with_reducible rfl)
    simp only [Act.put, List.getElem_toArray, List.getElem_cons_zero, List.getElem_cons_succ, List.setIfInBounds_toArray, List.set_cons_zero, List.set_cons_succ]
    refine wpAnyH_take (i := 37) (v := ?_) rfl (by kernel_rfl) (by kernel_rfl) (by kernel_rfl) (fun _ _ _ h => h) (Or.inl ⟨by rfl, ?_⟩) (by assumption) ?_
    rotate_left
    · (intro w hSw; (try dsimp only at hSw); go_simp <;> with_reducible rfl)
    simp only [Act.put, List.getElem_toArray, List.getElem_cons_zero, List.getElem_cons_succ, List.setIfInBounds_toArray, List.set_cons_zero, List.set_cons_succ]
    refine wpAnyH_take (i := 38) (v := undef) rfl (by kernel_rfl) (by kernel_rfl) (by kernel_rfl) (fun _ _ _ h => h) (Or.inr ⟨by rfl, rfl⟩) (by assumption) ?_
    simp only [Act.put, List.getElem_toArray, List.getElem_cons_zero, List.getElem_cons_succ, List.setIfInBounds_toArray, List.set_cons_zero, List.set_cons_succ]
    refine wpAnyH_ready (rs := [39]) (by kernel_rfl) (by simp) ?_
    refine AllReadyH.cons rfl (fun K hK => ?_) AllReadyH.nil
    try simp only [List.getElem_toArray, List.getElem_cons_zero, List.getElem_cons_succ]
    go_simp
    refine hK.out _ _ (by (try dsimp only); (with_reducible refine SIX.out _ ?_); (repeat (first | with_reducible exact HB.out | with_reducible exact Below.refl _ _ | with_reducible refine below_drew ?_ | with_reducible refine below_drewN ?_ _ | with_reducible refine below_al ?_ _))) (fun hHeld => ?_)
    clear hK K
    try simp only [Act.put, List.getElem_toArray, List.getElem_cons_zero, List.getElem_cons_succ, List.setIfInBounds_toArray, List.set_cons_zero, List.set_cons_succ]
    refine wpAnyH_take (i := 40) (v := ?_) rfl (by kernel_rfl) (by kernel_rfl) (by kernel_rfl) (fun _ _ _ h => h) (Or.inl ⟨by rfl, ?_⟩) (by assumption) ?_
    rotate_left
    · (intro w hSw; (try dsimp only at hSw); go_simp <;> with_reducible rfl)
    simp only [Act.put, List.getElem_toArray, List.getElem_cons_zero, List.getElem_cons_succ, List.setIfInBounds_toArray, List.set_cons_zero, List.set_cons_succ]
    refine wpAnyH_take (i := 41) (v := ?_) rfl (by kernel_rfl) (by kernel_rfl) (by kernel_rfl) (fun _ _ _ h => h) (Or.inl ⟨by rfl, ?_⟩) (by assumption) ?_
    rotate_left
    · (intro w hSw; (try dsimp only at hSw); go_simp <;> with_reducible rfl)
    simp only [Act.put, List.getElem_toArray, List.getElem_cons_zero, List.getElem_cons_succ, List.setIfInBounds_toArray, List.set_cons_zero, List.set_cons_succ]
    refine wpAnyH_take (i := 42) (v := ?_) rfl (by kernel_rfl) (by kernel_rfl) (by kernel_rfl) (fun _ _ _ h => h) (Or.inl ⟨by rfl, ?_⟩) (by assumption) ?_
    rotate_left
    · (intro w hSw; (try dsimp only at hSw); go_simp <;> with_reducible rfl)
    simp only [Act.put, List.getElem_toArray, List.getElem_cons_zero, List.getElem_cons_succ, List.setIfInBounds_toArray, List.set_cons_zero, List.set_cons_succ]
    refine wpAnyH_take (i := 43) (v := ?_) rfl (by kernel_rfl) (by kernel_rfl) (by kernel_rfl) (fun _ _ _ h => h) (Or.inl ⟨by rfl, ?_⟩) (by assumption) ?_
    rotate_left
    · (intro w hSw; (try dsimp only at hSw); go_simp <;> with_reducible rfl)
    simp only [Act.put, List.getElem_toArray, List.getElem_cons_zero, List.getElem_cons_succ, List.setIfInBounds_toArray, List.set_cons_zero, List.set_cons_succ]
    refine wpAnyH_ready (rs := [44]) (by kernel_rfl) (by simp) ?_
    refine AllReadyH.cons rfl (fun K hK => ?_) AllReadyH.nil
    try simp only [List.getElem_toArray, List.getElem_cons_zero, List.getElem_cons_succ]
    go_simp
    (go_at_call 16; (first | ((with_reducible refine (CA.out _ ?_).mono ?_); (· (repeat (first | with_reducible exact HB.out | with_reducible exact Below.refl _ _ | with_reducible refine below_drew ?_ | with_reducible refine below_drewN ?_ _ | with_reducible refine below_al ?_ _))))); rintro e w'' ⟨rfl, hb⟩; (have HB' : Below wd.heap.size wd w'' := by ((refine below_tr ?_ hb); (repeat (first | with_reducible exact HB.out | with_reducible exact Below.refl _ _ | with_reducible refine below_drew ?_ | with_reducible refine below_drewN ?_ _ | with_reducible refine below_al ?_ _)))); (clear hb); (have HB := Lib.hid HB'); (clear HB'))
    try go_wp2_with fail
    refine hK.out _ _ (by (try dsimp only); (with_reducible refine SIX.out _ ?_); (repeat (first | with_reducible exact HB.out | with_reducible exact Below.refl _ _ | with_reducible refine below_drew ?_ | with_reducible refine below_drewN ?_ _ | with_reducible refine below_al ?_ _))) (fun hHeld => ?_)
    clear hK K
    try simp only [Act.put, List.getElem_toArray, List.getElem_cons_zero, List.getElem_cons_succ, List.setIfInBounds_toArray, List.set_cons_zero, List.set_cons_succ]
    refine wpAnyH_take (i := 45) (v := ?_) rfl (by kernel_rfl) (by kernel_rfl) (by kernel_rfl) (fun _ _ _ h => h) (Or.inl ⟨by rfl, ?_⟩) (by assumption) ?_
    rotate_left
    · (intro w hSw; (try dsimp only at hSw); go_simp <;> with_reducible rfl)
    simp only [Act.put, List.getElem_toArray, List.getElem_cons_zero, List.getElem_cons_succ, List.setIfInBounds_toArray, List.set_cons_zero, List.set_cons_succ]
    refine wpAnyH_take (i := 46) (v := ?_) rfl (by kernel_rfl) (by kernel_rfl) (by kernel_rfl) (fun _ _ _ h => h) (Or.inl ⟨by rfl, ?_⟩) (by assumption) ?_
    rotate_left
    · (intro w hSw; (try dsimp only at hSw); go_simp <;> with_reducible rfl)
    simp only [Act.put, List.getElem_toArray, List.getElem_cons_zero, List.getElem_cons_succ, List.setIfInBounds_toArray, List.set_cons_zero, List.set_cons_succ]
    refine wpAnyH_ready (rs := [47]) (by kernel_rfl) (by simp) ?_
    refine AllReadyH.cons rfl (fun K hK => ?_) AllReadyH.nil
    try simp only [List.getElem_toArray, List.getElem_cons_zero, List.getElem_cons_succ]
    go_simp
    (go_at_call 4; (with_reducible refine (law_awake _).mono ?_); rintro e w'' ⟨rfl, hb⟩; (have HB' : Below wd.heap.size wd w'' := by ((refine below_tr ?_ hb); (repeat (first | with_reducible exact HB.out | with_reducible exact Below.refl _ _ | with_reducible refine below_drew ?_ | with_reducible refine below_drewN ?_ _ | with_reducible refine below_al ?_ _)))); (clear hb); (have HB := Lib.hid HB'); (clear HB'))
    try go_wp2_with fail
    refine hK.out _ _ (by (try dsimp only); (with_reducible refine SIX.out _ ?_); (repeat (first | with_reducible exact HB.out | with_reducible exact Below.refl _ _ | with_reducible refine below_drew ?_ | with_reducible refine below_drewN ?_ _ | with_reducible refine below_al ?_ _))) (fun hHeld => ?_)
    clear hK K
    try simp only [Act.put, List.getElem_toArray, List.getElem_cons_zero, List.getElem_cons_succ, List.setIfInBounds_toArray, List.set_cons_zero, List.set_cons_succ]
    refine wpAnyH_take (i := 48) (v := ?_) rfl (by kernel_rfl) (by kernel_rfl) (by kernel_rfl) (fun _ _ _ h => h) (Or.inl ⟨by rfl, ?_⟩) (by assumption) ?_
    rotate_left
    · (intro w hSw; (try dsimp only at hSw); go_simp <;> with_reducible rfl)
    simp only [Act.put, List.getElem_toArray, List.getElem_cons_zero, List.getElem_cons_succ, List.setIfInBounds_toArray, List.set_cons_zero, List.set_cons_succ]
    refine wpAnyH_take (i := 49) (v := ?_) rfl (by kernel_rfl) (by kernel_rfl) (by kernel_rfl) (fun _ _ _ h => h) (Or.inl ⟨by rfl, ?_⟩) (by assumption) ?_
    rotate_left
    · (intro w hSw; (try dsimp only at hSw); go_simp <;> with_reducible rfl)
    simp only [Act.put, List.getElem_toArray, List.getElem_cons_zero, List.getElem_cons_succ, List.setIfInBounds_toArray, List.set_cons_zero, List.set_cons_succ]
    refine wpAnyH_done (by kernel_rfl) ?_ _
    go_wp2
    go_ret
    exact ⟨rfl, below_tr K.out HB.out⟩
end
end Go.Proofs.Ythlilcgjjkkajaa
