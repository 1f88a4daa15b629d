/- Package vec: texts of amounts, on both sides. -/
import Derived.Test.YtjoakpgcflhfnaaDoorVecA
import Derived.Test.YtjoakpgcflhfnaaDoorDig
import Derived.Test.YtjoakpgcflhfnaaDoorMono
namespace Go.Proofs.YtjoakpgcflhfnaaDoor
open Go.RowKit
set_option linter.unusedVariables false
set_option linter.unusedSimpArgs false
section
variable (w : World)
def textV (v : V3) : ByteArray := (((((⟨#[99, 112, 117, 61]⟩ ++ itoaB v.c) ++ ⟨#[32, 109, 101, 109, 61]⟩) ++ itoaB v.m) ++ ⟨#[32, 112, 111, 100, 115, 61]⟩) ++ itoaB v.p)
set_option maxHeartbeats 4000000 in
set_option maxRecDepth 20000 in
theorem vtext_any (v : V3) (hv : v.I) (ht : TabOK w) : Calls Tryd.prog 8 #[.agg #[.int .i64 v.c, .int .i64 v.m, .int .i64 v.p]] w (Made (.string (textV v)) w) := by
  obtain ⟨h1, h2, h3⟩ := hv
  have s1 := itoaB_size _ h1
  have s2 := itoaB_size _ h2
  have s3 := itoaB_size _ h3
  have G := Lib.hid (fun n (h : -9223372036854775808 ≤ n ∧ n ≤ 9223372036854775807) W (hW : Below w.heap.size w W) => gitoa W n h (ht.below hW))
  have E := Lib.hid (show textV v = (((((⟨#[99, 112, 117, 61]⟩ ++ itoaB v.c) ++ ⟨#[32, 109, 101, 109, 61]⟩) ++ itoaB v.m) ++ ⟨#[32, 112, 111, 100, 115, 61]⟩) ++ itoaB v.p) from rfl)
  rw [E.out]
  have I1 := Lib.hid h1
  have I2 := Lib.hid h2
  have I3 := Lib.hid h3
  clear h1 h2 h3 ht
  generalize hc : itoaB v.c = cs at *
  generalize hm : itoaB v.m = ms at *
  generalize hp : itoaB v.p = ps at *
  have G1 := Lib.hid (fun W hW => hc ▸ G.out v.c I1.out W hW)
  have G2 := Lib.hid (fun W hW => hm ▸ G.out v.m I2.out W hW)
  have G3 := Lib.hid (fun W hW => hp ▸ G.out v.p I3.out W hW)
  clear hc hm hp G
  have n1 : ¬ 9223372036854775807 < 4 + cs.size := by omega
  have n2 : ¬ 9223372036854775807 < 4 + cs.size + 5 := by omega
  have n3 : ¬ 9223372036854775807 < 4 + cs.size + 5 + ms.size := by omega
  have n4 : ¬ 9223372036854775807 < 4 + cs.size + 5 + ms.size + 6 := by omega
  have n5 : ¬ 9223372036854775807 < 4 + cs.size + 5 + ms.size + 6 + ps.size := by omega
  go_enter Tryd.func8, Tryd.ntmps8
  go_wp2_with fail
  have B0 := Lib.hid (below_al (Below.refl w.heap.size w) (.cells #[.int .i64 v.c, .int .i64 v.m, .int .i64 v.p] 23))
  obtain ⟨q0, q1, q2, -⟩ := (CBlk.new w v).cells
  refine wp_region_mono (by kernel_rfl) (by kernel_rfl) ?_
  simp only [List.map_cons, List.map_nil]
  repeat (first
    | (apply wpM_is
       · (intro us W hW hg K hK
          clear hg
          have c0 := hold hW q0
          have c1 := hold hW q1
          have c2 := hold hW q2
          simp only [fillA]
          go_simp
          first
          | exact hK _ (Below.refl _ _)
          | ((with_reducible refine (G1.out _ (below_tr B0.out hW)).mono ?_); rintro e w' ⟨rfl, hb⟩; exact hK _ hb)
          | ((with_reducible refine (G2.out _ (below_tr B0.out hW)).mono ?_); rintro e w' ⟨rfl, hb⟩; exact hK _ hb)
          | ((with_reducible refine (G3.out _ (below_tr B0.out hW)).mono ?_); rintro e w' ⟨rfl, hb⟩; exact hK _ hb))
       simp only [setD, List.set_cons_zero, List.set_cons_succ]))
  intro us W hW hg
  simp only [fillA]
  clear hg
  go_wp2_with fail
  go_ret
  exact ⟨rfl, below_tr B0.out hW⟩
end
end Go.Proofs.YtjoakpgcflhfnaaDoor
