/- Shape: what package shape is asked for; the law's awake, same. -/
import Derived.Test.YtmpakgabehplbaaShF
import Derived.Test.YtmpakgabehplbaaAdC
import Derived.Test.YtmpakgabehplbaaTrGr
import Derived.Test.YtmpakgabehplbaaTrD
namespace Go.Proofs.Ytmpakgabehplbaa
open Go.RowKit
set_option linter.unusedVariables false
set_option linter.unusedSimpArgs false
/-- A row and a number. -/
def ShT (E : Nat) (l' : List I12) (W : World) : Ending → World → Prop := fun e w' => ∃ rv, e = .returned (.tuple #[rv, .int .i64 (E : Int)]) ∧ Below W.heap.size W w' ∧ IRow w' (if E = 0 then l' else []) rv
def CrC : Prop := ∀ (W : World) (l : List I12) (lv : Value) (s p : ByteArray) (v : V3), IRow W l lv → RT l → s.size ≤ maxLen → p.size ≤ maxLen → Calls Try.prog 13 #[lv, .string s, .string p, .agg #[.int .i64 v.c, .int .i64 v.m, .int .i64 v.p]] W (ShT (createE l s p v) (createL l s p v) W)
def LiC : Prop := ∀ (W : World) (l : List I12) (lv : Value) (s : ByteArray) (v : V3) (ver : Int), IRow W l lv → RT l → s.size ≤ maxLen → Calls Try.prog 14 #[lv, .string s, .agg #[.int .i64 v.c, .int .i64 v.m, .int .i64 v.p], .int .i64 ver] W (ShT (limE l s v ver) (limL l s v) W)
def MoC : Prop := ∀ (W : World) (l : List I12) (lv : Value) (s p : ByteArray) (ver : Int), IRow W l lv → RT l → s.size ≤ maxLen → p.size ≤ maxLen → Calls Try.prog 15 #[lv, .string s, .string p, .int .i64 ver] W (ShT (movE l s p ver) (movL l s p) W)
def DeC : Prop := ∀ (W : World) (l : List I12) (lv : Value) (s : ByteArray) (ver : Int), IRow W l lv → RT l → s.size ≤ maxLen → Calls Try.prog 16 #[lv, .string s, .int .i64 ver] W (ShT (delE l s ver) (delL l s) W)
def DoC : Prop := ∀ (W : World) (l : List I12) (lv : Value) (st : St6) (ver : Int), IRow W l lv → RT l → st.name.size ≤ maxLen → st.par.size ≤ maxLen → Calls Try.prog 17 #[lv, st.val, .int .i64 ver] W (ShT (doE l st ver) (doL l st) W)
theorem num15 (w : World) (x : Int) : Calls Try.prog 27 #[.int .i64 x] w fun e w' => e = .returned (.int .i64 x) ∧ w = w' := by
  go_enter Try.func27, Try.ntmps27
  go_wp2_with fail
  go_ret
  exact ⟨rfl, rfl⟩
def a1I : I12 := ⟨⟨#[97]⟩, ⟨#[]⟩, ⟨1, 0, 0⟩, z3, z3, 1⟩
theorem a1_cr : createE [] ⟨#[97]⟩ ⟨#[]⟩ ⟨1, 0, 0⟩ = 0 := by kernel_rfl
theorem a1_let : createL [] ⟨#[97]⟩ ⟨#[]⟩ ⟨1, 0, 0⟩ = [a1I] := by kernel_rfl
section
variable (w : World)
set_option maxHeartbeats 8000000 in
set_option maxRecDepth 20000 in
theorem law_awake15 (CC : CrC) : Calls Try.prog 12 #[] w (Made (.bool true) w) := by
  have R0 := Lib.hid (CC w [] (.slice none 0 0) ⟨#[97]⟩ ⟨#[]⟩ ⟨1, 0, 0⟩ (IRow.nil _) RT.nil (by decide) (by decide))
  simp only [a1_cr, a1_let] at R0
  have NU := Lib.hid (fun W x => num15 W x)
  clear CC
  go_enter Try.func12, Try.ntmps12
  go_wp2_with fail
  with_reducible refine R0.out.mono ?_
  rintro e w2 ⟨r2, rfl, hb, h2⟩
  have B2 := Lib.hid hb
  rw [if_pos rfl] at h2
  obtain ⟨ao, ac, rfl, -, -, hat⟩ := h2
  obtain ⟨g, o, rfl, hc⟩ := hat 0 a1I rfl
  obtain ⟨k0, k1, k2, k3, k4, k5, k6, k7, k8, k9, k10, k11⟩ := hc
  simp only [a1I, z3, Nat.zero_mul, Nat.add_zero, List.length_cons, List.length_nil, Nat.zero_add] at k0 k1 k2 k3 k4 k5 k6 k7 k8 k9 k10 k11
  clear hb hat R0
  simp only [List.length_cons, List.length_nil, Nat.zero_add]
  go_wp2_with (go_at_call 27; (with_reducible refine (NU.out _ _).mono ?_); rintro e w'' ⟨rfl, rfl⟩)
  go_ret
  exact ⟨rfl, B2.out⟩
set_option maxHeartbeats 8000000 in
set_option maxRecDepth 20000 in
theorem psame15 (L : List I12) (av gv : Value) (E : Nat) (ha : IRow w L av) (hg : IRow w L gv) (hl : L.length ≤ 120) : Calls Try.prog 18 #[av, .int .i64 (E : Int), .agg #[gv, .int .i64 (E : Int)]] w (Made (.bool true) w) := by
  obtain ⟨ao, ac, rfl⟩ := ha.shape
  obtain ⟨go, gc, rfl⟩ := hg.shape
  have BX := Lib.hid (below_al (Below.refl w.heap.size w) (.cells #[.slice go L.length gc, .int .i64 (E : Int)] 38))
  have G0 := Lib.hid (GBlk.new w (.slice go L.length gc) (E : Int))
  have SM := Lib.hid (fun W (hW : Below w.heap.size w W) => rsame W L L _ _ (ha.below hW) (hg.below hW) hl hl true (iff_of_true rfl rfl))
  have NU := Lib.hid (fun W x => num15 W x)
  obtain ⟨g0, g1⟩ := G0.out.cells
  clear ha hg
  go_enter Try.func18, Try.ntmps18
  go_wp2_with fail
  refine wp_region_mono (by kernel_rfl) (by kernel_rfl) ?_
  simp only [List.map_cons, List.map_nil, List.append_eq, List.cons_append, List.nil_append]
  repeat (first
    | (apply wpM_is
       · (intro us W hW hg K hK
          clear hg
          have d0 := hold hW g0
          have d1 := hold hW g1
          simp only [fillA]
          go_simp
          first
          | exact hK _ (Below.refl _ _)
          | ((with_reducible refine (SM.out _ (below_tr BX.out hW)).mono ?_); rintro e w' ⟨rfl, hb⟩; exact hK _ hb)
          | ((with_reducible refine (NU.out _ _).mono ?_); rintro e w' ⟨rfl, rfl⟩; exact hK _ (Below.refl _ _)))
       simp only [setD, List.set_cons_zero, List.set_cons_succ]))
  intro us W hW hg
  simp only [fillA]
  clear hg
  have BF := Lib.hid (below_tr BX.out hW)
  clear hW g0 g1
  go_wp2_with fail
  go_ret
  exact ⟨rfl, BF.out⟩
end
end Go.Proofs.Ytmpakgabehplbaa
