/- Package parse: Expr. -/
import Derived.Test.YtkbbhgipajhbnaaDoorParR0
namespace Go.Proofs.YtkbbhgipajhbnaaDoor
open Go.RowKit
set_option linter.unusedVariables false
set_option linter.unusedSimpArgs false
def exprT (N : Nat) (T : List TokL) : Option (Int × List NodeL) :=
  if 0 < T.length ∧ T.length ≤ 100000 then
    (treeE N T ⟨0, 0, [], 0⟩).bind fun (ns, S1) => (endS T S1).bind fun S2 => some (S2.f, if S2.f = 0 then ns else [])
  else none
def exprM (N : Nat) (s : ByteArray) : Option (Int × List NodeL) := if lexE s = 0 then exprT N (lexT s) else some (lexE s, [])
section
variable (s : ByteArray) (w : World)
def ExprPost (w : World) (er : Int) (ns : List NodeL) (e : Ending) (w' : World) : Prop :=
  ∃ v, e = .returned (.tuple #[v, .int .i64 er]) ∧ Below w.heap.size w w' ∧ NodesRd w' v ns
set_option maxHeartbeats 2000000 in
set_option maxRecDepth 20000 in
theorem pexpr (N : Nat) (er : Int) (ns : List NodeL) (hs : s.size ≤ maxLen) (hv : ErrVar w) (hr : exprM N s = some (er, ns)) :
    Calls Tryd.prog 10 #[.string s] w (ExprPost w er ns) := by
  have HL := Lib.hid hs
  have V := Lib.hid hv
  clear hs hv
  have nil : ∀ W : World, NodesRd W (.slice none 0 0) [] := fun W => ⟨[], ⟨none, 0, rfl, fun j u h => by simp at h⟩, rfl⟩
  have NIL := Lib.hid nil
  clear nil
  unfold exprM at hr
  by_cases he : lexE s = 0
  · rw [if_pos he] at hr
    have E0 := Lib.hid he
    clear he
    unfold exprT at hr
    split at hr
    · rename_i hT
      simp only [Option.bind_eq_some_iff, Prod.exists] at hr
      obtain ⟨rs, S1, h1, S2, h2, hr⟩ := hr
      simp only [Option.some.injEq, Prod.mk.injEq] at hr
      obtain ⟨rfl, hr⟩ := hr
      have HT := Lib.hid hT
      have E1 := Lib.hid h1
      have E2 := Lib.hid h2
      have ER := Lib.hid hr
      clear hT h1 h2 hr
      go_enter Tryd.func10, Tryd.ntmps10
      go_wp2_with fail
      refine (lex_rd s w HL.out V.out).mono ?_
      rw [LexRdPost.eq_def'', E0.out]
      rintro e w1 ⟨tv, rfl, hb1, ht1⟩
      obtain ⟨ao, cap, rfl, -⟩ := ht1.at
      have B1 := Lib.hid hb1
      have PN := Lib.hid (Pr.new (ty := 54) ht1 HT.out.2 HT.out.1)
      have A2 := Lib.hid (show Below w1.heap.size w1 (w1.alloc (.cells #[.slice ao (lexT s).length cap, .int .i64 0, .int .i64 0, .slice none 0 0, .int .i64 0] 54)) from (Below.refl _ _).alloc (Nat.le_refl _) _)
      generalize hC : ctxOf w1 (lexT s) (.slice ao (lexT s).length cap) 54 ht1 HT.out.2 = C at *
      have hCT : C.T = lexT s := by rw [← hC]; rfl
      have F1 := Lib.hid (show treeE N C.T ⟨0, 0, [], 0⟩ = some (rs, S1) by rw [hCT]; exact E1.out)
      have F2 := Lib.hid (show endS C.T S1 = some S2 by rw [hCT]; exact E2.out)
      clear E1 E2 hC hCT ht1 hb1
      go_upto_region 5 with fail
      generalize w1.alloc (.cells #[.slice ao (lexT s).length cap, .int .i64 0, .int .i64 0, .slice none 0 0, .int .i64 0] 54) = w2 at *
      go_wp2_with fail
      refine (ptree C _ _ nilv _ PN.out N _ _ F1.out).mono ?_
      rintro e w3 ⟨v, rfl, hni, k3, a3⟩
      obtain ⟨vao, vn, vcap, rfl⟩ : ∃ ao m cap, v = .slice ao m cap := by obtain ⟨ys, o, -⟩ := hni; exact own_slice o
      have K3 := Lib.hid k3
      have A3 := Lib.hid a3
      have V3 := Lib.hid hni
      clear k3 a3 hni
      go_wp2_with fail
      refine (pend0 C _ _ _ _ K3.out _ F2.out).mono ?_
      rintro e w4 ⟨rfl, k4, a4⟩
      have B4 := Lib.hid (B1.out.trans (((A2.out.trans ((A3.out.trans a4).toBelow (Nat.le_refl _) A2.out.size))).mono B1.out.size))
      have V4 := Lib.hid ((V3.out.keep (P := fun _ => True) (Keep.turn a4) trivial trivial).rd k4.old)
      clear k4 a4
      by_cases hf : S2.f = 0
      · have hb : ns = rs := by rw [← ER.out, if_pos hf]
        subst hb
        have FF := Lib.hid hf
        have g : (S2.f != 0) = false := by simpa using hf
        clear hf
        go_wp2_with fail
        go_ret2
        exact ⟨_, by rw [FF.out]; rfl, B4.out, V4.out⟩
      · have hb : ns = [] := by rw [← ER.out, if_neg hf]
        subst hb
        have g : (S2.f != 0) = true := by simpa using hf
        clear hf
        go_wp2_with fail
        go_ret2
        exact ⟨_, rfl, B4.out, NIL.out _⟩
    · simp at hr
  · rw [if_neg he] at hr
    simp only [Option.some.injEq, Prod.mk.injEq] at hr
    obtain ⟨rfl, rfl⟩ := hr
    have g : (lexE s != 0) = true := by simpa using he
    clear he
    go_enter Tryd.func10, Tryd.ntmps10
    go_wp2_with fail
    refine (lex_rd s w HL.out V.out).mono ?_
    rintro e w1 ⟨tv, rfl, hb1, ht1⟩
    obtain ⟨ao, cap, rfl, -⟩ := ht1.at
    have B1 := Lib.hid hb1
    clear hb1 ht1
    go_wp2_with fail
    go_ret2
    exact ⟨_, rfl, B1.out, NIL.out _⟩
end
end Go.Proofs.YtkbbhgipajhbnaaDoor
