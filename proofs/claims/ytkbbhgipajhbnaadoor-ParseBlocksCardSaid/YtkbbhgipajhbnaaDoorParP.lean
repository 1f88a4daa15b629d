/- Package parse: Parse, and the law's example. -/
import Derived.Test.YtkbbhgipajhbnaaDoorParO
namespace Go.Proofs.YtkbbhgipajhbnaaDoor
open Go.RowKit
set_option linter.unusedVariables false
set_option linter.unusedSimpArgs false

def blocks1 (N M : Nat) (T : List TokL) (S : PS) : Option (List BlockL × PS) := blocksE (blockE N M T true fun _ => none) T M [] S
def blocks0 (N M : Nat) (T : List TokL) (S : PS) : Option (List BlockL × PS) := blocksE (blockE N M T false (blocks1 N M T)) T M [] S
def parseT (N M : Nat) (T : List TokL) : Option (Int × List BlockL) :=
  if 0 < T.length ∧ T.length ≤ 100000 then
    (blocks0 N M T ⟨0, 0, [], 0⟩).bind fun (bs, S1) => (endS T S1).bind fun S2 => some (S2.f, if S2.f = 0 then bs else [])
  else none
def parseM (N M : Nat) (s : ByteArray) : Option (Int × List BlockL) := if lexE s = 0 then parseT N M (lexT s) else some (lexE s, [])
/-- Blocks as they were told. -/
def Parsed (w : World) (v : Value) (bs : List BlockL) : Prop := (bs = [] ∧ v = nilv) ∨ ∃ C b, BlocksIn C w b true v bs ∧ Below C.w0.heap.size C.w0 w
def ParsePost (w : World) (er : Int) (bs : List BlockL) (e : Ending) (w' : World) : Prop :=
  ∃ v, e = .returned (.tuple #[v, .int .i64 er]) ∧ Below w.heap.size w w' ∧ Parsed w' v bs
theorem Turn.toBelow {b B : Nat} {nv : Value} {x y : World} (h : Turn b nilv nv x y) (hB : B ≤ b) (hs : B ≤ x.heap.size) : Below B x y :=
  ⟨h.os, h.tape, h.output, h.size, fun i hi => h.block i (by omega) (by omega) (by simp [nilv, Value.ownBlock])⟩
/-- A new reader. -/
def ctxOf (w : World) (T : List TokL) (tv : Value) (ty : Nat) (h : ToksRd w tv T) (hf : T.length ≤ 100000) : Ctx := ⟨w, T, tv, ty, fun _ => False, h, hf⟩
theorem Pr.new {w : World} {T : List TokL} {tv : Value} {ty : Nat} (h : ToksRd w tv T) (hf : T.length ≤ 100000) (h0 : 0 < T.length) :
    Pr (ctxOf w T tv ty h hf) (w.alloc (.cells #[tv, .int .i64 0, .int .i64 0, .slice none 0 0, .int .i64 0] ty)) w.heap.size nilv ⟨0, 0, [], 0⟩ :=
  ⟨heap_alloc_new w _, (Below.refl _ _).alloc (Nat.le_refl _) _, Nat.le_refl _, ⟨[], World.ownsRow_nil _ _ _ _, rfl⟩, h0, fun _ h => h.elim⟩
section
variable (s : ByteArray) (w : World)
theorem pblocks1 (C : Ctx) (N M : Nat) (b : Nat) (w : World) (nv : Value) (S : PS) (rs : List BlockL) (S' : PS) (h : Pr C w b nv S) (hr : blocks1 N M C.T S = some (rs, S')) :
    Calls Tryd.prog 13 #[.pointer (some ⟨b, 0, none⟩), .bool true] w (BlksPost C b false w rs S') :=
  pblocks C b w nv S false _ (fun w nv S x S' h hx => pblock C b w nv S N M false _ (fun e => by cases e) h x S' hx) M h rs S' hr
theorem pblocks0 (C : Ctx) (N M : Nat) (b : Nat) (w : World) (nv : Value) (S : PS) (rs : List BlockL) (S' : PS) (h : Pr C w b nv S) (hr : blocks0 N M C.T S = some (rs, S')) :
    Calls Tryd.prog 13 #[.pointer (some ⟨b, 0, none⟩), .bool false] w (BlksPost C b true w rs S') :=
  pblocks C b w nv S true _ (fun w nv S x S' h hx => pblock C b w nv S N M true _ (fun _ w nv S rs S' h hr => pblocks1 C N M b w nv S rs S' h hr) h x S' hx) M h rs S' hr
theorem LexRdPost.eq_def'' (s : ByteArray) (w : World) : LexRdPost s w = fun e w' => ∃ v, e = .returned (.tuple #[v, .int .i64 (lexE s)]) ∧ Below w.heap.size w w' ∧ ToksRd w' v (lexT s) := rfl
set_option maxHeartbeats 2000000 in
set_option maxRecDepth 20000 in
theorem pparse (N M : Nat) (er : Int) (bs : List BlockL) (hs : s.size ≤ maxLen) (hv : ErrVar w) (hr : parseM N M s = some (er, bs)) :
    Calls Tryd.prog 7 #[.string s] w (ParsePost w er bs) := by
  have HL := Lib.hid hs
  have V := Lib.hid hv
  clear hs hv
  unfold parseM at hr
  by_cases he : lexE s = 0
  · rw [if_pos he] at hr
    have E0 := Lib.hid he
    clear he
    unfold parseT at hr
    split at hr
    · rename_i hT
      simp only [Option.bind_eq_some_iff, Prod.exists] at hr
      obtain ⟨rs, S1, h1, S2, h2, hr⟩ := hr
      simp only [Option.some.injEq, Prod.mk.injEq] at hr
      obtain ⟨rfl, hr⟩ := hr
      have HT := Lib.hid hT
      have E1 := Lib.hid h1
      have E2 := Lib.hid h2
      have ER := Lib.hid hr
      clear hT h1 h2 hr
      go_enter Tryd.func7, Tryd.ntmps7
      go_wp2_with fail
      refine (lex_rd s w HL.out V.out).mono ?_
      rw [LexRdPost.eq_def'', E0.out]
      rintro e w1 ⟨tv, rfl, hb1, ht1⟩
      obtain ⟨ao, cap, rfl, -⟩ := ht1.at
      have B1 := Lib.hid hb1
      have PN := Lib.hid (Pr.new (ty := 56) ht1 HT.out.2 HT.out.1)
      have A2 := Lib.hid (show Below w1.heap.size w1 (w1.alloc (.cells #[.slice ao (lexT s).length cap, .int .i64 0, .int .i64 0, .slice none 0 0, .int .i64 0] 56)) from (Below.refl _ _).alloc (Nat.le_refl _) _)
      generalize hC : ctxOf w1 (lexT s) (.slice ao (lexT s).length cap) 56 ht1 HT.out.2 = C at *
      have hCT : C.T = lexT s := by rw [← hC]; rfl
      have hCW : C.w0 = w1 := by rw [← hC]; rfl
      have F1 := Lib.hid (show blocks0 N M C.T ⟨0, 0, [], 0⟩ = some (rs, S1) by rw [hCT]; exact E1.out)
      have F2 := Lib.hid (show endS C.T S1 = some S2 by rw [hCT]; exact E2.out)
      have CW := Lib.hid hCW
      clear E1 E2 hC hCT hCW ht1 hb1
      go_upto_region 5 with fail
      generalize w1.alloc (.cells #[.slice ao (lexT s).length cap, .int .i64 0, .int .i64 0, .slice none 0 0, .int .i64 0] 56) = w2 at *
      go_wp2_with fail
      refine (pblocks0 C N M _ _ nilv _ _ _ PN.out F1.out).mono ?_
      rintro e w3 ⟨v, nv3, rfl, hbi, hfr, k3, a3⟩
      obtain ⟨vao, vn, vcap, rfl⟩ : ∃ ao m cap, v = .slice ao m cap := by obtain ⟨ys, o, -⟩ := hbi; exact own_slice o
      have K3 := Lib.hid k3
      have A3 := Lib.hid a3
      have V3 := Lib.hid hbi
      clear k3 a3 hbi hfr
      go_wp2_with fail
      refine (pend0 C _ _ nv3 _ K3.out _ F2.out).mono ?_
      rintro e w4 ⟨rfl, k4, a4⟩
      have B4 := Lib.hid (B1.out.trans (((A2.out.trans ((A3.out.trans a4).toBelow (Nat.le_refl _) A2.out.size))).mono B1.out.size))
      have V4 := Lib.hid (V3.out.turn a4)
      have O4 := Lib.hid k4.old
      clear k4 a4
      by_cases hf : S2.f = 0
      · have hb : bs = rs := by rw [← ER.out, if_pos hf]
        subst hb
        have FF := Lib.hid hf
        have g : (S2.f != 0) = false := by simpa using hf
        clear hf
        go_wp2_with fail
        go_ret2
        exact ⟨_, by rw [FF.out]; rfl, B4.out, .inr ⟨C, _, V4.out, O4.out⟩⟩
      · have hb : bs = [] := by rw [← ER.out, if_neg hf]
        subst hb
        have g : (S2.f != 0) = true := by simpa using hf
        clear hf
        go_wp2_with fail
        go_ret2
        exact ⟨_, rfl, B4.out, .inl ⟨rfl, rfl⟩⟩
    · simp at hr
  · rw [if_neg he] at hr
    simp only [Option.some.injEq, Prod.mk.injEq] at hr
    obtain ⟨rfl, rfl⟩ := hr
    have g : (lexE s != 0) = true := by simpa using he
    clear he
    go_enter Tryd.func7, Tryd.ntmps7
    go_wp2_with fail
    refine (lex_rd s w HL.out V.out).mono ?_
    rintro e w1 ⟨tv, rfl, hb1, ht1⟩
    obtain ⟨ao, cap, rfl, -⟩ := ht1.at
    have B1 := Lib.hid hb1
    clear hb1 ht1
    go_wp2_with fail
    go_ret2
    exact ⟨_, rfl, B1.out, .inl ⟨rfl, rfl⟩⟩
/-! ### The law's example -/
def exParse : ByteArray := ⟨#[110, 111, 100, 101, 32, 34, 97, 34, 32, 123, 32, 99, 112, 117, 32, 61, 32, 49, 32, 125]⟩
def exBlock : BlockL := .mk 3 ⟨#[97]⟩ [⟨⟨#[99, 112, 117]⟩, [⟨1, 1, ⟨#[]⟩, [], []⟩]⟩] []
theorem exParsed : parseM 20 4 exParse = some (0, [exBlock]) := by kernel_rfl
end
end Go.Proofs.YtkbbhgipajhbnaaDoor
