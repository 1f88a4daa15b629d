/- Package parse: Expr; the texts of the law of depth, by their bytes. -/
import Derived.Test.YtkbbhgipajhbnaaGreatDoorParU
import Derived.Test.YtkbbhgipajhbnaaGreatDoorLexL
namespace Go.Proofs.YtkbbhgipajhbnaaGreatDoor
open Go.RowKit
set_option linter.unusedVariables false
set_option linter.unusedSimpArgs false
def exprT (N : Nat) (T : List TokL) : Option (Int × List NodeL) :=
  if 0 < T.length ∧ T.length ≤ 100000 then
    (treeE N T ⟨0, 0, [], 0⟩).bind fun (ns, S1) => (endS T S1).bind fun S2 => some (S2.f, if S2.f = 0 then ns else [])
  else none
def exprM (N : Nat) (s : ByteArray) : Option (Int × List NodeL) := if lexE s = 0 then exprT N (lexT s) else some (lexE s, [])
theorem skipN_more : ∀ (n m : Nat) (l : List UInt8), l.length ≤ n → l.length ≤ m → skipN n l = skipN m l := by
  intro n
  induction n with
  | zero =>
    intro m l h1 h2
    have : l = [] := List.eq_nil_of_length_eq_zero (by omega)
    subst this
    cases m <;> rfl
  | succ n ih =>
    intro m l h1 h2
    match l with
    | [] => cases m <;> rfl
    | c :: r =>
      match m with
      | 0 => simp at h2
      | m + 1 =>
        simp only [List.length_cons] at h1 h2
        rw [skipN, skipN]
        split
        · rw [ih m r (by omega) (by omega)]
        · split
          · rename_i h35
            have hp : 0 < runLen inLineB (c :: r) := by
              subst h35
              unfold runLen
              rw [List.takeWhile_cons]
              simp [inLineB]
            rw [ih m _ (by rw [List.length_drop, List.length_cons]; omega) (by rw [List.length_drop, List.length_cons]; omega)]
          · rfl
def lexF : Nat → List UInt8 → Nat → Option (List TokL)
  | 0, _, _ => some []
  | n + 1, [], _ => some []
  | n + 1, c :: r, k => (tokL (c :: r)).bind fun q => (lexF n (((c :: r).drop q.2).drop (skipN 6000 ((c :: r).drop q.2))) (k + q.2 + skipN 6000 ((c :: r).drop q.2))).map (q.1.put k :: ·)
theorem lexF_eq : ∀ (n : Nat) (l : List UInt8) (k : Nat), l.length ≤ 6000 → lexF n l k = lexL n l k := by
  intro n
  induction n with
  | zero => intro l k h; rfl
  | succ n ih =>
    intro l k h
    match l with
    | [] => rfl
    | c :: r =>
      rw [lexF, lexL, if_neg (by simp)]
      cases tokL (c :: r) with
      | none => rfl
      | some q =>
        simp only [Option.bind_some]
        have hl : ((c :: r).drop q.2).length ≤ 6000 := by rw [List.length_drop]; omega
        have e : skipN 6000 ((c :: r).drop q.2) = gapN ((c :: r).drop q.2) := skipN_more _ _ _ hl (Nat.le_refl _)
        rw [e, ih _ _ (by rw [List.length_drop]; omega)]
def forceL {β : Type} : List UInt8 → (List UInt8 → β) → β
  | [], k => k []
  | c :: r, k => forceL r fun r' => k (c :: r')
def forceT {β : Type} (t : TokL) (k : TokL → β) : β := match t with | ⟨a, b, c, d, e⟩ => forceL b.data.toList fun l => k ⟨a, ⟨l.toArray⟩, c, d, e⟩
def forceTs {β : Type} : List TokL → (List TokL → β) → β
  | [], k => k []
  | t :: r, k => forceT t fun t' => forceTs r fun r' => k (t' :: r')
theorem forceL_eq {β : Type} : ∀ (l : List UInt8) (k : List UInt8 → β), forceL l k = k l := by
  intro l
  induction l with
  | nil => intro k; rfl
  | cons c r ih => intro k; rw [forceL, ih]
theorem forceT_eq {β : Type} (t : TokL) (k : TokL → β) : forceT t k = k t := by
  obtain ⟨a, b, c, d, e⟩ := t
  show forceL b.data.toList _ = _
  rw [forceL_eq]
theorem forceTs_eq {β : Type} : ∀ (l : List TokL) (k : List TokL → β), forceTs l k = k l := by
  intro l
  induction l with
  | nil => intro k; rfl
  | cons t r ih => intro k; rw [forceTs, forceT_eq, ih]
def lexAllF (l : List UInt8) : Option (List TokL) := lexF 6000 (l.drop (skipN 6000 l)) (skipN 6000 l)
theorem lexL_more : ∀ (n m : Nat) (l : List UInt8) (k : Nat), l.length ≤ n → l.length ≤ m → lexL n l k = lexL m l k := by
  intro n
  induction n with
  | zero =>
    intro m l k h1 h2
    have : l = [] := List.eq_nil_of_length_eq_zero (by omega)
    subst this
    cases m <;> rfl
  | succ n ih =>
    intro m l k h1 h2
    match l with
    | [] => cases m <;> rfl
    | c :: r =>
      match m with
      | 0 => simp at h2
      | m + 1 =>
        rw [lexL, lexL, if_neg (by simp), if_neg (by simp)]
        cases ht : tokL (c :: r) with
        | none => rfl
        | some q =>
          simp only [Option.bind_some]
          have hs : suf ⟨(c :: r).toArray⟩ 0 = c :: r := rfl
          have hsz : (⟨(c :: r).toArray⟩ : ByteArray).size = (c :: r).length := rfl
          have hg := tokAt_gt (s := ⟨(c :: r).toArray⟩) (k := 0) (by rw [hsz]; simp) (t := q.1.put 0) (k' := 0 + q.2) (by rw [tokAt_suf (by rw [hsz]; simp), hs, ht]; rfl)
          simp only [List.length_cons] at h1 h2
          rw [ih m _ _ (by rw [List.length_drop, List.length_drop, List.length_cons]; omega) (by rw [List.length_drop, List.length_drop, List.length_cons]; omega)]
theorem lexAllF_eq {l : List UInt8} (h : l.length ≤ 6000) : lexAllF l = lexAll l := by
  unfold lexAllF lexAll
  have e : skipN 6000 l = gapN l := skipN_more _ _ _ h (Nat.le_refl _)
  rw [e, lexF_eq _ _ _ (by rw [List.length_drop]; omega)]
  exact lexL_more _ _ _ _ (by rw [List.length_drop]; omega) (by rw [List.length_drop]; omega)
def exprL (N : Nat) (l : List UInt8) : Option (Int × List NodeL) := match lexAllF l with | some ts => forceTs (ts ++ [⟨0, ⟨#[]⟩, 0, [], l.length⟩]) (exprT N) | none => some (5, [])
theorem exprM_fast (N : Nat) {s : ByteArray} (h : s.size ≤ 6000) : exprM N s = exprL N s.data.toList := by
  have hz : s.data.toList.length = s.size := rfl
  unfold exprM exprL
  rw [lexE_all h, lexT_all h, lexAllF_eq (by omega)]
  cases lexAll s.data.toList with
  | none => rfl
  | some ts => simp only [forceTs_eq, hz]; rfl
def dA : List (List UInt8) := [[40], [91], [102, 40], [45], [33], [116, 114, 117, 101, 32, 63, 32]]
def dB : List (List UInt8) := [[41], [93], [41], [], [], [32, 58, 32, 48]]
def rep (a : List UInt8) : Nat → List UInt8
  | 0 => []
  | k + 1 => a ++ rep a k
def deepL (h k : Nat) : List UInt8 := rep (dA.getD h []) k ++ 49 :: rep (dB.getD h []) k
def easyB (n : NodeL) : Bool := n.kind != 4 && n.parts.isEmpty && decide (n.text.size ≤ 100000) && decide (n.kids.length ≤ 100000)
def deepOk (h k : Nat) : Bool := match exprL 900 (deepL h k) with | some (e, ns) => if 64 < k then e == 6 && ns.isEmpty else e == 0 && treeP ns && ns.all easyB && decide (ns.length ≤ 100000) | none => false
section
variable (s : ByteArray) (w : World)
def ExprPost (w : World) (er : Int) (ns : List NodeL) (e : Ending) (w' : World) : Prop :=
  ∃ v, e = .returned (.tuple #[v, .int .i64 er]) ∧ Below w.heap.size w w' ∧ NodesRd w' v ns
set_option maxHeartbeats 2000000 in
set_option maxRecDepth 20000 in
theorem pexpr (N : Nat) (er : Int) (ns : List NodeL) (hs : s.size ≤ maxLen) (hv : ErrVar w) (hr : exprM N s = some (er, ns)) :
    Calls Tryz.prog 6 #[.string s] w (ExprPost w er ns) := by
  have HL := Lib.hid hs
  have V := Lib.hid hv
  clear hs hv
  have nil : ∀ W : World, NodesRd W (.slice none 0 0) [] := fun W => ⟨[], ⟨none, 0, rfl, fun j u h => by simp at h⟩, rfl⟩
  have NIL := Lib.hid nil
  clear nil
  unfold exprM at hr
  by_cases he : lexE s = 0
  · rw [if_pos he] at hr
    have E0 := Lib.hid he
    clear he
    unfold exprT at hr
    split at hr
    · rename_i hT
      simp only [Option.bind_eq_some_iff, Prod.exists] at hr
      obtain ⟨rs, S1, h1, S2, h2, hr⟩ := hr
      simp only [Option.some.injEq, Prod.mk.injEq] at hr
      obtain ⟨rfl, hr⟩ := hr
      have HT := Lib.hid hT
      have E1 := Lib.hid h1
      have E2 := Lib.hid h2
      have ER := Lib.hid hr
      clear hT h1 h2 hr
      go_enter Tryz.func6, Tryz.ntmps6
      go_wp2_with fail
      refine (lex_rd s w HL.out V.out).mono ?_
      rw [LexRdPost.eq_def'', E0.out]
      rintro e w1 ⟨tv, rfl, hb1, ht1⟩
      obtain ⟨ao, cap, rfl, -⟩ := ht1.at
      have B1 := Lib.hid hb1
      have PN := Lib.hid (Pr.new (ty := 50) ht1 HT.out.2 HT.out.1)
      have A2 := Lib.hid (show Below w1.heap.size w1 (w1.alloc (.cells #[.slice ao (lexT s).length cap, .int .i64 0, .int .i64 0, .slice none 0 0, .int .i64 0] 50)) from (Below.refl _ _).alloc (Nat.le_refl _) _)
      generalize hC : ctxOf w1 (lexT s) (.slice ao (lexT s).length cap) 50 ht1 HT.out.2 = C at *
      have hCT : C.T = lexT s := by rw [← hC]; rfl
      have F1 := Lib.hid (show treeE N C.T ⟨0, 0, [], 0⟩ = some (rs, S1) by rw [hCT]; exact E1.out)
      have F2 := Lib.hid (show endS C.T S1 = some S2 by rw [hCT]; exact E2.out)
      clear E1 E2 hC hCT ht1 hb1
      go_upto_region 5 with fail
      generalize w1.alloc (.cells #[.slice ao (lexT s).length cap, .int .i64 0, .int .i64 0, .slice none 0 0, .int .i64 0] 50) = w2 at *
      go_wp2_with fail
      refine (ptree C _ _ nilv _ PN.out N _ _ F1.out).mono ?_
      rintro e w3 ⟨v, rfl, hni, k3, a3⟩
      obtain ⟨vao, vn, vcap, rfl⟩ : ∃ ao m cap, v = .slice ao m cap := by obtain ⟨ys, o, -⟩ := hni; exact own_slice o
      have K3 := Lib.hid k3
      have A3 := Lib.hid a3
      have V3 := Lib.hid hni
      clear k3 a3 hni
      go_wp2_with fail
      refine (pend0 C _ _ _ _ K3.out _ F2.out).mono ?_
      rintro e w4 ⟨rfl, k4, a4⟩
      have B4 := Lib.hid (B1.out.trans (((A2.out.trans ((A3.out.trans a4).toBelow (Nat.le_refl _) A2.out.size))).mono B1.out.size))
      have V4 := Lib.hid ((V3.out.keep (P := fun _ => True) (Keep.turn a4) trivial trivial).rd k4.old)
      clear k4 a4
      by_cases hf : S2.f = 0
      · have hb : ns = rs := by rw [← ER.out, if_pos hf]
        subst hb
        have FF := Lib.hid hf
        have g : (S2.f != 0) = false := by simpa using hf
        clear hf
        go_wp2_with fail
        go_ret2
        exact ⟨_, by rw [FF.out]; rfl, B4.out, V4.out⟩
      · have hb : ns = [] := by rw [← ER.out, if_neg hf]
        subst hb
        have g : (S2.f != 0) = true := by simpa using hf
        clear hf
        go_wp2_with fail
        go_ret2
        exact ⟨_, rfl, B4.out, NIL.out _⟩
    · simp at hr
  · rw [if_neg he] at hr
    simp only [Option.some.injEq, Prod.mk.injEq] at hr
    obtain ⟨rfl, rfl⟩ := hr
    have g : (lexE s != 0) = true := by simpa using he
    clear he
    go_enter Tryz.func6, Tryz.ntmps6
    go_wp2_with fail
    refine (lex_rd s w HL.out V.out).mono ?_
    rintro e w1 ⟨tv, rfl, hb1, ht1⟩
    obtain ⟨ao, cap, rfl, -⟩ := ht1.at
    have B1 := Lib.hid hb1
    clear hb1 ht1
    go_wp2_with fail
    go_ret2
    exact ⟨_, rfl, B1.out, NIL.out _⟩
end
end Go.Proofs.YtkbbhgipajhbnaaGreatDoor
