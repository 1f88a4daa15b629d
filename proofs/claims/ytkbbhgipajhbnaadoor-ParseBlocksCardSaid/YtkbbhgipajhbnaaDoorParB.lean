/- The contracts of package parse's reader of tokens: fail, sees, take, need, needName, end. -/
import Derived.Test.YtkbbhgipajhbnaaDoorParA
namespace Go.Proofs.YtkbbhgipajhbnaaDoor
open Go.RowKit
set_option linter.unusedVariables false
set_option linter.unusedSimpArgs false

theorem fld0 (w : World) (a c d e f : Value) : (Instr.field 67 (.agg #[a, c, d, e, f]) 0).run Tryd.prog w = .ok a w := by kernel_rfl
theorem fld1 (w : World) (a c d e f : Value) : (Instr.field 67 (.agg #[a, c, d, e, f]) 1).run Tryd.prog w = .ok c w := by kernel_rfl
theorem str_eq (a c : ByteArray) : (a.toList == c.toList) = decide (a = c) := by
  by_cases h : a = c
  · subst h; simp
  · have : ¬ a.toList = c.toList := fun e => h (by rw [ByteArray.toList_eq, ByteArray.toList_eq] at e; exact ByteArray.ext (Array.ext' e))
    simp [h, this]
def failS (T : List TokL) (e : Int) (S : PS) : PS := ⟨T.length - 1, if S.f = 0 then e else S.f, S.ns, S.d⟩
def nilv : Value := .slice none 0 0
theorem Turn.of_nil {b : Nat} {nv : Value} {w w' : World} (h : Turn b nilv nilv w w') : Turn b nv nv w w' :=
  ⟨h.os, h.tape, h.output, h.size, fun k hk hne _ => h.block k hk hne (by simp [nilv, Value.ownBlock]), .inl rfl⟩
/-- A call that leaves all but the reader's own block. -/
def P0 (C : Ctx) (b : Nat) (nv : Value) (w : World) (v : Value) (S' : PS) (e : Ending) (w' : World) : Prop :=
  e = .returned v ∧ Pr C w' b nv S' ∧ Turn b nilv nilv w w'
theorem P0.weak {C : Ctx} {b : Nat} {nv : Value} {w : World} {v : Value} {S' : PS} {e : Ending} {w' : World} (h : P0 C b nv w v S' e w') : PPost C b nv w v S' e w' := ⟨h.1, nv, h.2.1, h.2.2.of_nil⟩
section
variable (C : Ctx) (b : Nat) (w : World) (nv : Value) (S : PS)
set_option maxRecDepth 20000 in
theorem pfail0 (h : Pr C w b nv S) (e : Int) : Calls Tryd.prog 23 #[.pointer (some ⟨b, 0, none⟩), .int .i64 e] w (P0 C b nv w (.tuple #[]) (failS C.T e S)) := by
  obtain ⟨h0, h1, h2, -, -⟩ := h.cells
  have f1 := h.free 1
  have f2 := h.free 2
  obtain ⟨ao, cap, htv, -⟩ := C.rd.at
  have H := Lib.hid h
  have hlt := h.lt
  have hfew := C.few
  have hn : ((C.T.length - 1 : Nat) : Int) = (C.T.length : Int) - 1 := by omega
  have HN := Lib.hid hn
  rw [htv] at h0
  clear htv hn
  by_cases hf : S.f = 0
  · have g : (S.f == 0) = true := by simpa using hf
    have HF := Lib.hid hf
    clear hf
    go_enter Tryd.func23, Tryd.ntmps23
    go_wp2_with fail
    rw [← HN.out]
    have K := Lib.hid ((H.out.setF e).setAt (C.T.length - 1) (by omega))
    have A := Lib.hid ((Turn.set b nilv w 2 (.int .i64 e)).trans (Turn.set b nilv _ 1 (.int .i64 ((C.T.length - 1 : Nat) : Int))))
    have E := Lib.hid (show failS C.T e S = ⟨C.T.length - 1, e, S.ns, S.d⟩ by unfold failS; rw [if_pos HF.out])
    go_end0
    rw [E.out]
    exact ⟨rfl, K.out, A.out⟩
  · have g : (S.f == 0) = false := by simpa using hf
    have HF := Lib.hid hf
    clear hf
    go_enter Tryd.func23, Tryd.ntmps23
    go_wp2_with fail
    rw [← HN.out]
    have K := Lib.hid (H.out.setAt (C.T.length - 1) (by omega))
    have A := Lib.hid (Turn.set b nilv w 1 (.int .i64 ((C.T.length - 1 : Nat) : Int)))
    have E := Lib.hid (show failS C.T e S = ⟨C.T.length - 1, S.f, S.ns, S.d⟩ by unfold failS; rw [if_neg HF.out])
    go_end0
    rw [E.out]
    exact ⟨rfl, K.out, A.out⟩

def takeS (T : List TokL) (sg : ByteArray) (S : PS) : Option (Bool × PS) :=
  match T[S.at_]? with
  | none => none
  | some t => if t.text = sg then (if S.at_ + 1 < T.length then some (true, ⟨S.at_ + 1, S.f, S.ns, S.d⟩) else none) else some (false, S)
def needS (T : List TokL) (sg : ByteArray) (S : PS) : Option PS :=
  match takeS T sg S with
  | none => none
  | some (true, S') => some S'
  | some (false, S') => some (failS T 5 S')
def nameS (T : List TokL) (S : PS) : Option (ByteArray × PS) :=
  match T[S.at_]? with
  | none => none
  | some t => if t.kind = 3 then (if S.at_ + 1 < T.length then some (t.text, ⟨S.at_ + 1, S.f, S.ns, S.d⟩) else none) else some (⟨#[]⟩, failS T 5 S)
def endS (T : List TokL) (S : PS) : Option PS :=
  match T[S.at_]? with
  | none => none
  | some t => some (if t.kind = 0 then S else failS T 5 S)
set_option maxRecDepth 20000 in
theorem psees (h : Pr C w b nv S) (t : TokL) (ht : C.T[S.at_]? = some t) (sg : ByteArray) : Calls Tryd.prog 64 #[.pointer (some ⟨b, 0, none⟩), .string sg] w fun e w' => e = .returned (.bool (decide (t.text = sg))) ∧ Below w.heap.size w w' := by
  have H := Lib.hid h
  have EQ := Lib.hid (str_eq t.text sg)
  go_enter Tryd.func64, Tryd.ntmps64
  go_wp2_with fail
  refine (ppeek C b _ nv S H.out t ht).mono ?_
  rintro e w1 ⟨pv, rfl, -, hb⟩
  have HB := Lib.hid hb
  clear hb
  have q1 := fld1 w1 (.int .i64 t.kind) (.string t.text) (.int .i64 t.num) pv (.int .i64 t.at_)
  go_wp2_with fail
  go_ret
  rw [← EQ.out]
  exact ⟨rfl, HB.out⟩
set_option maxRecDepth 20000 in
theorem ptake0 (h : Pr C w b nv S) (sg : ByteArray) (r : Bool) (S' : PS) (hr : takeS C.T sg S = some (r, S')) : Calls Tryd.prog 53 #[.pointer (some ⟨b, 0, none⟩), .string sg] w (P0 C b nv w (.bool r) S') := by
  have H := Lib.hid h
  obtain ⟨t, ht⟩ := h.tok
  rw [takeS, ht] at hr
  by_cases hs : t.text = sg
  · have HT := Lib.hid ht
    simp only [hs, if_true] at hr
    split at hr
    · rename_i hlt
      simp only [Option.some.injEq, Prod.mk.injEq] at hr
      obtain ⟨rfl, rfl⟩ := hr
      have DS := Lib.hid (show decide (t.text = sg) = true by simpa using hs)
      have HL := Lib.hid hlt
      have hfew := C.few
      have hat : (S.at_ : Int) ≤ 100000 := by omega
      clear ht hs hfew hlt
      go_enter Tryd.func53, Tryd.ntmps53
      go_wp2_with fail
      refine (psees C b _ nv S H.out t HT.out sg).mono ?_
      rw [DS.out]
      rintro e w1 ⟨rfl, hb⟩
      have H1 := Lib.hid (H.out.below hb)
      have A1 := Lib.hid (Turn.below (b := b) (nv := nilv) hb)
      obtain ⟨-, h1, -, -, -⟩ := H1.out.cells
      have f1 := H1.out.free 1
      clear hb
      go_wp2_with fail
      have K := Lib.hid (H1.out.setAt (S.at_ + 1) HL.out)
      have A := Lib.hid (A1.out.trans (Turn.set b nilv w1 1 (.int .i64 ((S.at_ + 1 : Nat) : Int))))
      go_ret
      exact ⟨rfl, K.out, A.out⟩
    · simp at hr
  · simp only [hs, if_false, Option.some.injEq, Prod.mk.injEq] at hr
    obtain ⟨rfl, rfl⟩ := hr
    have HT := Lib.hid ht
    have DS := Lib.hid (show decide (t.text = sg) = false by simpa using hs)
    clear ht hs
    go_enter Tryd.func53, Tryd.ntmps53
    go_wp2_with fail
    refine (psees C b _ nv S H.out t HT.out sg).mono ?_
    rw [DS.out]
    rintro e w1 ⟨rfl, hb⟩
    have H1 := Lib.hid (H.out.below hb)
    have A1 := Lib.hid (Turn.below (b := b) (nv := nilv) hb)
    clear hb
    go_wp2_with fail
    go_ret
    exact ⟨rfl, H1.out, A1.out⟩
set_option maxRecDepth 20000 in
theorem pneed0 (h : Pr C w b nv S) (sg : ByteArray) (S' : PS) (hr : needS C.T sg S = some S') : Calls Tryd.prog 37 #[.pointer (some ⟨b, 0, none⟩), .string sg] w (P0 C b nv w (.tuple #[]) S') := by
  have H := Lib.hid h
  unfold needS at hr
  split at hr
  · simp at hr
  · rename_i S1 hk
    simp only [Option.some.injEq] at hr
    subst hr
    have HK := Lib.hid hk
    clear hk h
    go_enter Tryd.func37, Tryd.ntmps37
    go_wp2_with fail
    refine (ptake0 C b _ nv S H.out sg _ _ HK.out).mono ?_
    rintro e w1 ⟨rfl, k1, a1⟩
    have K1 := Lib.hid k1
    have A1 := Lib.hid a1
    clear k1 a1
    go_wp2_with fail
    go_end0
    exact ⟨rfl, K1.out, A1.out⟩
  · rename_i S1 hk
    simp only [Option.some.injEq] at hr
    subst hr
    have HK := Lib.hid hk
    clear hk h
    go_enter Tryd.func37, Tryd.ntmps37
    go_wp2_with fail
    refine (ptake0 C b _ nv S H.out sg _ _ HK.out).mono ?_
    rintro e w1 ⟨rfl, k1, a1⟩
    have K1 := Lib.hid k1
    have A1 := Lib.hid a1
    clear k1 a1
    go_wp2_with fail
    refine (pfail0 C b _ nv S1 K1.out 5).mono ?_
    rintro e w2 ⟨rfl, k2, a2⟩
    have K2 := Lib.hid k2
    have A2 := Lib.hid (A1.out.trans a2)
    clear k2 a2
    go_wp2_with fail
    go_end0
    exact ⟨rfl, K2.out, A2.out⟩
set_option maxRecDepth 20000 in
theorem pname0 (h : Pr C w b nv S) (x : ByteArray) (S' : PS) (hr : nameS C.T S = some (x, S')) : Calls Tryd.prog 55 #[.pointer (some ⟨b, 0, none⟩)] w (P0 C b nv w (.string x) S') := by
  have H := Lib.hid h
  obtain ⟨t, ht⟩ := h.tok
  rw [nameS, ht] at hr
  by_cases hs : t.kind = 3
  · have HT := Lib.hid ht
    simp only [hs, if_true] at hr
    split at hr
    · rename_i hlt
      simp only [Option.some.injEq, Prod.mk.injEq] at hr
      obtain ⟨rfl, rfl⟩ := hr
      have g : (t.kind != 3) = false := by simpa using hs
      have HL := Lib.hid hlt
      have hfew := C.few
      have hat : (S.at_ : Int) ≤ 100000 := by omega
      clear ht hs hfew hlt
      go_enter Tryd.func55, Tryd.ntmps55
      go_wp2_with fail
      refine (ppeek C b _ nv S H.out t HT.out).mono ?_
      rintro e w1 ⟨pv, rfl, hpv, hb⟩
      obtain ⟨pao, pcap, rfl, -⟩ := hpv
      have H1 := Lib.hid (H.out.below hb)
      have B1 := Lib.hid hb
      clear hb
      go_upto_region 2 with fail
      have B2 := Lib.hid (show Below w1.heap.size w1 (w1.alloc (.cells #[.int .i64 t.kind, .string t.text, .int .i64 t.num, .slice pao t.parts.length pcap, .int .i64 t.at_] 67)) from (Below.refl _ _).alloc (Nat.le_refl _) _)
      have T2 := Lib.hid (TokBlk.new w1 (.int .i64 t.kind) (.string t.text) (.int .i64 t.num) (.slice pao t.parts.length pcap) (.int .i64 t.at_))
      have H2 := Lib.hid (H1.out.below B2.out)
      have A2 := Lib.hid ((Turn.below (b := b) (nv := nilv) B1.out).trans (Turn.below (b := b) (nv := nilv) B2.out))
      have hne := Nat.ne_of_gt H1.out.hb
      generalize w1.alloc (.cells #[.int .i64 t.kind, .string t.text, .int .i64 t.num, .slice pao t.parts.length pcap, .int .i64 t.at_] 67) = w2 at *
      obtain ⟨r0, r1, r2, r3, r4⟩ := T2.out.cells
      obtain ⟨-, h1, -, -, -⟩ := H2.out.cells
      have f1 := H2.out.free 1
      generalize w1.heap.size = G at *
      go_wp2_with fail
      have K := Lib.hid (H2.out.setAt (S.at_ + 1) HL.out)
      have A := Lib.hid (A2.out.trans (Turn.set b nilv w2 1 (.int .i64 ((S.at_ + 1 : Nat) : Int))))
      go_ret
      exact ⟨rfl, K.out, A.out⟩
    · simp at hr
  · have HT := Lib.hid ht
    simp only [hs, if_false, Option.some.injEq, Prod.mk.injEq] at hr
    obtain ⟨rfl, rfl⟩ := hr
    have g : (t.kind != 3) = true := by simpa using hs
    clear ht hs
    go_enter Tryd.func55, Tryd.ntmps55
    go_wp2_with fail
    refine (ppeek C b _ nv S H.out t HT.out).mono ?_
    rintro e w1 ⟨pv, rfl, hpv, hb⟩
    obtain ⟨pao, pcap, rfl, -⟩ := hpv
    have H1 := Lib.hid (H.out.below hb)
    have B1 := Lib.hid hb
    clear hb
    go_upto_region 2 with fail
    have B2 := Lib.hid (show Below w1.heap.size w1 (w1.alloc (.cells #[.int .i64 t.kind, .string t.text, .int .i64 t.num, .slice pao t.parts.length pcap, .int .i64 t.at_] 67)) from (Below.refl _ _).alloc (Nat.le_refl _) _)
    have T2 := Lib.hid (TokBlk.new w1 (.int .i64 t.kind) (.string t.text) (.int .i64 t.num) (.slice pao t.parts.length pcap) (.int .i64 t.at_))
    have H2 := Lib.hid (H1.out.below B2.out)
    have A2 := Lib.hid ((Turn.below (b := b) (nv := nilv) B1.out).trans (Turn.below (b := b) (nv := nilv) B2.out))
    generalize w1.alloc (.cells #[.int .i64 t.kind, .string t.text, .int .i64 t.num, .slice pao t.parts.length pcap, .int .i64 t.at_] 67) = w2 at *
    obtain ⟨r0, r1, r2, r3, r4⟩ := T2.out.cells
    generalize w1.heap.size = G at *
    go_wp2_with fail
    refine (pfail0 C b _ nv S H2.out 5).mono ?_
    rintro e w3 ⟨rfl, k3, a3⟩
    have K3 := Lib.hid k3
    have A3 := Lib.hid (A2.out.trans a3)
    clear k3 a3
    go_wp2_with fail
    go_ret
    exact ⟨rfl, K3.out, A3.out⟩
set_option maxRecDepth 20000 in
theorem pend0 (h : Pr C w b nv S) (S' : PS) (hr : endS C.T S = some S') : Calls Tryd.prog 14 #[.pointer (some ⟨b, 0, none⟩)] w (P0 C b nv w (.int .i64 S'.f) S') := by
  have H := Lib.hid h
  obtain ⟨t, ht⟩ := h.tok
  rw [endS, ht] at hr
  have HT := Lib.hid ht
  by_cases hs : t.kind = 0
  · simp only [hs, if_true, Option.some.injEq] at hr
    subst hr
    have g : (t.kind != 0) = false := by simpa using hs
    clear ht hs
    go_enter Tryd.func14, Tryd.ntmps14
    go_wp2_with fail
    refine (ppeek C b _ nv S H.out t HT.out).mono ?_
    rintro e w1 ⟨pv, rfl, -, hb⟩
    have H1 := Lib.hid (H.out.below hb)
    have A1 := Lib.hid (Turn.below (b := b) (nv := nilv) hb)
    obtain ⟨-, -, h2, -, -⟩ := H1.out.cells
    have q0 := fld0 w1 (.int .i64 t.kind) (.string t.text) (.int .i64 t.num) pv (.int .i64 t.at_)
    clear hb
    go_wp2_with fail
    go_ret
    exact ⟨rfl, H1.out, A1.out⟩
  · simp only [hs, if_false, Option.some.injEq] at hr
    have HR := Lib.hid hr
    have g : (t.kind != 0) = true := by simpa using hs
    clear ht hs hr
    go_enter Tryd.func14, Tryd.ntmps14
    go_wp2_with fail
    refine (ppeek C b _ nv S H.out t HT.out).mono ?_
    rintro e w1 ⟨pv, rfl, -, hb⟩
    have H1 := Lib.hid (H.out.below hb)
    have A1 := Lib.hid (Turn.below (b := b) (nv := nilv) hb)
    have q0 := fld0 w1 (.int .i64 t.kind) (.string t.text) (.int .i64 t.num) pv (.int .i64 t.at_)
    clear hb
    go_wp2_with fail
    refine (pfail0 C b _ nv S H1.out 5).mono ?_
    rw [HR.out]
    rintro e w3 ⟨rfl, k3, a3⟩
    have K3 := Lib.hid k3
    have A3 := Lib.hid (A1.out.trans a3)
    obtain ⟨-, -, h2, -, -⟩ := k3.cells
    clear k3 a3
    go_wp2_with fail
    go_ret
    exact ⟨rfl, K3.out, A3.out⟩
theorem pfail (h : Pr C w b nv S) (e : Int) : Calls Tryd.prog 23 #[.pointer (some ⟨b, 0, none⟩), .int .i64 e] w (PPost C b nv w (.tuple #[]) (failS C.T e S)) := (pfail0 C b w nv S h e).mono fun _ _ h => h.weak
theorem ptake (h : Pr C w b nv S) (sg : ByteArray) (r : Bool) (S' : PS) (hr : takeS C.T sg S = some (r, S')) : Calls Tryd.prog 53 #[.pointer (some ⟨b, 0, none⟩), .string sg] w (PPost C b nv w (.bool r) S') := (ptake0 C b w nv S h sg r S' hr).mono fun _ _ h => h.weak
theorem pneed (h : Pr C w b nv S) (sg : ByteArray) (S' : PS) (hr : needS C.T sg S = some S') : Calls Tryd.prog 37 #[.pointer (some ⟨b, 0, none⟩), .string sg] w (PPost C b nv w (.tuple #[]) S') := (pneed0 C b w nv S h sg S' hr).mono fun _ _ h => h.weak
theorem pname (h : Pr C w b nv S) (x : ByteArray) (S' : PS) (hr : nameS C.T S = some (x, S')) : Calls Tryd.prog 55 #[.pointer (some ⟨b, 0, none⟩)] w (PPost C b nv w (.string x) S') := (pname0 C b w nv S h x S' hr).mono fun _ _ h => h.weak
end
end Go.Proofs.YtkbbhgipajhbnaaDoor
