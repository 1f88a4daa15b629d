/- Package fun: Call, whatever stands by the name. -/
import Derived.Test.YtoaachefdbepiaaDoorFunC
import Derived.Test.YtoaachefdbepiaaDoorValU
namespace Go.Proofs.YtoaachefdbepiaaDoor
open Go.RowKit
set_option linter.unusedVariables false
set_option linter.unusedSimpArgs false

section
variable (w : World)
/-- Kinds of arguments that check goes through. -/
def Takes (ks : List Int) : Prop := (0 < ks.length ∧ ks.length ≤ 2) ∧ ∀ k ∈ ks, 0 ≤ k ∧ k ≤ 6
theorem fcheck (D : Nat) (ks : List Int) (more : Bool) (F : FuncId) (g : Nat) (l : List VL) (lv : Value) (h : RowRd w D l lv) (hk : Takes ks)
    (hg : g < w.heap.size) (hks : ∀ (i : Nat) (k : Int), ks[i]? = some k → w.cell? ⟨g, i, none⟩ = some (.int .i64 k)) :
    Calls Tryd.prog 16 #[.agg #[.slice (some ⟨g, 0, none⟩) ks.length ks.length, .bool more, .func (.func F) #[] #[]], lv] w (Made (.int .i64 (checkR ks more l)) w) := by
  unfold checkR
  by_cases hn : l.length < ks.length ∨ (ks.length < l.length ∧ more = false)
  · rw [if_pos hn]; exact fcheck_arg w D ks more F g l lv h hk.1.2 hn
  · rw [if_neg hn]
    refine fcheck_go w D ks more F g l lv h hk.1 (fun e => hn (.inl e)) ?_ hg hks hk.2
    by_cases e : ks.length < l.length
    · refine .inl ⟨?_, e⟩
      cases more
      · exact absurd (.inr ⟨e, rfl⟩) hn
      · rfl
    · exact .inr e
theorem row_keep {w w' : World} {g : Nat} {ks : List Int} (h : ∀ (i : Nat) (k : Int), ks[i]? = some k → w.cell? ⟨g, i, none⟩ = some (.int .i64 k)) (hb : Below w.heap.size w w') (i : Nat) (k : Int) (hi : ks[i]? = some k) : w'.cell? ⟨g, i, none⟩ = some (.int .i64 k) := hold hb (h i k hi)
set_option maxHeartbeats 4000000 in
set_option maxRecDepth 20000 in
theorem call_none (s : ByteArray) (hs : noName s) (lao : Option Addr) (ln lcap : Nat) : Calls Tryd.prog 7 #[.string s, .slice lao ln lcap] w (IsTold 0 0 ⟨#[]⟩ 2 w) := by
  have NN := Lib.hid (fun W => fnamed_none W s hs)
  clear hs
  go_enter Tryd.func7, Tryd.ntmps7
  go_wp2_with fail
  with_reducible refine (NN.out _).mono ?_
  rintro e w1 ⟨rfl, hb1⟩
  obtain ⟨⟨r0, r1, r2, r3, rl⟩, f0, f1, f2, f3⟩ := ((NBlk.new w 0 0 ⟨#[]⟩).below hb1).full
  have B1 := Lib.hid (below_tr (below_al (Below.refl _ _) _) hb1)
  clear hb1
  go_wp2_with fail
  exact bodyPost_ret (v := .tuple #[.agg #[.int .i64 0, .int .i64 0, .string ⟨#[]⟩, .slice none 0 0], .int .i64 2]) (by simp [results, Tryd.results7, go_sem, r0, r1, r2, r3, rl]) rfl ⟨rfl, below_al (below_set4 B1.out (Nat.le_refl _) _ _ _ _) _⟩
set_option maxHeartbeats 4000000 in
set_option maxRecDepth 20000 in
theorem call_bad (s : ByteArray) (ks : List Int) (more : Bool) (F : FuncId) (hN : ∀ W, Calls Tryd.prog 15 #[.string s] W (Named ks more F W)) (hk : Takes ks) (D : Nat) (l : List VL) (lv : Value) (h : RowRd w D l lv)
    (c : Int) (hc : checkR ks more l = c) (hc0 : ¬ c = 0) : Calls Tryd.prog 7 #[.string s, lv] w (IsTold 0 0 ⟨#[]⟩ c w) := by
  have NN := Lib.hid hN
  have CC := Lib.hid (fun W (hw : Below w.heap.size w W) g (hg : g < W.heap.size) hks => by have := fcheck W D ks more F g l lv (h.below hw) hk hg hks; rw [hc] at this; exact this)
  have g0 : (c != 0) = true := by simpa using hc0
  obtain ⟨lao, lcap, rfl⟩ := h.shape
  clear hN h hc hc0 hk
  go_enter Tryd.func7, Tryd.ntmps7
  go_wp2_with fail
  with_reducible refine (NN.out _).mono ?_
  rintro e w1 ⟨g, rfl, hg0, hg1, hks, hb1⟩
  have R := Lib.hid ((NBlk.new w 0 0 ⟨#[]⟩).below hb1)
  have B1 := Lib.hid (below_tr (below_al (Below.refl w.heap.size w) _) hb1)
  have KS := Lib.hid (row_keep hks (below_al (Below.refl _ _) (.cells #[.slice (some ⟨g, 0, none⟩) ks.length ks.length, .bool more, .func (.func F) #[] #[]] 42)))
  have GL := Lib.hid hg1
  clear hb1 hks hg0 hg1
  go_wp2_with fail
  have B2 := Lib.hid (below_al B1.out (.cells #[.slice (some ⟨g, 0, none⟩) ks.length ks.length, .bool more, .func (.func F) #[] #[]] 42))
  replace R := Lib.hid (R.out.al (.cells #[.slice (some ⟨g, 0, none⟩) ks.length ks.length, .bool more, .func (.func F) #[] #[]] 42))
  with_reducible refine (CC.out _ B2.out g (by have := GL.out; simp; omega) KS.out).mono ?_
  rintro e w2 ⟨rfl, hb2⟩
  obtain ⟨⟨r0, r1, r2, r3, rl⟩, f0, f1, f2, f3⟩ := (R.out.below hb2).full
  have B3 := Lib.hid (below_tr B2.out hb2)
  clear hb2
  go_wp2_with fail
  exact bodyPost_ret (v := .tuple #[.agg #[.int .i64 0, .int .i64 0, .string ⟨#[]⟩, .slice none 0 0], .int .i64 c]) (by simp [results, Tryd.results7, go_sem, r0, r1, r2, r3]) rfl ⟨rfl, below_set4 B3.out (Nat.le_refl _) _ _ _ _⟩
set_option maxHeartbeats 4000000 in
set_option maxRecDepth 20000 in
theorem call_told (s : ByteArray) (ks : List Int) (more : Bool) (F : FuncId) (hN : ∀ W, Calls Tryd.prog 15 #[.string s] W (Named ks more F W)) (hk : Takes ks) (D : Nat) (l : List VL) (lv : Value) (h : RowRd w D l lv)
    (hc : checkR ks more l = 0) (kk n : Int) (t : ByteArray) (c : Int) (hR : ∀ (a : Array Value) (W : World), (callFunc F a).run Tryd.prog W = .ok (.enter F a) W) (hF : ∀ W, Below w.heap.size w W → Calls Tryd.prog F #[lv] W (IsTold kk n t c W)) : Calls Tryd.prog 7 #[.string s, lv] w (IsTold kk n t c w) := by
  have NN := Lib.hid hN
  have CC := Lib.hid (fun W (hw : Below w.heap.size w W) g (hg : g < W.heap.size) hks => by have := fcheck W D ks more F g l lv (h.below hw) hk hg hks; rw [hc] at this; exact this)
  have FF := Lib.hid hF
  obtain ⟨lao, lcap, rfl⟩ := h.shape
  clear hN h hc hk hF
  go_enter Tryd.func7, Tryd.ntmps7
  go_wp2_with fail
  with_reducible refine (NN.out _).mono ?_
  rintro e w1 ⟨g, rfl, hg0, hg1, hks, hb1⟩
  have R := Lib.hid ((NBlk.new w 0 0 ⟨#[]⟩).below hb1)
  have B1 := Lib.hid (below_tr (below_al (Below.refl w.heap.size w) _) hb1)
  have KS := Lib.hid (row_keep hks (below_al (Below.refl _ _) (.cells #[.slice (some ⟨g, 0, none⟩) ks.length ks.length, .bool more, .func (.func F) #[] #[]] 42)))
  have GL := Lib.hid hg1
  clear hb1 hks hg0 hg1
  go_wp2_with fail
  have B2 := Lib.hid (below_al B1.out (.cells #[.slice (some ⟨g, 0, none⟩) ks.length ks.length, .bool more, .func (.func F) #[] #[]] 42))
  replace R := Lib.hid (R.out.al (.cells #[.slice (some ⟨g, 0, none⟩) ks.length ks.length, .bool more, .func (.func F) #[] #[]] 42))
  with_reducible refine (CC.out _ B2.out g (by have := GL.out; simp; omega) KS.out).mono ?_
  rintro e w2 ⟨rfl, hb2⟩
  have Z := Lib.hid (hold hb2 (show (w1.alloc (.cells #[.slice (some ⟨g, 0, none⟩) ks.length ks.length, .bool more, .func (.func F) #[] #[]] 42)).cell? ⟨w1.heap.size, 2, none⟩ = some (.func (.func F) #[] #[]) from cell_of_row _ _ 2 _ _ _ (heap_alloc_new _ _)))
  replace R := Lib.hid (R.out.below hb2)
  have B3 := Lib.hid (below_tr B2.out hb2)
  have z2 := Z.out
  clear hb2
  go_wp2_with fail
  with_reducible refine (FF.out _ B3.out).mono ?_
  rintro e w3 ⟨rfl, hb3⟩
  obtain ⟨⟨r0, r1, r2, r3, rl⟩, f0, f1, f2, f3⟩ := (R.out.below hb3).full
  have B4 := Lib.hid (below_tr B3.out hb3)
  clear hb3 z2
  go_wp2_with fail
  exact bodyPost_ret (v := .tuple #[.agg #[.int .i64 kk, .int .i64 n, .string t, .slice none 0 0], .int .i64 c]) (by simp [results, Tryd.results7, go_sem, r0, r1, r2, r3]) rfl ⟨rfl, below_set4 B4.out (Nat.le_refl _) _ _ _ _⟩
set_option maxHeartbeats 4000000 in
set_option maxRecDepth 20000 in
theorem call_gives (s : ByteArray) (ks : List Int) (more : Bool) (F : FuncId) (hN : ∀ W, Calls Tryd.prog 15 #[.string s] W (Named ks more F W)) (hk : Takes ks) (D : Nat) (l : List VL) (lv : Value) (h : RowRd w D l lv)
    (hc : checkR ks more l = 0) (E : Nat) (kk n : Int) (t : ByteArray) (m : List VL) (hR : ∀ (a : Array Value) (W : World), (callFunc F a).run Tryd.prog W = .ok (.enter F a) W) (hF : ∀ W, Below w.heap.size w W → Calls Tryd.prog F #[lv] W (Gives E kk n t m W)) : Calls Tryd.prog 7 #[.string s, lv] w (Gives E kk n t m w) := by
  have NN := Lib.hid hN
  have CC := Lib.hid (fun W (hw : Below w.heap.size w W) g (hg : g < W.heap.size) hks => by have := fcheck W D ks more F g l lv (h.below hw) hk hg hks; rw [hc] at this; exact this)
  have FF := Lib.hid hF
  obtain ⟨lao, lcap, rfl⟩ := h.shape
  clear hN h hc hk hF
  go_enter Tryd.func7, Tryd.ntmps7
  go_wp2_with fail
  with_reducible refine (NN.out _).mono ?_
  rintro e w1 ⟨g, rfl, hg0, hg1, hks, hb1⟩
  have R := Lib.hid ((NBlk.new w 0 0 ⟨#[]⟩).below hb1)
  have B1 := Lib.hid (below_tr (below_al (Below.refl w.heap.size w) _) hb1)
  have KS := Lib.hid (row_keep hks (below_al (Below.refl _ _) (.cells #[.slice (some ⟨g, 0, none⟩) ks.length ks.length, .bool more, .func (.func F) #[] #[]] 42)))
  have GL := Lib.hid hg1
  clear hb1 hks hg0 hg1
  go_wp2_with fail
  have B2 := Lib.hid (below_al B1.out (.cells #[.slice (some ⟨g, 0, none⟩) ks.length ks.length, .bool more, .func (.func F) #[] #[]] 42))
  replace R := Lib.hid (R.out.al (.cells #[.slice (some ⟨g, 0, none⟩) ks.length ks.length, .bool more, .func (.func F) #[] #[]] 42))
  with_reducible refine (CC.out _ B2.out g (by have := GL.out; simp; omega) KS.out).mono ?_
  rintro e w2 ⟨rfl, hb2⟩
  have Z := Lib.hid (hold hb2 (show (w1.alloc (.cells #[.slice (some ⟨g, 0, none⟩) ks.length ks.length, .bool more, .func (.func F) #[] #[]] 42)).cell? ⟨w1.heap.size, 2, none⟩ = some (.func (.func F) #[] #[]) from cell_of_row _ _ 2 _ _ _ (heap_alloc_new _ _)))
  replace R := Lib.hid (R.out.below hb2)
  have B3 := Lib.hid (below_tr B2.out hb2)
  have z2 := Z.out
  clear hb2
  go_wp2_with fail
  with_reducible refine (FF.out _ B3.out).mono ?_
  rintro e w3 ⟨lv', rfl, hin, hb3⟩
  obtain ⟨lao', lcap', rfl⟩ := hin.rd.shape
  have HIN := Lib.hid hin
  obtain ⟨⟨r0, r1, r2, r3, rl⟩, f0, f1, f2, f3⟩ := (R.out.below hb3).full
  have B4 := Lib.hid (below_tr B3.out hb3)
  have hlt := Lib.hid R.out.lt
  clear hb3 z2 hin
  go_wp2_with fail
  refine bodyPost_ret (v := .tuple #[.agg #[.int .i64 kk, .int .i64 n, .string t, .slice lao' m.length lcap'], .int .i64 0]) (by simp [results, Tryd.results7, go_sem, r0, r1, r2, r3]) rfl ⟨.slice lao' m.length lcap', rfl, ?_, below_set4 B4.out (Nat.le_refl _) _ _ _ _⟩
  exact RowIn.keep (fun g hg => by have := B3.out.size; omega) (fun _ _ _ _ h => h) (set4_in HIN.out (by have := hlt.out; omega) _ _ _ _)
end
end Go.Proofs.YtoaachefdbepiaaDoor
