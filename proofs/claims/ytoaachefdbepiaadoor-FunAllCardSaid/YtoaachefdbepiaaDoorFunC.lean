/- Package fun: whether arguments are as they are to be. -/
import Derived.Test.YtoaachefdbepiaaDoorFunB
import Derived.Test.YtoaachefdbepiaaDoorValE
namespace Go.Proofs.YtoaachefdbepiaaDoor
open Go.RowKit
set_option linter.unusedVariables false
set_option linter.unusedSimpArgs false

def kindAt (ks : List Int) (i : Nat) : Int := ks.getD (min i (ks.length - 1)) 0
def fitAllB (ks : List Int) (l : List VL) : Bool := (List.range l.length).all fun j => fitsB (kindAt ks j) (l.getD j vz)
def checkR (ks : List Int) (more : Bool) (l : List VL) : Int :=
  if l.length < ks.length ∨ (ks.length < l.length ∧ more = false) then 1 else if fitAllB ks l then 0 else 7
def fitUp (ks : List Int) (l : List VL) (i : Nat) : Prop := ∀ j u, j < i → l[j]? = some u → fitsB (kindAt ks j) u = true
theorem fitUp_succ {ks : List Int} {l : List VL} {i : Nat} {u : VL} (h : fitUp ks l i) (hu : l[i]? = some u) (hf : fitsB (kindAt ks i) u = true) : fitUp ks l (i + 1) := by
  intro j x hj hx
  by_cases e : j = i
  · subst e; rw [hu] at hx; cases hx; exact hf
  · exact h j x (by omega) hx
theorem fitAllB_ok {ks : List Int} {l : List VL} (h : fitUp ks l l.length) : fitAllB ks l = true := by
  unfold fitAllB
  rw [List.all_eq_true]
  intro j hj
  have hj2 : j < l.length := by simpa using hj
  rw [List.getD_eq_getElem?_getD, List.getElem?_eq_getElem hj2]
  exact h j _ hj2 (List.getElem?_eq_getElem hj2)
theorem fitAllB_bad {ks : List Int} {l : List VL} {i : Nat} {u : VL} (hu : l[i]? = some u) (hf : fitsB (kindAt ks i) u = false) : fitAllB ks l = false := by
  unfold fitAllB
  rw [List.all_eq_false]
  have hi : i < l.length := (List.getElem?_eq_some_iff.1 hu).1
  refine ⟨i, by simpa using hi, ?_⟩
  rw [List.getD_eq_getElem?_getD, hu]
  simp [hf]
theorem wrap_small {n : Nat} (h : n ≤ 1000000) : IntKind.i64.wrap (n : Int) = (n : Int) := by rw [IntKind.wrap_i64]; omega
section
variable (w : World)
set_option maxHeartbeats 4000000 in
set_option maxRecDepth 20000 in
theorem fcheck_arg (D : Nat) (ks : List Int) (more : Bool) (F : FuncId) (g : Nat) (l : List VL) (lv : Value) (h : RowRd w D l lv) (hk : ks.length ≤ 2) (hn : l.length < ks.length ∨ (ks.length < l.length ∧ more = false)) :
    Calls Tryd.prog 16 #[.agg #[.slice (some ⟨g, 0, none⟩) ks.length ks.length, .bool more, .func (.func F) #[] #[]], lv] w (Made (.int .i64 1) w) := by
  have hl := h.len
  unfold maxLen at hl
  obtain ⟨ao, cap, rfl⟩ := h.shape
  clear h
  by_cases h1 : l.length < ks.length
  · clear hn
    go_enter Tryd.func16, Tryd.ntmps16
    go_wp2_with fail
    go_ret
    exact ⟨rfl, below_al (Below.refl _ _) _⟩
  · obtain ⟨h2, rfl⟩ : ks.length < l.length ∧ more = false := by rcases hn with hn | hn; exact absurd hn h1; exact hn
    clear hn
    go_enter Tryd.func16, Tryd.ntmps16
    go_wp2_with fail
    go_ret
    exact ⟨rfl, below_al (Below.refl _ _) _⟩
def chkN (b : Bool) : Int := if b then 0 else 7
set_option maxHeartbeats 8000000 in
set_option maxRecDepth 20000 in
theorem fcheck_go (D : Nat) (ks : List Int) (more : Bool) (F : FuncId) (g : Nat) (l : List VL) (lv : Value) (h : RowRd w D l lv) (hk : 0 < ks.length ∧ ks.length ≤ 2) (hln : ¬ l.length < ks.length) (hn : ((!more) = false ∧ ks.length < l.length) ∨ ¬ ks.length < l.length)
    (hg : g < w.heap.size) (hks : ∀ (i : Nat) (k : Int), ks[i]? = some k → w.cell? ⟨g, i, none⟩ = some (.int .i64 k)) (hk6 : ∀ k ∈ ks, 0 ≤ k ∧ k ≤ 6) :
    Calls Tryd.prog 16 #[.agg #[.slice (some ⟨g, 0, none⟩) ks.length ks.length, .bool more, .func (.func F) #[] #[]], lv] w (Made (.int .i64 (chkN (fitAllB ks l))) w) := by
  have H := Lib.hid h
  have KS := Lib.hid hks
  have K6 := Lib.hid hk6
  have hl := h.len
  unfold maxLen at hl
  obtain ⟨ao, cap, rfl⟩ := h.shape
  have HK := Lib.hid hk
  obtain ⟨hk0, hk2⟩ := hk
  clear h hks hk6
  obtain ⟨n1, hn1⟩ : ∃ n1, ks.length = n1 + 1 := ⟨ks.length - 1, by omega⟩
  have hks1 : ((ks.length : Int) - 1) = (n1 : Int) := by omega
  have hwr : IntKind.i64.wrap (n1 : Int) = (n1 : Int) := wrap_small (by omega)
  have N1 := Lib.hid hn1
  clear hk0 hk2 hn1
  rcases hn with ⟨hmo, hn⟩ | hn
  all_goals
    go_enter Tryd.func16, Tryd.ntmps16
    go_wp2_with fail
    clear hln hn
    have S0 := Lib.hid (heap_alloc_new w (.cells #[.slice (some ⟨g, 0, none⟩) ks.length ks.length, .bool more, .func (.func F) #[] #[]] 42))
    have B0 := Lib.hid (show Kept w _ from below_al (Below.refl w.heap.size w) (.cells #[.slice (some ⟨g, 0, none⟩) ks.length ks.length, .bool more, .func (.func F) #[] #[]] 42))
    generalize w.alloc (.cells #[.slice (some ⟨g, 0, none⟩) ks.length ks.length, .bool more, .func (.func F) #[] #[]] 42) = wa at *
    generalize hG : w.heap.size = G at S0 ⊢
    have HG := Lib.hid hG
    clear hG
    replace H := Lib.hid (H.out.below B0.out)
    go_loopg [28] l.length (fun m iv wr => RelI wa l.length m iv wr (fitUp ks l))
    case atStart => exact ⟨0, rfl, Nat.le_refl _, Nat.zero_le _, Below.refl _ _, fun j u hj => absurd hj (Nat.not_lt_zero _)⟩
    case round =>
      obtain ⟨i, rfl, hm, hi, hb, hu⟩ := hrel
      have HM := Lib.hid hm
      have BR := Lib.hid hb
      have HU := Lib.hid hu
      clear hm hb hu
      by_cases hil : i < l.length
      · obtain ⟨u, eu⟩ : ∃ u, l[i]? = some u := ⟨_, List.getElem?_eq_getElem hil⟩
        obtain ⟨ao2, cap2, e2, hat⟩ := (H.out.below BR.out).at
        simp only [Value.slice.injEq, true_and] at e2
        obtain ⟨rfl, rfl⟩ := e2
        obtain ⟨gg, o, lu, rfl, hD, c0, c1, c2, c3, hr⟩ := hat i u eu
        have R1 := Lib.hid hr
        obtain ⟨lao, lcap, rfl⟩ := hr.shape
        have EU := Lib.hid eu
        clear hat hr hD eu
        have S1 := Lib.hid (show wa.cell? ⟨G, 0, none⟩ = some (.slice (some ⟨g, 0, none⟩) ks.length ks.length) from cell_of_row wa G 0 _ _ _ S0.out)
        go_wp2_with fail
        clear c0 c1 c2 c3
        have X := Lib.hid (VBlk.new wr u (.slice lao u.kids.length lcap))
        have B2 := Lib.hid (below_al BR.out (.cells #[.int .i64 u.kind, .int .i64 u.num, .string u.text, .slice lao u.kids.length lcap] 26))
        have R2 := Lib.hid (R1.out.below (below_al (Below.refl _ _) (.cells #[.int .i64 u.kind, .int .i64 u.num, .string u.text, .slice lao u.kids.length lcap] 26)))
        generalize wr.alloc (.cells #[.int .i64 u.kind, .int .i64 u.num, .string u.text, .slice lao u.kids.length lcap] 26) = w2 at *
        generalize wr.heap.size = G2 at X ⊢
        have s0 : w2.cell? ⟨G, 0, none⟩ = some (.slice (some ⟨g, 0, none⟩) ks.length ks.length) := hold B2.out S1.out
        by_cases hlt : n1 < i
        · have hlt2 : (n1 : Int) < (i : Int) := by omega
          obtain ⟨k, ek⟩ : ∃ k, ks[n1]? = some k := ⟨_, List.getElem?_eq_getElem (by have := N1.out; omega)⟩
          have KA := Lib.hid (show kindAt ks i = k by unfold kindAt; rw [N1.out, show min i (n1 + 1 - 1) = n1 by omega, List.getD_eq_getElem?_getD, ek]; rfl)
          have k6 := K6.out k (List.mem_of_getElem? ek)
          have kc := hold B2.out (hold B0.out (KS.out _ _ ek))
          have hx0 : (n1 : Int) < (ks.length : Int) := by have := N1.out; omega
          have FF := Lib.hid (ffits w2.drew (D - 1) k k6 u _ (R2.out.below (below_drew (Below.refl _ _))))
          clear ek k6
          obtain ⟨x0, x1, x2, x3⟩ := X.out.cells
          go_still_tail 11, (by kernel_rfl)
          change wpList _ _ _ _ _ w2.drew
          cases hf : fitsB k u
          · have AF := Lib.hid (show fitAllB ks l = false from fitAllB_bad EU.out (by rw [KA.out]; exact hf))
            rw [hf] at FF
            clear hf
            go_wp2_with (go_at_call 40; refine FF.out.mono ?_; rintro e w3 ⟨rfl, hb3⟩; have B3 := Lib.hid (below_tr B2.out (below_tr (below_drew (Below.refl w2.heap.size w2)) hb3)); clear hb3)
            go_ret
            exact ⟨by rw [AF.out]; rfl, below_tr B0.out B3.out⟩
          · have AF := Lib.hid (fitUp_succ HU.out EU.out (by rw [KA.out]; exact hf))
            rw [hf] at FF
            clear hf
            go_wp2_with (go_at_call 40; refine FF.out.mono ?_; rintro e w3 ⟨rfl, hb3⟩; have B3 := Lib.hid (below_tr B2.out (below_tr (below_drew (Below.refl w2.heap.size w2)) hb3)); clear hb3)
            go_roundg (l.length - (i + 1))
            case rel => exact ⟨i + 1, rfl, Nat.le_refl _, hil, B3.out, AF.out⟩
            case measure => have := HM.out; omega
        · have hlt2 : ¬ (n1 : Int) < (i : Int) := by omega
          obtain ⟨k, ek⟩ : ∃ k, ks[i]? = some k := ⟨_, List.getElem?_eq_getElem (by have := N1.out; omega)⟩
          have KA := Lib.hid (show kindAt ks i = k by unfold kindAt; rw [N1.out, show min i (n1 + 1 - 1) = i by omega, List.getD_eq_getElem?_getD, ek]; rfl)
          have k6 := K6.out k (List.mem_of_getElem? ek)
          have kc := hold B2.out (hold B0.out (KS.out _ _ ek))
          have hx0 : (i : Int) < (ks.length : Int) := by have := N1.out; omega
          have FF := Lib.hid (ffits w2.drew (D - 1) k k6 u _ (R2.out.below (below_drew (Below.refl _ _))))
          clear ek k6
          obtain ⟨x0, x1, x2, x3⟩ := X.out.cells
          go_still_tail 11, (by kernel_rfl)
          change wpList _ _ _ _ _ w2.drew
          cases hf : fitsB k u
          · have AF := Lib.hid (show fitAllB ks l = false from fitAllB_bad EU.out (by rw [KA.out]; exact hf))
            rw [hf] at FF
            clear hf
            go_wp2_with (go_at_call 40; refine FF.out.mono ?_; rintro e w3 ⟨rfl, hb3⟩; have B3 := Lib.hid (below_tr B2.out (below_tr (below_drew (Below.refl w2.heap.size w2)) hb3)); clear hb3)
            go_ret
            exact ⟨by rw [AF.out]; rfl, below_tr B0.out B3.out⟩
          · have AF := Lib.hid (fitUp_succ HU.out EU.out (by rw [KA.out]; exact hf))
            rw [hf] at FF
            clear hf
            go_wp2_with (go_at_call 40; refine FF.out.mono ?_; rintro e w3 ⟨rfl, hb3⟩; have B3 := Lib.hid (below_tr B2.out (below_tr (below_drew (Below.refl w2.heap.size w2)) hb3)); clear hb3)
            go_roundg (l.length - (i + 1))
            case rel => exact ⟨i + 1, rfl, Nat.le_refl _, hil, B3.out, AF.out⟩
            case measure => have := HM.out; omega
      · have e : l.length = i := by omega
        have AT := Lib.hid (show fitAllB ks l = true from fitAllB_ok (by rw [e]; exact HU.out))
        clear e
        go_wp2_with fail
        go_ret
        exact ⟨by rw [AT.out]; rfl, below_tr B0.out BR.out⟩
end
end Go.Proofs.YtoaachefdbepiaaDoor
