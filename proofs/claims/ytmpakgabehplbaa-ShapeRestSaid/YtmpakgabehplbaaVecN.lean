/- Rows of amounts that a call itself makes. -/
import Derived.Test.YtmpakgabehplbaaBase
import Derived.Still
import Derived.Below
import Derived.Tactics
import Derived.Deep.LoopGhost
namespace Go.Proofs.Ytmpakgabehplbaa
open Go.RowKit
set_option linter.unusedVariables false
set_option linter.unusedSimpArgs false

/-- An amount. -/
structure V3 where
  c : Int
  m : Int
  p : Int
def V3.val (v : V3) : Value := .agg #[.int .i64 v.c, .int .i64 v.m, .int .i64 v.p]
def V3.cells (v : V3) : List Value := [.int .i64 v.c, .int .i64 v.m, .int .i64 v.p]
def z3 : V3 := ⟨0, 0, 0⟩
/-- Each number at most b, above or below nought. -/
def V3.Upto (b : Int) (v : V3) : Prop := (-b ≤ v.c ∧ v.c ≤ b) ∧ (-b ≤ v.m ∧ v.m ≤ b) ∧ (-b ≤ v.p ∧ v.p ≤ b)
def V3.I (v : V3) : Prop := (-9223372036854775808 ≤ v.c ∧ v.c ≤ 9223372036854775807) ∧ (-9223372036854775808 ≤ v.m ∧ v.m ≤ 9223372036854775807) ∧ (-9223372036854775808 ≤ v.p ∧ v.p ≤ 9223372036854775807)
/-- Row l as the slice value lv reads. -/
def VRow (w : World) (l : List V3) (lv : Value) : Prop := ∃ ao cap, lv = .slice ao l.length cap ∧ l.length ≤ cap ∧ ∀ (i : Nat) (u : V3), l[i]? = some u → ∃ g o, ao = some ⟨g, o, none⟩ ∧
  w.cell? ⟨g, o + i * 3, none⟩ = some (.int .i64 u.c) ∧ w.cell? ⟨g, o + i * 3 + 1, none⟩ = some (.int .i64 u.m) ∧ w.cell? ⟨g, o + i * 3 + 2, none⟩ = some (.int .i64 u.p)
theorem VRow.below {w w' : World} {l : List V3} {lv : Value} (h : VRow w l lv) (hb : Below w.heap.size w w') : VRow w' l lv := by
  obtain ⟨ao, cap, e, hcap, hc⟩ := h
  refine ⟨ao, cap, e, hcap, fun i u hu => ?_⟩
  obtain ⟨g, o, e2, c0, c1, c2⟩ := hc i u hu
  exact ⟨g, o, e2, hold hb c0, hold hb c1, hold hb c2⟩
theorem VRow.nil (w : World) : VRow w [] (.slice none 0 0) := ⟨none, 0, rfl, Nat.le_refl _, fun i u hu => by simp at hu⟩
/-- A block of one amount. -/
def CBlk (w : World) (g : Nat) (v : V3) : Prop := w.heap[g]? = some (.cells #[.int .i64 v.c, .int .i64 v.m, .int .i64 v.p] 24 (0, 0))
theorem CBlk.lt {w : World} {g : Nat} {v : V3} (h : CBlk w g v) : g < w.heap.size := by
  rcases Nat.lt_or_ge g w.heap.size with hlt | hge
  · exact hlt
  · unfold CBlk at h; rw [Array.getElem?_eq_none hge] at h; cases h
theorem CBlk.cells {w : World} {g : Nat} {v : V3} (h : CBlk w g v) :
    w.cell? ⟨g, 0, none⟩ = some (.int .i64 v.c) ∧ w.cell? ⟨g, 1, none⟩ = some (.int .i64 v.m) ∧ w.cell? ⟨g, 2, none⟩ = some (.int .i64 v.p) ∧ g < w.heap.size :=
  ⟨cell_of_row w g 0 _ _ _ h, cell_of_row w g 1 _ _ _ h, cell_of_row w g 2 _ _ _ h, h.lt⟩
theorem CBlk.free {w : World} {g : Nat} {v : V3} (h : CBlk w g v) (o : Nat) : w.frozen? ⟨g, o, none⟩ = false := by
  unfold CBlk at h
  simp [World.frozen?, h]
theorem CBlk.below {w w' : World} {g : Nat} {v : V3} (h : CBlk w g v) (hb : Below w.heap.size w w') : CBlk w' g v := (hb.block g h.lt).trans h
theorem CBlk.new (w : World) (v : V3) : CBlk (w.alloc (.cells #[.int .i64 v.c, .int .i64 v.m, .int .i64 v.p] 24)) w.heap.size v := heap_alloc_new w _
theorem CBlk.al {w : World} {g : Nat} {v : V3} (h : CBlk w g v) (O : Obj) : CBlk (w.alloc O) g v := h.below (below_al (Below.refl _ _) _)
theorem CBlk.set {w : World} {g : Nat} {v : V3} (h : CBlk w g v) (u : V3) : CBlk (((w.setCell ⟨g, 0, none⟩ (.int .i64 u.c)).setCell ⟨g, 1, none⟩ (.int .i64 u.m)).setCell ⟨g, 2, none⟩ (.int .i64 u.p)) g u := by
  have h0 := heap_setCell_same w g 0 _ _ (.int .i64 u.c) h
  have h1 := heap_setCell_same _ g 1 _ _ (.int .i64 u.m) h0
  exact heap_setCell_same _ g 2 _ _ (.int .i64 u.p) h1
theorem CBlk.far {w : World} {g f : Nat} {v : V3} (h : CBlk w g v) (hf : g ≠ f) (a b c : Value) : CBlk (((w.setCell ⟨f, 0, none⟩ a).setCell ⟨f, 1, none⟩ b).setCell ⟨f, 2, none⟩ c) g v := by
  unfold CBlk at *
  rw [Below.heap_setCell _ _ _ _ hf, Below.heap_setCell _ _ _ _ hf, Below.heap_setCell _ _ _ _ hf]; exact h
theorem below_set3 {B : Nat} {w W : World} (h : Below B w W) {g : Nat} (hg : B ≤ g) (v0 v1 v2 : Value) : Below B w (((W.setCell ⟨g, 0, none⟩ v0).setCell ⟨g, 1, none⟩ v1).setCell ⟨g, 2, none⟩ v2) :=
  ((h.setCell hg _).setCell hg _).setCell hg _
def addV (a b : V3) : V3 := ⟨a.c + b.c, a.m + b.m, a.p + b.p⟩
def subV (a b : V3) : V3 := ⟨a.c - b.c, a.m - b.m, a.p - b.p⟩
def leV (a b : V3) : Bool := decide (a.c ≤ b.c) && decide (a.m ≤ b.m) && decide (a.p ≤ b.p)
def sumV (l : List V3) : V3 := l.foldl addV z3
def max2V (a b : V3) : V3 := ⟨max a.c b.c, max a.m b.m, max a.p b.p⟩
def mostV : V3 := ⟨1099511627776, 1099511627776, 1099511627776⟩
def mayV (v : V3) : Bool := leV z3 v && leV v mostV
section
variable (w : World)
theorem vle_any (a b : V3) : Calls Try.prog 41 #[.agg #[.int .i64 a.c, .int .i64 a.m, .int .i64 a.p], .agg #[.int .i64 b.c, .int .i64 b.m, .int .i64 b.p]] w (Made (.bool (leV a b)) w) := by
  have E : Hid (leV a b = (decide (a.c ≤ b.c) && decide (a.m ≤ b.m) && decide (a.p ≤ b.p))) := rfl
  by_cases h1 : a.c ≤ b.c
  · by_cases h2 : a.m ≤ b.m
    · by_cases h3 : a.p ≤ b.p
      all_goals
        go_enter Try.func41, Try.ntmps41
        go_wp2_with fail
        go_ret
        exact ⟨by rw [E.out]; simp [h1, h2, h3], below_al (below_al (Below.refl _ _) _) _⟩
    · go_enter Try.func41, Try.ntmps41
      go_wp2_with fail
      go_ret
      exact ⟨by rw [E.out]; simp; omega, below_al (below_al (Below.refl _ _) _) _⟩
  · go_enter Try.func41, Try.ntmps41
    go_wp2_with fail
    go_ret
    exact ⟨by rw [E.out]; simp; omega, below_al (below_al (Below.refl _ _) _) _⟩
theorem vsub_any (a b : V3) (h : (subV a b).I) : Calls Try.prog 71 #[.agg #[.int .i64 a.c, .int .i64 a.m, .int .i64 a.p], .agg #[.int .i64 b.c, .int .i64 b.m, .int .i64 b.p]] w (Made (.agg #[.int .i64 (subV a b).c, .int .i64 (subV a b).m, .int .i64 (subV a b).p]) w) := by
  obtain ⟨⟨h1, h2⟩, ⟨h3, h4⟩, ⟨h5, h6⟩⟩ := h
  unfold subV at *
  simp only at h1 h2 h3 h4 h5 h6 ⊢
  go_enter Try.func71, Try.ntmps71
  go_wp2_with fail
  exact bodyPost_ret (v := .agg #[.int .i64 (a.c - b.c), .int .i64 (a.m - b.m), .int .i64 (a.p - b.p)]) (by simp [results, Try.results71, go_sem]) rfl ⟨rfl, below_al (below_al (below_al (Below.refl _ _) _) _) _⟩
theorem vmost_any : Calls Try.prog 58 #[] w (Made mostV.val w) := by
  go_enter Try.func58, Try.ntmps58
  go_wp2_with fail
  exact bodyPost_ret (v := mostV.val) (by simp [results, Try.results58, go_sem, mostV, V3.val]) rfl ⟨rfl, below_al (Below.refl _ _) _⟩
set_option maxHeartbeats 4000000 in
set_option maxRecDepth 20000 in
theorem vadd_any (l : List V3) (lv : Value) (h : VRow w l lv) (hl : l.length ≤ 1000) (hb : ∀ v ∈ l, v.Upto 4611686018427387) :
    Calls Try.prog 70 #[lv] w (Made (.agg #[.int .i64 (sumV l).c, .int .i64 (sumV l).m, .int .i64 (sumV l).p]) w) := by
  obtain ⟨ao, cap, rfl, hcap, hat⟩ := h
  have HAT := Lib.hid hat
  have HB := Lib.hid hb
  clear hat hb hcap
  go_enter Try.func70, Try.ntmps70
  go_wp2_with fail
  have R0 := Lib.hid ((CBlk.new w z3).al (.cells #[.int .i64 0, .int .i64 0, .int .i64 0] 24))
  have T0 := Lib.hid (show CBlk ((w.alloc (.cells #[.int .i64 0, .int .i64 0, .int .i64 0] 24)).alloc (.cells #[.int .i64 0, .int .i64 0, .int .i64 0] 24)) (w.heap.size + 1) z3 from heap_at (by simp))
  have B0 := Lib.hid (below_al (below_al (Below.refl w.heap.size w) (.cells #[.int .i64 0, .int .i64 0, .int .i64 0] 24)) (.cells #[.int .i64 0, .int .i64 0, .int .i64 0] 24))
  go_loopg [8] l.length (fun m iv wr => ∃ (k : Nat) (s : V3), iv = .int .i64 k ∧ l.length - k ≤ m ∧ k ≤ l.length ∧ Below w.heap.size w wr ∧ CBlk wr (w.heap.size + 1) s ∧ CBlk wr w.heap.size z3 ∧ s.Upto ((k : Int) * 4611686018427387) ∧ Hid (sumV l = (l.drop k).foldl addV s))
  case atStart => exact ⟨0, z3, rfl, Nat.le_refl _, Nat.zero_le _, B0.out, T0.out, R0.out, by simp [V3.Upto, z3], Lib.hid rfl⟩
  case round =>
    obtain ⟨k, s, rfl, hm, hk, hb, hT, hR, hU, SU⟩ := hrel
    have HM := Lib.hid hm
    have BR := Lib.hid hb
    have TB := Lib.hid hT
    have RB := Lib.hid hR
    have UB := Lib.hid hU
    clear hm hb hT hR
    obtain ⟨t0, t1, t2, tl⟩ := TB.out.cells
    by_cases hlt : k < l.length
    · obtain ⟨u, hu⟩ : ∃ u, l[k]? = some u := ⟨_, List.getElem?_eq_getElem hlt⟩
      obtain ⟨g, o, rfl, c0, c1, c2⟩ := HAT.out k u hu
      have k0 := hold BR.out c0
      have k1 := hold BR.out c1
      have k2 := hold BR.out c2
      have DR := Lib.hid (show l.drop k = u :: l.drop (k + 1) by
        rw [List.drop_eq_getElem_cons hlt]
        congr 1
        exact (List.getElem?_eq_some_iff.1 hu).2)
      have UU := Lib.hid (HB.out u (List.mem_of_getElem? hu))
      have SN := Lib.hid (show sumV l = (l.drop (k + 1)).foldl addV (addV s u) by rw [SU.out, DR.out]; rfl)
      obtain ⟨⟨a1, a2⟩, ⟨a3, a4⟩, ⟨a5, a6⟩⟩ := hU
      obtain ⟨⟨b1, b2⟩, ⟨b3, b4⟩, ⟨b5, b6⟩⟩ := UU.out
      have d1 : -9223372036854775808 ≤ s.c + u.c ∧ s.c + u.c ≤ 9223372036854775807 := by omega
      have d2 : -9223372036854775808 ≤ s.m + u.m ∧ s.m + u.m ≤ 9223372036854775807 := by omega
      have d3 : -9223372036854775808 ≤ s.p + u.p ∧ s.p + u.p ≤ 9223372036854775807 := by omega
      have UN := Lib.hid (show (addV s u).Upto (((k + 1 : Nat) : Int) * 4611686018427387) by
        unfold V3.Upto addV; simp only; omega)
      obtain ⟨d1, d1'⟩ := d1
      obtain ⟨d2, d2'⟩ := d2
      obtain ⟨d3, d3'⟩ := d3
      have f0 := TB.out.free 0
      have f1 := TB.out.free 1
      have f2 := TB.out.free 2
      clear c0 c1 c2 hu a1 a2 a3 a4 a5 a6 b1 b2 b3 b4 b5 b6
      go_wp2_with fail
      go_roundg (l.length - (k + 1))
      case rel => exact ⟨k + 1, addV s u, by go_num, Nat.le_refl _, hlt, below_al (below_set3 BR.out (Nat.le_succ _) _ _ _) _, (TB.out.set (addV s u)).al _, (RB.out.far (by omega) _ _ _).al _, UN.out, SN⟩
      case measure => have := HM.out; omega
    · obtain rfl : k = l.length := by omega
      have SN := Lib.hid (show sumV l = s by rw [SU.out, List.drop_of_length_le (Nat.le_refl _)]; rfl)
      obtain ⟨r0, r1, r2, rl⟩ := RB.out.cells
      have f0 := RB.out.free 0
      have f1 := RB.out.free 1
      have f2 := RB.out.free 2
      go_wp2_with fail
      exact bodyPost_ret (v := .agg #[.int .i64 s.c, .int .i64 s.m, .int .i64 s.p]) (by simp [results, Try.results70, go_sem, r0, r1, r2]) rfl ⟨by rw [SN.out], below_set3 BR.out (Nat.le_refl _) _ _ _⟩
def maxV : List V3 → V3
  | [] => z3
  | x :: xs => xs.foldl max2V x
end
end Go.Proofs.Ytmpakgabehplbaa
namespace Go.Proofs.Ytmpakgabehplbaa
open Go.RowKit
set_option linter.unusedVariables false

/-- What a slot holds: one value, or some value of which g holds, and goes on to hold. -/
inductive Asr where
  | is (v : Value)
  | any (g : Value → World → Prop)
def Asr.holds : Asr → Value → World → Prop
  | .is v, u, _ => u = v
  | .any g, u, w => g u w
def Asr.stays : Asr → Prop
  | .is _ => True
  | .any g => ∀ v w w', g v w → Below w.heap.size w w' → g v w'
def fillA : List Asr → Nat → (Nat → Value) → List Value
  | [], _, _ => []
  | .is v :: r, k, us => v :: fillA r (k + 1) us
  | .any _ :: r, k, us => us k :: fillA r (k + 1) us
def setD (F : List Asr) : Option Tmp → Asr → List Asr
  | none, _ => F
  | some d, r => F.set d r
/-- The operation, whatever came up ahead of it: of what it looks at F is known. -/
def opOK (P : Program) (ops : Array Oper) (w0 : World) (ds : List Deferred) (F : List Asr) (o : Oper) (r : Asr) : Prop :=
  ∀ (us : Nat → Value) (w : World), Below w0.heap.size w0 w → (∀ t ∈ o.looksAt ops, ∀ (g : Value → World → Prop), F[t]? = some (Asr.any g) → g (us t) w) →
    ∀ K : Act → World → Prop, (∀ v w', r.holds v w' → Below w.heap.size w w' → K ((⟨(fillA F 0 us).toArray, ds⟩ : Act).put o.dst v) w') →
      if Region.wanted o (yielded ops (fillA F 0 us).toArray) = true then o.wp P ⟨(fillA F 0 us).toArray, ds⟩ w K (fun _ _ _ => False)
      else K ((⟨(fillA F 0 us).toArray, ds⟩ : Act).put o.dst undef) w
def wpM (P : Program) (ops : Array Oper) (w0 : World) (ds : List Deferred) (Q : Exit → Act → World → Prop) : List Oper → List Asr → Prop
  | [], F => ∀ (us : Nat → Value) (w : World), Below w0.heap.size w0 w → (∀ (t : Nat) (g : Value → World → Prop), F[t]? = some (Asr.any g) → g (us t) w) → Q .normal ⟨(fillA F 0 us).toArray, ds⟩ w
  | o :: rest, F => ∃ r : Asr, r.stays ∧ opOK P ops w0 ds F o r ∧ wpM P ops w0 ds Q rest (setD F o.dst r)
section
variable {P : Program} {ops : Array Oper} {w0 : World} {ds : List Deferred} {Q : Exit → Act → World → Prop} {md : Region.Mode}

theorem wpM_is {o : Oper} {rest : List Oper} {F : List Asr} {v : Value} (h : ∀ (us : Nat → Value) (w : World), Below w0.heap.size w0 w → (∀ t ∈ o.looksAt ops, ∀ (g : Value → World → Prop), F[t]? = some (Asr.any g) → g (us t) w) →
    ∀ K : Act → World → Prop, (∀ w', Below w.heap.size w w' → K ((⟨(fillA F 0 us).toArray, ds⟩ : Act).put o.dst v) w') →
      if Region.wanted o (yielded ops (fillA F 0 us).toArray) = true then o.wp P ⟨(fillA F 0 us).toArray, ds⟩ w K (fun _ _ _ => False) else K ((⟨(fillA F 0 us).toArray, ds⟩ : Act).put o.dst undef) w)
    (hr : wpM P ops w0 ds Q rest (setD F o.dst (.is v))) : wpM P ops w0 ds Q (o :: rest) F :=
  ⟨.is v, trivial, fun us w hw hg K hK => h us w hw hg K fun w' hb => hK v w' rfl hb, hr⟩
theorem wpM_any {o : Oper} {rest : List Oper} {F : List Asr} (g : Value → World → Prop) (hs : ∀ v w w', g v w → Below w.heap.size w w' → g v w') (h : opOK P ops w0 ds F o (.any g)) (hr : wpM P ops w0 ds Q rest (setD F o.dst (.any g))) : wpM P ops w0 ds Q (o :: rest) F :=
  ⟨.any g, hs, h, hr⟩

/-- What is known behind the first k operations. -/
def phiFrom (l : List Oper) (G : Nat → Asr) (F : List Asr) : Nat → List Asr
  | 0 => F
  | k + 1 => setD (phiFrom l G F k) ((l[k]?).bind (·.dst)) (G k)
theorem phiFrom_cons (o : Oper) (l : List Oper) (r : Asr) (G : Nat → Asr) (F : List Asr) : ∀ k, phiFrom (o :: l) (fun | 0 => r | j + 1 => G j) F (k + 1) = phiFrom l G (setD F o.dst r) k
  | 0 => by simp [phiFrom]
  | k + 1 => by
    rw [phiFrom, phiFrom_cons o l r G F k]
    simp [phiFrom]
theorem wpM_parts : ∀ (l : List Oper) (F : List Asr), wpM P ops w0 ds Q l F → ∃ G : Nat → Asr, (∀ j o, l[j]? = some o → (G j).stays ∧ opOK P ops w0 ds (phiFrom l G F j) o (G j)) ∧
    (∀ (us : Nat → Value) (w : World), Below w0.heap.size w0 w → (∀ (t : Nat) (g : Value → World → Prop), (phiFrom l G F l.length)[t]? = some (Asr.any g) → g (us t) w) → Q .normal ⟨(fillA (phiFrom l G F l.length) 0 us).toArray, ds⟩ w)
  | [], F, h => ⟨fun _ => Asr.is undef, fun j o h => by simp at h, h⟩
  | o :: l, F, ⟨r, hs, hok, h⟩ => by
    obtain ⟨G, h1, h2⟩ := wpM_parts l _ h
    refine ⟨fun | 0 => r | j + 1 => G j, fun j o' hj => ?_, ?_⟩
    · cases j with
      | zero => simp at hj; subst hj; exact ⟨hs, hok⟩
      | succ j =>
        rw [phiFrom_cons]
        exact h1 j o' (by simpa using hj)
    · rw [List.length_cons, phiFrom_cons]; exact h2
theorem setD_get (F : List Asr) (d : Option Tmp) (r : Asr) (t : Nat) : (setD F d r)[t]? = if d = some t ∧ t < F.length then some r else F[t]? := by
  cases d with
  | none => simp [setD]
  | some d =>
    simp only [setD, Option.some.injEq, List.getElem?_set]
    by_cases h : d = t
    · subst h
      by_cases h2 : d < F.length
      · simp [h2]
      · simp [h2]
    · simp [h]
theorem setD_length (F : List Asr) (d : Option Tmp) (r : Asr) : (setD F d r).length = F.length := by cases d <;> simp [setD]
theorem phi_length (l : List Oper) (G : Nat → Asr) (F : List Asr) : ∀ k, (phiFrom l G F k).length = F.length
  | 0 => rfl
  | k + 1 => by rw [phiFrom, setD_length, phi_length l G F k]
theorem fillA_get (us : Nat → Value) : ∀ (F : List Asr) (k t : Nat), (fillA F k us)[t]? = (F[t]?).map fun | .is v => v | .any _ => us (k + t)
  | [], _, _ => by simp [fillA]
  | .is v :: r, k, 0 => by simp [fillA]
  | .any g :: r, k, 0 => by simp [fillA]
  | .is v :: r, k, t + 1 => by simp [fillA, fillA_get us r (k + 1) t, Nat.add_assoc, Nat.add_comm 1 t]
  | .any g :: r, k, t + 1 => by simp [fillA, fillA_get us r (k + 1) t, Nat.add_assoc, Nat.add_comm 1 t]
theorem fillA_length (us : Nat → Value) : ∀ (F : List Asr) (k : Nat), (fillA F k us).length = F.length
  | [], _ => rfl
  | .is v :: r, k => by simp [fillA, fillA_length us r (k + 1)]
  | .any g :: r, k => by simp [fillA, fillA_length us r (k + 1)]
/-- G says no more than F: the same slot by slot, or nothing. -/
inductive Weak : List Asr → List Asr → Prop
  | nil : Weak [] []
  | same {a : Asr} {F G : List Asr} : Weak F G → Weak (a :: F) (a :: G)
  | any {a : Asr} {F G : List Asr} : Weak F G → Weak (a :: F) (.any (fun _ _ => True) :: G)
theorem Weak.set {F G : List Asr} (h : Weak F G) : ∀ (d : Nat) (r : Asr), Weak (F.set d r) (G.set d r) := by
  induction h with
  | nil => intro d r; exact .nil
  | @same a F G h ih =>
    intro d r
    cases d with
    | zero => exact .same h
    | succ d => exact .same (ih d r)
  | @any a F G h ih =>
    intro d r
    cases d with
    | zero => exact .same h
    | succ d => exact .any (ih d r)
theorem Weak.setD {F G : List Asr} (h : Weak F G) (d : Option Tmp) (r : Asr) : Weak (Go.Proofs.Ytmpakgabehplbaa.setD F d r) (Go.Proofs.Ytmpakgabehplbaa.setD G d r) := by
  cases d with
  | none => exact h
  | some d => exact h.set d r
theorem Weak.fill {F G : List Asr} (h : Weak F G) (us : Nat → Value) : ∀ (k : Nat) (vs : Nat → Value), (∀ t v, (fillA F k us)[t]? = some v → vs (k + t) = v) → fillA G k vs = fillA F k us := by
  induction h with
  | nil => intro k vs _; rfl
  | @same a F G h ih =>
    intro k vs hv
    cases a with
    | is v =>
      show v :: fillA G (k + 1) vs = v :: fillA F (k + 1) us
      rw [ih (k + 1) vs (fun t v ht => by rw [show k + 1 + t = k + (t + 1) by omega]; exact hv (t + 1) v ht)]
    | any g =>
      show vs k :: fillA G (k + 1) vs = us k :: fillA F (k + 1) us
      rw [ih (k + 1) vs (fun t v ht => by rw [show k + 1 + t = k + (t + 1) by omega]; exact hv (t + 1) v ht), show vs k = us k from hv 0 _ rfl]
  | @any a F G h ih =>
    intro k vs hv
    have e := ih (k + 1) vs (fun t v ht => by
      rw [show k + 1 + t = k + (t + 1) by omega]
      refine hv (t + 1) v ?_
      cases a <;> exact ht)
    cases a with
    | is v =>
      show vs k :: fillA G (k + 1) vs = v :: fillA F (k + 1) us
      rw [e, show vs k = v from hv 0 _ rfl]
    | any g =>
      show vs k :: fillA G (k + 1) vs = us k :: fillA F (k + 1) us
      rw [e, show vs k = us k from hv 0 _ rfl]
theorem Weak.known {F G : List Asr} (h : Weak F G) : ∀ (t : Nat) (g : Value → World → Prop), G[t]? = some (Asr.any g) → F[t]? = some (Asr.any g) ∨ g = fun _ _ => True := by
  induction h with
  | nil => intro t g h; simp at h
  | same h ih =>
    intro t g hg
    cases t with
    | zero => exact .inl hg
    | succ t => exact ih t g hg
  | any h ih =>
    intro t g hg
    cases t with
    | zero => right; simp at hg; exact hg.symm
    | succ t => exact ih t g hg
/-- The values that G's open slots have where F's are filled. -/
theorem Weak.same_fill {F G : List Asr} (h : Weak F G) (us : Nat → Value) : fillA G 0 (fun t => (fillA F 0 us).getD t undef) = fillA F 0 us :=
  h.fill us 0 _ fun t v ht => by
    show (fillA F 0 us).getD (0 + t) undef = v
    rw [Nat.zero_add, List.getD_eq_getElem?_getD, ht]; rfl
theorem Weak.at_any {F G : List Asr} (h : Weak F G) (us : Nat → Value) {w : World} {t : Nat} {g : Value → World → Prop} (hg : G[t]? = some (Asr.any g)) (hF : F[t]? = some (Asr.any g) → g (us t) w) : g ((fillA F 0 us).getD t undef) w := by
  rcases h.known t g hg with h1 | rfl
  · have h2 := hF h1
    have : (fillA F 0 us)[t]? = some (us t) := by rw [fillA_get, h1]; simp
    rw [List.getD_eq_getElem?_getD, this]; exact h2
  · trivial
theorem wpM_weak : ∀ (l : List Oper) {F G : List Asr}, Weak F G → wpM P ops w0 ds Q l G → wpM P ops w0 ds Q l F
  | [], F, G, h, hG => fun us w hb hg => by
    have := hG (fun t => (fillA F 0 us).getD t undef) w hb (fun t g h2 => h.at_any us h2 (hg t g))
    rwa [h.same_fill] at this
  | o :: l, F, G, h, ⟨A, hs, hok, hr⟩ => ⟨A, hs, fun us w hb hg K hK => by
    have := hok (fun t => (fillA F 0 us).getD t undef) w hb (fun t ht g h2 => h.at_any us h2 (hg t ht g)) K (fun v w' h1 h2 => by rw [h.same_fill]; exact hK v w' h1 h2)
    rwa [h.same_fill] at this, wpM_weak l (h.setD o.dst A) hr⟩
/-- So far, and then no less is known than G. -/
def wpTo (P : Program) (ops : Array Oper) (w0 : World) (ds : List Deferred) (G : List Asr) : List Oper → List Asr → Prop
  | [], F => Weak F G
  | o :: rest, F => ∃ r : Asr, r.stays ∧ opOK P ops w0 ds F o r ∧ wpTo P ops w0 ds G rest (setD F o.dst r)
theorem wpTo_is {G : List Asr} {o : Oper} {rest : List Oper} {F : List Asr} {v : Value} (h : ∀ (us : Nat → Value) (w : World), Below w0.heap.size w0 w → (∀ t ∈ o.looksAt ops, ∀ (g : Value → World → Prop), F[t]? = some (Asr.any g) → g (us t) w) →
    ∀ K : Act → World → Prop, (∀ w', Below w.heap.size w w' → K ((⟨(fillA F 0 us).toArray, ds⟩ : Act).put o.dst v) w') →
      if Region.wanted o (yielded ops (fillA F 0 us).toArray) = true then o.wp P ⟨(fillA F 0 us).toArray, ds⟩ w K (fun _ _ _ => False) else K ((⟨(fillA F 0 us).toArray, ds⟩ : Act).put o.dst undef) w)
    (hr : wpTo P ops w0 ds G rest (setD F o.dst (.is v))) : wpTo P ops w0 ds G (o :: rest) F :=
  ⟨.is v, trivial, fun us w hw hg K hK => h us w hw hg K fun w' hb => hK v w' rfl hb, hr⟩
theorem wpTo_any {G : List Asr} {o : Oper} {rest : List Oper} {F : List Asr} (g : Value → World → Prop) (hs : ∀ v w w', g v w → Below w.heap.size w w' → g v w') (h : opOK P ops w0 ds F o (.any g)) (hr : wpTo P ops w0 ds G rest (setD F o.dst (.any g))) : wpTo P ops w0 ds G (o :: rest) F :=
  ⟨.any g, hs, h, hr⟩
theorem wpTo_then {G : List Asr} : ∀ (a b : List Oper) {F : List Asr}, wpTo P ops w0 ds G a F → wpM P ops w0 ds Q b G → wpM P ops w0 ds Q (a ++ b) F
  | [], b, F, h, hb => wpM_weak b h hb
  | o :: a, b, F, ⟨A, hs, hok, hr⟩, hb => ⟨A, hs, hok, wpTo_then a b hr hb⟩
/-- Slots of which nothing is said any more. -/
def maskA : List Bool → List Asr → List Asr
  | [], F => F
  | _ :: _, [] => []
  | true :: m, _ :: F => .any (fun _ _ => True) :: maskA m F
  | false :: m, a :: F => a :: maskA m F
/-- **A region in parts**: the first n operations, whatever way they go, end in what is said of slot d; the others go on from there once for all ways. -/
theorem wpM_cut {l : List Oper} {F : List Asr} (n : Nat) (m : List Bool) (d : Tmp) (v : Value) (h1 : wpTo P ops w0 ds (setD (maskA m F) (some d) (.is v)) (l.take n) F) (h2 : wpM P ops w0 ds Q (l.drop n) (setD (maskA m F) (some d) (.is v))) : wpM P ops w0 ds Q l F := by
  have := wpTo_then (l.take n) (l.drop n) h1 h2
  rwa [List.take_append_drop] at this
/-- What the Bool over a region says, operation by operation. -/
theorem lex_facts : ∀ (fuel k : Nat) (listed : Array Bool), listed.size = ops.size → (∀ j, j < ops.size → listed[j]? = some (decide (j < k))) → Region.lexFrom md ops fuel k listed = true →
    ∀ j oj, k ≤ j → j < k + fuel → ops[j]? = some oj → (∀ e ∈ oj.after, Region.binds md e = true → e.on < j) ∧ ∀ m om, j < m → ops[m]? = some om → (∃ e ∈ om.after, Region.binds md e = true ∧ e.on = j) ∨ oj.apart ops om = true
  | 0, k, _, _, _, _ => fun j oj h1 h2 _ => by omega
  | fuel + 1, k, listed, hs, hl, hB => fun j oj h1 h2 hj => by
    simp only [Region.lexFrom, Bool.and_eq_true] at hB
    obtain ⟨⟨hr, hf⟩, hB'⟩ := hB
    by_cases e : j = k
    · subst e
      have hr' : j ∈ Region.ready md ops listed := by simpa using hr
      obtain ⟨h0, o', ho', ha⟩ := mem_ready.1 hr'
      obtain rfl : o' = oj := Option.some.inj (ho'.symm.trans hj)
      constructor
      · intro e he hb
        have h := ha e he hb
        by_cases hlt : e.on < ops.size
        · have h3 := hl e.on hlt
          rw [Array.getD_eq_getD_getElem?, h3] at h
          simpa using h
        · rw [Array.getD_eq_getD_getElem?, Array.getElem?_eq_none (by omega)] at h
          cases h
      · intro m om hm hom
        have hms : m < ops.size := (Array.getElem?_eq_some_iff.1 hom).1
        by_cases hw : ∃ e ∈ om.after, Region.binds md e = true ∧ e.on = j
        · exact .inl hw
        · refine .inr (Region.free_spec hj hf m om hom (by omega) ?_ ?_)
          · rw [Array.getD_eq_getD_getElem?, hl m hms]; simp; omega
          · intro e he hb heq
            exact hw ⟨e, he, hb, heq⟩
    · refine lex_facts fuel (k + 1) _ (by simpa using hs) ?_ hB' j oj (by omega) (by omega) hj
      intro i hi
      by_cases e : k = i
      · subst e
        rw [Array.getElem?_setIfInBounds_self_of_lt (by omega)]; simp
      · rw [Array.getElem?_setIfInBounds_ne e, hl i hi]
        congr 1
        by_cases h : i < k <;> simp [h] <;> omega
structure LexOK (md : Region.Mode) (ops : Array Oper) : Prop where
  nosel : ∀ (j : Nat) (o : Oper) cs b, ops[j]? = some o → o.op ≠ .select cs b
  edge : ∀ j oj, ops[j]? = some oj → ∀ e ∈ oj.after, Region.binds md e = true → e.on < j
  apart : ∀ i j oi oj, i < j → ops[i]? = some oi → ops[j]? = some oj → (∃ e ∈ oj.after, Region.binds md e = true ∧ e.on = i) ∨ oi.apart ops oj = true
theorem lex_ok (h : Region.lexB md ops = true) : LexOK md ops := by
  simp only [Region.lexB, Bool.and_eq_true] at h
  have hf := lex_facts (md := md) (ops := ops) ops.size 0 (Array.replicate ops.size false) (by simp) (fun j hj => by simp [hj]) h.2
  refine ⟨fun j o cs b ho => Region.noSelect_spec h.1 j o cs b ho, fun j oj hj => ?_, fun i j oi oj hij hi hj => ?_⟩
  · exact (hf j oj (by omega) (by have := (Array.getElem?_eq_some_iff.1 hj).1; omega) hj).1
  · exact (hf i oi (by omega) (by have := (Array.getElem?_eq_some_iff.1 hi).1; omega) hi).2 j oj hij hj
/-- What is known where some have come up. -/
def phiL (ops : Array Oper) (G : Nat → Asr) (F : List Asr) (listed : Array Bool) : Nat → List Asr
  | 0 => F
  | k + 1 => if listed.getD k false = true then setD (phiL ops G F listed k) ((ops[k]?).bind (·.dst)) (G k) else phiL ops G F listed k
theorem phiL_succ (G : Nat → Asr) (F : List Asr) (listed : Array Bool) (k : Nat) : phiL ops G F listed (k + 1) = if listed.getD k false = true then setD (phiL ops G F listed k) ((ops[k]?).bind (·.dst)) (G k) else phiL ops G F listed k := rfl
theorem phiL_length (G : Nat → Asr) (F : List Asr) (listed : Array Bool) : ∀ k, (phiL ops G F listed k).length = F.length
  | 0 => rfl
  | k + 1 => by
    unfold phiL
    split
    · rw [setD_length, phiL_length G F listed k]
    · exact phiL_length G F listed k
/-- Ahead of place j those that write into t have all come up: up to there both lists say the same of t. -/
theorem phiL_upto (G : Nat → Asr) (F : List Asr) (listed : Array Bool) (t : Nat) : ∀ (m : Nat), (∀ k ok, k < m → ops[k]? = some ok → ok.dst = some t → listed.getD k false = true) →
    (phiL ops G F listed m)[t]? = (phiFrom ops.toList G F m)[t]?
  | 0, _ => rfl
  | m + 1, h => by
    have ih := phiL_upto G F listed t m (fun k ok hk => h k ok (by omega))
    unfold phiL phiFrom
    rw [show ops.toList[m]? = ops[m]? from Array.getElem?_toList ..]
    split
    · rw [setD_get, setD_get, phiL_length, phi_length, ih]
    · rename_i hn
      rw [setD_get, ih]
      rw [if_neg]
      rintro ⟨h1, h2⟩
      cases hm : ops[m]? with
      | none => rw [hm] at h1; cases h1
      | some om =>
        rw [hm] at h1
        exact hn (h m om (by omega) hm h1)
/-- From place j on nobody who has come up writes into t. -/
theorem phiL_behind (G : Nat → Asr) (F : List Asr) (listed : Array Bool) (t j : Nat) : ∀ (d : Nat), (∀ k ok, j ≤ k → ops[k]? = some ok → ok.dst = some t → listed.getD k false = false) →
    (phiL ops G F listed (j + d))[t]? = (phiL ops G F listed j)[t]?
  | 0, _ => rfl
  | d + 1, h => by
    have ih := phiL_behind G F listed t j d h
    show (phiL ops G F listed ((j + d) + 1))[t]? = _
    rw [phiL_succ]
    split
    · rename_i hy
      rw [setD_get, ih, if_neg]
      rintro ⟨h1, h2⟩
      cases hm : ops[j + d]? with
      | none => rw [hm] at h1; cases h1
      | some om =>
        rw [hm] at h1
        rw [h (j + d) om (by omega) hm h1] at hy
        cases hy
    · exact ih
theorem getD_set_self {listed : Array Bool} {i : Nat} (d : Bool) (h : i < listed.size) : (listed.setIfInBounds i true).getD i d = true := by
  rw [Array.getD_eq_getD_getElem?, Array.getElem?_setIfInBounds_self_of_lt h]; rfl
/-- Who comes up writes into no other place. -/
theorem phiL_other (G : Nat → Asr) (F : List Asr) (listed : Array Bool) (t j : Nat) (oj : Oper) (hj : ops[j]? = some oj) (hne : oj.dst ≠ some t) (hs : j < listed.size) : ∀ (m : Nat),
    (phiL ops G F (listed.setIfInBounds j true) m)[t]? = (phiL ops G F listed m)[t]?
  | 0 => rfl
  | m + 1 => by
    have ih := phiL_other G F listed t j oj hj hne hs m
    rw [phiL_succ, phiL_succ]
    by_cases e : j = m
    · subst e
      rw [if_pos (getD_set_self false hs), setD_get, hj, if_neg (by rintro ⟨h1, -⟩; exact hne h1), ih]
      by_cases hb : listed.getD j false = true
      · rw [if_pos hb, setD_get, if_neg (by rintro ⟨h1, -⟩; exact hne h1)]
      · rw [if_neg hb]
    · rw [getD_set_ne false e]
      split
      · rw [setD_get, setD_get, ih, phiL_length, phiL_length]
      · exact ih
/-- The state of a region of which some operations have come up. -/
structure MInv (ops : Array Oper) (G : Nat → Asr) (F : List Asr) (w0 : World) (ds : List Deferred) (listed : Array Bool) (a : Act) (w : World) : Prop where
  size : listed.size = ops.size
  tmps : a.tmps.size = F.length
  defers : a.defers = ds
  below : Below w0.heap.size w0 w
  closed : ∀ k ok, ops[k]? = some ok → listed.getD k false = true → ∀ e ∈ ok.after, Region.binds .any e = true → listed.getD e.on false = true
  at_ : ∀ (t : Nat) (A : Asr), (phiL ops G F listed ops.size)[t]? = some A → A.holds (a.tmps.getD t undef) w
theorem Asr.holds_later {A : Asr} (hs : A.stays) {v : Value} {w w' : World} (h : A.holds v w) (hb : Below w.heap.size w w') : A.holds v w' := by
  cases A with
  | is u => exact h
  | any g => exact hs v w w' h hb
theorem phiL_from (G : Nat → Asr) (F : List Asr) (hF : ∀ A ∈ F, A.stays) (hG : ∀ j o, ops[j]? = some o → (G j).stays) (listed : Array Bool) : ∀ (m t : Nat) (A : Asr), (phiL ops G F listed m)[t]? = some A → A.stays
  | 0, t, A, h => hF A (List.mem_of_getElem? h)
  | m + 1, t, A, h => by
    unfold phiL at h
    split at h
    · rw [setD_get] at h
      split at h
      · rename_i h1
        cases hm : ops[m]? with
        | none => rw [hm] at h1; cases h1.1
        | some om => cases h; exact hG m om hm
      · exact phiL_from G F hF hG listed m t A h
    · exact phiL_from G F hF hG listed m t A h
theorem getD_get {x y : Array Value} (hs : x.size = y.size) (t : Nat) (h : x.getD t undef = y.getD t undef) : x[t]? = y[t]? := by
  by_cases hlt : t < x.size
  · have hlt2 : t < y.size := by omega
    simp only [Array.getD_eq_getD_getElem?, Array.getElem?_eq_getElem hlt, Array.getElem?_eq_getElem hlt2, Option.getD_some] at h ⊢
    rw [h]
  · rw [Array.getElem?_eq_none (by omega), Array.getElem?_eq_none (by omega)]
/-- From a literal frame to any one that is like it at what the operation looks at. -/
theorem wp_move {o : Oper} (hsel : ∀ cs b, o.op ≠ .select cs b) {a b : Act} {w : World} {K K' : Act → World → Prop}
    (hd : b.defers = a.defers) (he : ∀ t ∈ o.looksAt ops, a.tmps.getD t undef = b.tmps.getD t undef) (hsz : a.tmps.size = b.tmps.size)
    (hK : ∀ v w', K (b.put o.dst v) w' → K' (a.put o.dst v) w') (hK2 : ∀ d w', ¬ K ({ b with defers := d :: b.defers }.put o.dst undef) w')
    (h : if Region.wanted o (yielded ops b.tmps) = true then o.wp P b w K (fun _ _ _ => False) else K (b.put o.dst undef) w) :
    if Region.wanted o (yielded ops a.tmps) = true then o.wp P a w K' Q else K' (a.put o.dst undef) w := by
  have e1 : execOp a.eval o = execOp b.eval o := execOp_congr o hsel fun x hx => by
    cases x with
    | tmp t => exact he t (List.mem_append_left _ (List.mem_filterMap.2 ⟨.tmp t, by simpa using hx, rfl⟩))
    | _ => rfl
  have e2 : Region.wanted o (yielded ops a.tmps) = Region.wanted o (yielded ops b.tmps) := by
    unfold Region.wanted
    cases hg : o.guard with
    | none => rfl
    | some gw =>
      obtain ⟨g, want⟩ := gw
      have hy : yielded ops a.tmps g = yielded ops b.tmps g := by
        unfold yielded
        cases ht : (ops[g]?).bind (·.dst) with
        | none => rfl
        | some t =>
          have h1 := he t (by simp [Oper.looksAt, hg, ht])
          have h2 : a.tmps[t]? = b.tmps[t]? := getD_get hsz t h1
          simp [h2]
      simp only [hy]
  rw [e2]
  split
  · rename_i hw
    rw [if_pos hw] at h
    unfold Oper.wp at *
    rw [e1]
    generalize (execOp b.eval o).run P w = r at *
    cases r with
    | ok n w' =>
      cases n <;> simp only [Oper.upon] at h ⊢
      case value u => exact hK _ _ h
      case skip => exact hK _ _ h
      case defer d => exact absurd h (hK2 d w')
      case enter f args =>
        refine Calls.mono h fun e w'' he => ?_
        cases e with
        | returned u => exact hK _ _ he
        | panicked c => exact he.elim
        | outgrown => obtain ⟨a', w3, he⟩ := he; exact he.elim
      case row row args => exact Rows.mono h fun u w'' he => hK _ _ he
    | halt x w' =>
      cases x <;> simp only [Oper.upon] at h ⊢
  · rename_i hw
    rw [if_neg hw] at h
    exact hK _ _ h
theorem put_get (a : Act) (d : Option Tmp) (v : Value) (t : Nat) : (a.put d v).tmps[t]? = if d = some t ∧ t < a.tmps.size then some v else a.tmps[t]? := by
  cases d with
  | none => simp [Act.put]
  | some d =>
    simp only [Act.put, Array.getElem?_setIfInBounds, Option.some.injEq]
    by_cases h : d = t
    · subst h; by_cases h2 : d < a.tmps.size <;> simp [h2]
    · simp [h]
theorem put_size (a : Act) (d : Option Tmp) (v : Value) : (a.put d v).tmps.size = a.tmps.size := by cases d <;> simp [Act.put]
theorem put_defs (a : Act) (d : Option Tmp) (v : Value) : (a.put d v).defers = a.defers := by cases d <;> rfl
/-- Does operation j wait for i, or for one that does? -/
def reachB (md : Region.Mode) (ops : Array Oper) : Nat → Nat → Nat → Bool
  | 0, _, _ => false
  | f + 1, i, j => match ops[j]? with | none => false | some o => o.after.any fun e => Region.binds md e && (e.on == i || reachB md ops f i e.on)
theorem reach_all {p : Nat → Prop} (hc : ∀ k o, ops[k]? = some o → p k → ∀ e ∈ o.after, Region.binds md e = true → p e.on) : ∀ (f i j : Nat) (o : Oper), ops[j]? = some o → (∀ e ∈ o.after, Region.binds md e = true → p e.on) → reachB md ops f i j = true → p i
  | 0, i, j, o, ho, h, hr => by cases hr
  | f + 1, i, j, o, ho, h, hr => by
    rw [reachB, ho] at hr
    simp only at hr
    obtain ⟨e, he, hb⟩ := Array.any_eq_true'.1 hr
    simp only [Bool.and_eq_true, Bool.or_eq_true, beq_iff_eq] at hb
    obtain ⟨hb1, hb2⟩ := hb
    have hp := h e he hb1
    rcases hb2 with hb2 | hb2
    · rw [← hb2]; exact hp
    · cases hk : ops[e.on]? with
      | none =>
        cases f with
        | zero => cases hb2
        | succ f => rw [reachB, hk] at hb2; cases hb2
      | some o' => exact reach_all hc f i e.on o' hk (fun e' he' hb' => hc e.on o' hk hp e' he' hb') hb2
/-- Do all from place n on wait for all ahead of n, and each for the one ahead of it? -/
def tailB (md : Region.Mode) (ops : Array Oper) (n : Nat) : Bool := (List.range ops.size).all fun j => decide (j < n) || (List.range j).all fun i => (decide (n ≤ i) && decide (i + 1 ≠ j)) || reachB md ops ops.size i j
theorem tailB_spec {n : Nat} (h : tailB md ops n = true) (j : Nat) (hj : n ≤ j) (o : Oper) (ho : ops[j]? = some o) (i : Nat) (hi : i < j) (hc : i < n ∨ i + 1 = j) : reachB md ops ops.size i j = true := by
  have hjs := (Array.getElem?_eq_some_iff.1 ho).1
  have h1 := List.all_eq_true.1 h j (List.mem_range.2 hjs)
  simp only [Bool.or_eq_true, decide_eq_true_eq] at h1
  rcases h1 with h1 | h1
  · omega
  · have h2 := List.all_eq_true.1 h1 i (List.mem_range.2 hi)
    rwa [show (decide (n ≤ i) && decide (i + 1 ≠ j)) = false from by
      rw [Bool.and_eq_false_iff, decide_eq_false_iff_not, decide_eq_false_iff_not]; omega, Bool.false_or] at h2
theorem getD_of {listed : Array Bool} {j : Nat} (h : j < listed.size) (d : Bool) : listed.getD j d = listed[j] := by
  rw [Array.getD_eq_getD_getElem?, Array.getElem?_eq_getElem h]; rfl
theorem tail_any (L : LexOK .any ops) {n : Nat} (hT : tailB .any ops n = true) : ∀ (m k : Nat) (listed : Array Bool) (a : Act) (w : World), k + m = ops.size → n ≤ k → listed.size = ops.size → (∀ j, j < ops.size → listed.getD j false = decide (j < k)) →
    wpList P ops Q (ops.toList.drop k) a w → wpAny P .any ops Q m listed a w := by
  intro m
  induction m with
  | zero =>
    intro k listed a w hk hn hs hl h
    rw [List.drop_of_length_le (by simp; omega)] at h
    refine ⟨?_, h⟩
    rw [List.eq_nil_iff_forall_not_mem]
    intro j hj
    obtain ⟨h0, o, ho, -⟩ := mem_ready.1 hj
    have hj2 := (Array.getElem?_eq_some_iff.1 ho).1
    have h1 := hl j hj2
    rw [getD_of (by omega)] at h0 h1
    rw [h0] at h1
    simp at h1; omega
  | succ m ih =>
    intro k listed a w hk hn hs hl h
    have hks : k < ops.size := by omega
    have hok : ops[k]? = some ops[k] := Array.getElem?_eq_getElem hks
    have hkun : listed.getD k false = false := by rw [hl k hks]; simp
    have hdrop : ops.toList.drop k = ops[k] :: ops.toList.drop (k + 1) := by
      rw [List.drop_eq_getElem_cons (by simpa using hks)]; simp
    rw [hdrop] at h
    refine ⟨fun hnil => ?_, fun j hj => ?_⟩
    · have : k ∈ Region.ready .any ops listed := mem_ready.2 ⟨by
        rw [getD_of (by omega)] at hkun ⊢; exact hkun, _, hok, fun e he hb => by
          have := L.edge k _ hok e he hb
          rw [hl e.on (by omega)]; simpa using this⟩
      rw [hnil] at this; cases this
    · obtain ⟨h0, o, ho, hall⟩ := mem_ready.1 hj
      have hj2 := (Array.getElem?_eq_some_iff.1 ho).1
      have hjk : k ≤ j := by
        have h1 := hl j hj2
        rw [getD_of (by omega)] at h0 h1
        rw [h0] at h1
        simp at h1; omega
      obtain rfl : j = k := by
        by_cases e : j = k
        · exact e
        · have := reach_all (p := fun i => listed.getD i false = true) (md := .any) (ops := ops) (fun k' o' ho' hp e' he' hb' => by
            have h1 := L.edge k' o' ho' e' he' hb'
            have h2 := (Array.getElem?_eq_some_iff.1 ho').1
            rw [hl k' h2] at hp
            rw [hl e'.on (by omega)]
            simp at hp ⊢; omega) _ _ j o ho (fun e' he' hb' => hall e' he' hb') (tailB_spec hT j (by omega) o ho (j - 1) (by omega) (.inr (by omega)))
          have hz := hl (j - 1) (by omega)
          rw [hz] at this
          simp at this; omega
      obtain rfl : o = ops[j] := Option.some.inj (ho.symm.trans hok)
      have hnext : ∀ a w, wpList P ops Q (ops.toList.drop (j + 1)) a w → wpAny P .any ops Q m (listed.setIfInBounds j true) a w := fun a w h => by
        refine ih (j + 1) _ a w (by omega) (by omega) (by simpa using hs) (fun i hi => ?_) h
        by_cases e : j = i
        · subst e; rw [getD_set_self false (by omega)]; simp
        · rw [getD_set_ne false e, hl i hi]
          congr 1
          exact propext ⟨fun h => by omega, fun h => by omega⟩
      unfold wpList at h
      unfold wpOp
      simp only [hok]
      split
      · rename_i hw
        rw [if_pos hw] at h
        exact h.imp (Oper.wp_mono hnext) id
      · rename_i hw
        rw [if_neg hw] at h
        exact hnext _ _ h
theorem mono_any (L : LexOK .any ops) {n : Nat} (hn : n ≤ ops.size) (hT : tailB .any ops n = true) (G : Nat → Asr) (F : List Asr) (hF : ∀ A ∈ F, A.stays) (hGs : ∀ j o, ops[j]? = some o → (G j).stays) (hG : ∀ j o, j < n → ops[j]? = some o → opOK P ops w0 ds (phiFrom ops.toList G F j) o (G j))
    (hE : ∀ (us : Nat → Value) (w : World), Below w0.heap.size w0 w → (∀ (t : Nat) (g : Value → World → Prop), (phiFrom ops.toList G F n)[t]? = some (Asr.any g) → g (us t) w) → wpList P ops Q (ops.toList.drop n) ⟨(fillA (phiFrom ops.toList G F n) 0 us).toArray, ds⟩ w) :
    ∀ (fuel : Nat) (listed : Array Bool) (a : Act) (w : World), listed.toList.count false = fuel → (∀ j, j < ops.size → n ≤ j → listed.getD j false = false) → MInv ops G F w0 ds listed a w → wpAny P .any ops Q fuel listed a w := by
  have hend : ∀ (listed : Array Bool) (a : Act) (w : World), (∀ j, j < ops.size → listed.getD j false = decide (j < n)) → MInv ops G F w0 ds listed a w → wpList P ops Q (ops.toList.drop n) a w := by
    intro listed a w hall hI
    have hphi : ∀ t, (phiL ops G F listed ops.size)[t]? = (phiFrom ops.toList G F n)[t]? := fun t => by
      have h1 := phiL_behind G F listed t n (ops.size - n) (fun k ok hk hok' hd => by
        have hks := (Array.getElem?_eq_some_iff.1 hok').1
        rw [hall k hks]; simp; omega)
      rw [show n + (ops.size - n) = ops.size by omega] at h1
      rw [h1]
      exact phiL_upto G F listed t n (fun k ok hk hok' _ => by rw [hall k (by omega)]; simpa using hk)
    have h := hE (fun t => a.tmps.getD t undef) w hI.below (fun t g hg => hI.at_ t _ ((hphi t).trans hg))
    have e : (⟨(fillA (phiFrom ops.toList G F n) 0 (fun t => a.tmps.getD t undef)).toArray, ds⟩ : Act) = a := by
      obtain ⟨tm, df⟩ := a
      have hd : df = ds := hI.defers
      subst hd
      congr 1
      apply Array.ext_getElem?
      intro t
      rw [List.getElem?_toArray, fillA_get]
      cases ht : (phiFrom ops.toList G F n)[t]? with
      | none =>
        have : F.length ≤ t := by
          rw [List.getElem?_eq_none_iff, phi_length] at ht; exact ht
        have h2 : tm.size = F.length := hI.tmps
        rw [Array.getElem?_eq_none (by omega)]; rfl
      | some A =>
        have hlt : t < F.length := by
          have := (List.getElem?_eq_some_iff.1 ht).1
          rwa [phi_length] at this
        have h2 : tm.size = F.length := hI.tmps
        have h3 := hI.at_ t A ((hphi t).trans ht)
        have h4 : tm[t]? = some (tm.getD t undef) := by
          rw [Array.getD_eq_getD_getElem?, Array.getElem?_eq_getElem (by omega)]; rfl
        rw [h4]
        cases A with
        | is v => exact congrArg some (show v = _ from (show tm.getD t undef = v from h3).symm)
        | any g => simp
    rw [e] at h
    exact h
  intro fuel
  induction fuel with
  | zero =>
    intro listed a w hc hlt hI
    have hs := hI.size
    have hall : ∀ j, j < ops.size → listed.getD j false = true := by
      intro j hj
      rw [getD_of (by omega)]
      cases hb : listed[j] with
      | true => rfl
      | false =>
        have : false ∈ listed.toList := by rw [← hb]; simp
        rw [List.count_eq_zero] at hc
        exact absurd this hc
    have hnn : n = ops.size := by
      by_cases e : n = ops.size
      · exact e
      · have h1 := hall n (by omega)
        rw [hlt n (by omega) (Nat.le_refl _)] at h1; cases h1
    have h := hend listed a w (fun j hj => by rw [hall j hj]; simp; omega) hI
    exact tail_any L hT 0 n listed a w (by omega) (Nat.le_refl _) hs (fun j hj => by rw [hall j hj]; simp; omega) h
  | succ fuel ih =>
    intro listed a w hc hlt hI
    have hs := hI.size
    by_cases hfirst : ∀ j, j < n → listed.getD j false = true
    · have hex : ∀ j, j < ops.size → listed.getD j false = decide (j < n) := fun j hj => by
        by_cases e : j < n
        · rw [hfirst j e]; simp [e]
        · rw [hlt j hj (by omega)]; simp [e]
      have hcnt : ops.size - n = fuel + 1 := by
        rw [← hc]
        have e1 : listed.toList = List.replicate n true ++ List.replicate (ops.size - n) false := by
          apply List.ext_getElem?
          intro j
          rw [Array.getElem?_toList]
          by_cases hj : j < ops.size
          · have := hex j hj
            rw [getD_of (by omega)] at this
            rw [Array.getElem?_eq_getElem (by omega), this]
            by_cases e : j < n
            · rw [List.getElem?_append_left (by simpa using e)]; simp [e]
            · rw [List.getElem?_append_right (by simpa using e), List.getElem?_replicate, if_pos (by simp; omega)]; simp [e]
          · rw [Array.getElem?_eq_none (by omega), List.getElem?_eq_none (by simp; omega)]
        rw [e1, List.count_append, List.count_replicate, List.count_replicate]; simp
      exact tail_any L hT (fuel + 1) n listed a w (by omega) (Nat.le_refl _) hs hex (hend listed a w hex hI)
    have ⟨j0, hj0n, hj0⟩ : ∃ j, j < n ∧ listed.getD j false = false := by
      refine Classical.byContradiction fun hno => hfirst fun j hj => ?_
      cases hb : listed.getD j false with
      | true => rfl
      | false => exact absurd ⟨j, hj, hb⟩ hno
    refine ⟨fun hnil => ?_, fun j hj => ?_⟩
    · -- nobody may come up: all have
      have : ∀ j, j < n → listed.getD j false = true := by
        intro j
        induction j using Nat.strongRecOn with
        | _ j ihj =>
          intro hj
          cases hb : listed.getD j false with
          | true => rfl
          | false =>
            have h0 : ops[j]? = some (ops[j]'(by omega)) := Array.getElem?_eq_getElem (by omega)
            have : j ∈ Region.ready .any ops listed := mem_ready.2 ⟨by
              rw [getD_of (by omega)] at hb ⊢
              exact hb, _, h0, fun e he hbd => ihj e.on (L.edge j _ h0 e he hbd) (by have := L.edge j _ h0 e he hbd; omega)⟩
            rw [hnil] at this; cases this
      rw [this j0 hj0n] at hj0; cases hj0
    · obtain ⟨hjun, oj, hoj, hall⟩ := mem_ready.1 hj
      have hjs : j < ops.size := (Array.getElem?_eq_some_iff.1 hoj).1
      have hjn : j < n := by
        by_cases e : j < n
        · exact e
        · have := reach_all (p := fun i => listed.getD i false = true) (md := .any) (ops := ops) (fun k' o' ho' hp e' he' hb' => hI.closed k' o' ho' hp e' he' hb') _ _ j oj hoj (fun e' he' hb' => hall e' he' hb') (tailB_spec hT j (by omega) oj hoj j0 (by omega) (.inl (by omega)))
          rw [hj0] at this; cases this
      have hjf : listed.getD j false = false := by
        rw [Array.getD_eq_getD_getElem?, Array.getElem?_eq_getElem (by omega)] at hjun ⊢
        simpa using hjun
      have hst := hGs j oj hoj
      have hok := hG j oj hjn hoj
      -- who wrote ahead of j into what j looks at, has come up; nobody behind j has
      have hlook : ∀ t ∈ oj.looksAt ops, (phiL ops G F listed ops.size)[t]? = (phiFrom ops.toList G F j)[t]? := by
        intro t ht
        have h1 := phiL_behind G F listed t j (ops.size - j) (fun k ok hk hok' hd => by
          by_cases e : k = j
          · subst e; exact hjf
          · cases hb : listed.getD k false with
            | false => rfl
            | true =>
              rcases L.apart j k oj ok (by omega) hoj hok' with ⟨e, he, hbd, heq⟩ | hap
              · have := hI.closed k ok hok' hb e he hbd
                rw [heq, hjf] at this; cases this
              · exact absurd ht ((Oper.apart_spec hap).2.2 t hd))
        rw [show j + (ops.size - j) = ops.size by omega] at h1
        rw [h1]
        refine phiL_upto G F listed t j (fun k ok hk hok' hd => ?_)
        rcases L.apart k j ok oj hk hok' hoj with ⟨e, he, hbd, heq⟩ | hap
        · have := hall e he hbd
          rwa [heq] at this
        · exact absurd ht ((Oper.apart_spec hap).1 t hd)
      have hlen := phi_length ops.toList G F j
      have hat : ∀ t ∈ oj.looksAt ops, a.tmps.getD t undef = (fillA (phiFrom ops.toList G F j) 0 (fun t => a.tmps.getD t undef)).toArray.getD t undef := by
        intro t ht
        rw [Array.getD_eq_getD_getElem? (xs := (fillA _ _ _).toArray), List.getElem?_toArray, fillA_get]
        cases hp : (phiFrom ops.toList G F j)[t]? with
        | none =>
          have : F.length ≤ t := by rw [List.getElem?_eq_none_iff, hlen] at hp; exact hp
          have h2 := hI.tmps
          rw [Array.getD_eq_getD_getElem?, Array.getElem?_eq_none (by omega)]; rfl
        | some A =>
          have h3 := hI.at_ t A ((hlook t ht).trans hp)
          cases A with
          | is v => simpa using (show a.tmps.getD t undef = v from h3)
          | any g => simp
      have h1 := hok (fun t => a.tmps.getD t undef) w hI.below (fun t ht g hg => hI.at_ t _ ((hlook t ht).trans hg))
        (fun b' w' => ∃ v, b' = (⟨(fillA (phiFrom ops.toList G F j) 0 (fun t => a.tmps.getD t undef)).toArray, ds⟩ : Act).put oj.dst v ∧ (G j).holds v w' ∧ Below w.heap.size w w')
        (fun v w' h1 h2 => ⟨v, rfl, h1, h2⟩)
      have hstep : ∀ v w', (∃ u, (⟨(fillA (phiFrom ops.toList G F j) 0 (fun t => a.tmps.getD t undef)).toArray, ds⟩ : Act).put oj.dst v = (⟨(fillA (phiFrom ops.toList G F j) 0 (fun t => a.tmps.getD t undef)).toArray, ds⟩ : Act).put oj.dst u ∧ (G j).holds u w' ∧ Below w.heap.size w w') →
          wpAny P .any ops Q fuel (listed.setIfInBounds j true) (a.put oj.dst v) w' := by
        rintro v w' ⟨u, hvu, hu, hb⟩
        refine ih _ _ _ ?_ (fun i hi hni => by rw [getD_set_ne false (by omega)]; exact hlt i hi hni) ⟨by simpa using hs, by rw [put_size]; exact hI.tmps, by rw [put_defs]; exact hI.defers, hI.below.trans (hb.mono hI.below.size), ?_, ?_⟩
        · rw [Array.toList_setIfInBounds, List.count_set (by simpa using (by omega : j < listed.size))]
          have : listed.toList[j]'(by simpa using (by omega : j < listed.size)) = false := by
            rw [Array.getD_eq_getD_getElem?, Array.getElem?_eq_getElem (by omega)] at hjf
            simpa using hjf
          rw [this, hc]; simp
        · intro k ok hok' hk e he hbd
          by_cases ek : j = k
          · subst ek
            obtain rfl : oj = ok := Option.some.inj (hoj.symm.trans hok')
            exact getD_set_true (hall e he hbd)
          · rw [getD_set_ne false ek] at hk
            exact getD_set_true (hI.closed k ok hok' hk e he hbd)
        · intro t A hA
          by_cases hd : oj.dst = some t
          · -- it wrote here
            have hlt : t < F.length := by
              have := (List.getElem?_eq_some_iff.1 hA).1
              rwa [phiL_length] at this
            have h2 := phiL_behind G F (listed.setIfInBounds j true) t (j + 1) (ops.size - (j + 1)) (fun k ok hk hok' hdk => by
              rw [getD_set_ne false (by omega)]
              cases hb : listed.getD k false with
              | false => rfl
              | true =>
                rcases L.apart j k oj ok (by omega) hoj hok' with ⟨e, he, hbd, heq⟩ | hap
                · have := hI.closed k ok hok' hb e he hbd
                  rw [heq, hjf] at this; cases this
                · exact absurd hdk ((Oper.apart_spec hap).2.1 t hd))
            rw [show j + 1 + (ops.size - (j + 1)) = ops.size by omega] at h2
            rw [h2, phiL, getD_set_self false (by omega), if_pos rfl, setD_get, hoj] at hA
            rw [if_pos ⟨hd, by rw [phiL_length]; exact hlt⟩] at hA
            cases hA
            have hv : (a.put oj.dst v).tmps.getD t undef = v := by
              rw [Array.getD_eq_getD_getElem?, put_get, if_pos ⟨hd, by rw [hI.tmps]; exact hlt⟩]; rfl
            rw [hv]
            have h3 := congrArg (fun b : Act => b.tmps[t]?) hvu
            simp only [put_get] at h3
            have h4 : t < (fillA (phiFrom ops.toList G F j) 0 (fun t => a.tmps.getD t undef)).toArray.size := by
              simp [fillA_length, hlen]; exact hlt
            rw [if_pos ⟨hd, h4⟩, if_pos ⟨hd, h4⟩] at h3
            cases h3
            exact hu
          · rw [phiL_other G F listed t j oj hoj hd (by omega)] at hA
            have h2 := hI.at_ t A hA
            have hv : (a.put oj.dst v).tmps.getD t undef = a.tmps.getD t undef := by
              rw [Array.getD_eq_getD_getElem?, put_get, if_neg (by rintro ⟨h, -⟩; exact hd h), ← Array.getD_eq_getD_getElem?]
            rw [hv]
            exact Asr.holds_later (phiL_from G F hF hGs listed ops.size t A hA) h2 hb
      have h2 := wp_move (Q := Q) (K' := wpAny P .any ops Q fuel (listed.setIfInBounds j true)) (L.nosel j oj · · hoj) (a := a) (b := ⟨(fillA (phiFrom ops.toList G F j) 0 (fun t => a.tmps.getD t undef)).toArray, ds⟩) (by exact hI.defers.symm) hat (by simp [fillA_length, hlen]; exact hI.tmps)
        hstep (by
          rintro d w' ⟨v, hv, -, -⟩
          have := congrArg (fun b : Act => b.defers) hv
          simp only [put_defs] at this
          have h3 := congrArg List.length this
          simp at h3) h1
      unfold wpOp
      simp only [hoj]
      split
      · rename_i hw; rw [if_pos hw] at h2; exact .inl h2
      · rename_i hw; rw [if_neg hw] at h2; exact h2
theorem fill_is (us : Nat → Value) : ∀ (l : List Value) (k : Nat), fillA (l.map .is) k us = l
  | [], _ => rfl
  | v :: l, k => by simp [fillA, fill_is us l (k + 1)]
theorem tailB_end (ops : Array Oper) : tailB md ops ops.size = true := by
  unfold tailB
  rw [List.all_eq_true]
  intro j hj
  simp [List.mem_range.1 hj]
theorem phiFrom_take (l : List Oper) (G : Nat → Asr) (F : List Asr) (n : Nat) : ∀ k, k ≤ n → phiFrom (l.take n) G F k = phiFrom l G F k
  | 0, _ => rfl
  | k + 1, h => by
    rw [phiFrom, phiFrom, phiFrom_take l G F n k (by omega), List.getElem?_take, if_pos (by omega)]
/-- **Each operation by itself serves every order**, up to place n; those from there on wait for all ahead of them, and go as in a row. -/
theorem wp_region_mono_tail {id : Nat} {l : List Oper} {a : Act} {w : World} (n : Nat) (hm : P.follows .mixedOrders = true) (hB : Region.lexB .any l.toArray = true) (hn : n ≤ l.length) (hT : tailB .any l.toArray n = true)
    (h : wpM P l.toArray w a.defers (fun _ a w => wpList P l.toArray Q (l.drop n) a w) (l.take n) (a.tmps.toList.map .is)) : (Code.region id l.toArray true).wp P Q a w := by
  obtain ⟨G, h1, h2⟩ := wpM_parts (l.take n) _ h
  have hlen : (l.take n).length = n := by rw [List.length_take]; omega
  rw [hlen] at h2
  have hK : ∀ k, phiFrom (l.take n) (fun j => if j < n then G j else .is undef) (a.tmps.toList.map Asr.is) k = phiFrom (l.take n) (fun j => if j < n then G j else .is undef) (a.tmps.toList.map Asr.is) k := fun _ => rfl
  have hGk : ∀ k, k ≤ n → phiFrom l.toArray.toList (fun j => if j < n then G j else .is undef) (a.tmps.toList.map Asr.is) k = phiFrom (l.take n) G (a.tmps.toList.map Asr.is) k := by
    intro k
    induction k with
    | zero => intro _; rfl
    | succ k ih =>
      intro hk
      rw [phiFrom, phiFrom, ih (by omega), if_pos (by omega), List.getElem?_take, if_pos (by omega)]
  refine wp_region_any hm (mono_any (w0 := w) (ds := a.defers) (lex_ok hB) (n := n) (by simpa using hn) hT (fun j => if j < n then G j else .is undef) (a.tmps.toList.map .is) (fun A hA => ?_) (fun j o ho => ?_) (fun j o hj ho => ?_) ?_ _ _ _ _ (by simp) ?_ ⟨by simp, by simp, rfl, ⟨rfl, rfl, rfl, Nat.le_refl _, fun _ _ => rfl⟩, ?_, ?_⟩)
  · obtain ⟨v, -, rfl⟩ := List.mem_map.1 hA; trivial
  · by_cases hj : j < n
    · simp only [hj, if_true]
      exact (h1 j o (by rw [List.getElem?_take, if_pos hj]; simpa using ho)).1
    · simp only [hj, if_false]; trivial
  · simp only [hj, if_true]
    rw [hGk j (by omega)]
    exact (h1 j o (by rw [List.getElem?_take, if_pos hj]; simpa using ho)).2
  · rw [hGk n (Nat.le_refl _)]
    exact h2
  · intro j hj _
    rw [Array.getD_eq_getD_getElem?, Array.getElem?_eq_getElem (by simpa using hj)]; simp
  · intro k ok _ hk
    rw [Array.getD_eq_getD_getElem?] at hk
    by_cases hlt : k < l.length
    · rw [Array.getElem?_eq_getElem (by simpa using hlt)] at hk; simp at hk
    · rw [Array.getElem?_eq_none (by simpa using hlt)] at hk; cases hk
  · intro t A hA
    have e : ∀ m, phiL l.toArray (fun j => if j < n then G j else .is undef) (a.tmps.toList.map .is) (Array.replicate l.toArray.size false) m = a.tmps.toList.map .is := by
      intro m
      induction m with
      | zero => rfl
      | succ m ihm =>
        unfold phiL
        rw [if_neg, ihm]
        rw [Array.getD_eq_getD_getElem?]
        by_cases hlt : m < l.toArray.size
        · rw [Array.getElem?_eq_getElem (by simpa using hlt)]; simp
        · rw [Array.getElem?_eq_none (by simpa using hlt)]; simp
    rw [e, List.getElem?_map, Array.getElem?_toList] at hA
    rw [Array.getD_eq_getD_getElem?]
    cases ht : a.tmps[t]? with
    | none => rw [ht] at hA; cases hA
    | some v => rw [ht] at hA; cases hA; rfl
/-- The same for all of the region. -/
theorem wp_region_mono {id : Nat} {l : List Oper} {a : Act} {w : World} (hm : P.follows .mixedOrders = true) (hB : Region.lexB .any l.toArray = true)
    (h : wpM P l.toArray w a.defers Q l (a.tmps.toList.map .is)) : (Code.region id l.toArray true).wp P Q a w := by
  refine wp_region_mono_tail l.length hm hB (Nat.le_refl _) (by simpa using tailB_end (md := .any) l.toArray) ?_
  rw [List.take_length, List.drop_length]
  revert h
  generalize a.tmps.toList.map Asr.is = F
  have : ∀ (r : List Oper) (F : List Asr), wpM P l.toArray w a.defers Q r F → wpM P l.toArray w a.defers (fun _ a w => wpList P l.toArray Q [] a w) r F := by
    intro r
    induction r with
    | nil => intro F h us w' hb hg; exact h us w' hb hg
    | cons o r ih => intro F ⟨A, h1, h2, h3⟩; exact ⟨A, h1, h2, ih _ h3⟩
  exact this l F
end
end Go.Proofs.Ytmpakgabehplbaa
namespace Go.Proofs.Ytmpakgabehplbaa
open Go.RowKit
set_option linter.unusedVariables false
set_option linter.unusedSimpArgs false
section
variable (w : World)
set_option maxHeartbeats 4000000 in
set_option maxRecDepth 20000 in
theorem vmay_any (v : V3) : Calls Try.prog 35 #[.agg #[.int .i64 v.c, .int .i64 v.m, .int .i64 v.p]] w (Made (.bool (mayV v)) w) := by
  have L1 := Lib.hid (show ∀ W, Calls Try.prog 41 #[.agg #[.int .i64 0, .int .i64 0, .int .i64 0], .agg #[.int .i64 v.c, .int .i64 v.m, .int .i64 v.p]] W (Made (.bool (leV z3 v)) W) from fun W => vle_any W z3 v)
  have L2 := Lib.hid (show ∀ W, Calls Try.prog 41 #[.agg #[.int .i64 v.c, .int .i64 v.m, .int .i64 v.p], .agg #[.int .i64 1099511627776, .int .i64 1099511627776, .int .i64 1099511627776]] W (Made (.bool (leV v mostV)) W) from fun W => vle_any W v mostV)
  have L3 := Lib.hid (show ∀ W, Calls Try.prog 58 #[] W (Made (.agg #[.int .i64 1099511627776, .int .i64 1099511627776, .int .i64 1099511627776]) W) from fun W => vmost_any W)
  rw [show mayV v = (leV z3 v && leV v mostV) from rfl]
  generalize leV z3 v = b1 at *
  generalize leV v mostV = b2 at *
  go_enter Try.func35, Try.ntmps35
  go_wp2_with fail
  have B0 := Lib.hid (below_al (Below.refl w.heap.size w) (.cells #[.int .i64 v.c, .int .i64 v.m, .int .i64 v.p] 24))
  obtain ⟨q0, q1, q2, -⟩ := (CBlk.new w v).cells
  cases b1
  all_goals
    refine wp_region_mono (by kernel_rfl) (by kernel_rfl) ?_
    simp only [List.map_cons, List.map_nil]
    repeat (first
      | (apply wpM_is
         · (intro us W hW hg K hK
            clear hg
            have c0 := hold hW q0
            have c1 := hold hW q1
            have c2 := hold hW q2
            simp only [fillA]
            go_simp
            first
            | exact hK _ (Below.refl _ _)
            | ((with_reducible refine (L1.out _).mono ?_); rintro e w' ⟨rfl, hb⟩; exact hK _ hb)
            | ((with_reducible refine (L2.out _).mono ?_); rintro e w' ⟨rfl, hb⟩; exact hK _ hb)
            | ((with_reducible refine (L3.out _).mono ?_); rintro e w' ⟨rfl, hb⟩; exact hK _ hb))
         simp only [setD, List.set_cons_zero, List.set_cons_succ]))
    intro us W hW hg
    simp only [fillA]
    clear hg
    go_wp2_with fail
    go_ret
    exact ⟨by simp, below_tr B0.out hW⟩
def unitB (n : Int) : Bool := decide (0 ≤ n) && decide (n ≤ 1099511627776)
def rmayV (v : V3) : Bool := unitB v.c && unitB v.m && unitB v.p
theorem rmay_eq (v : V3) : rmayV v = mayV v := by
  unfold rmayV mayV leV unitB z3 mostV
  simp only
  rw [Bool.eq_iff_iff]
  simp only [Bool.and_eq_true, decide_eq_true_eq]
  omega
theorem runit (n : Int) : Calls Try.prog 57 #[.int .i64 n] w fun e w' => e = .returned (.bool (unitB n)) ∧ w = w' := by
  have E : Hid (unitB n = (decide (0 ≤ n) && decide (n ≤ 1099511627776))) := rfl
  by_cases h1 : 0 ≤ n
  · by_cases h2 : n ≤ 1099511627776
    all_goals
      go_enter Try.func57, Try.ntmps57
      go_wp2_with fail
      go_ret
      exact ⟨by rw [E.out]; simp; omega, rfl⟩
  · go_enter Try.func57, Try.ntmps57
    go_wp2_with fail
    go_ret
    exact ⟨by rw [E.out]; simp; omega, rfl⟩
theorem rmay_any (v : V3) : Calls Try.prog 30 #[.agg #[.int .i64 v.c, .int .i64 v.m, .int .i64 v.p]] w (Made (.bool (mayV v)) w) := by
  rw [← rmay_eq, show rmayV v = (unitB v.c && unitB v.m && unitB v.p) from rfl]
  have U1 := Lib.hid (fun W => runit W v.c)
  have U2 := Lib.hid (fun W => runit W v.m)
  have U3 := Lib.hid (fun W => runit W v.p)
  generalize unitB v.c = b1 at *
  generalize unitB v.m = b2 at *
  generalize unitB v.p = b3 at *
  cases b1
  · go_enter Try.func30, Try.ntmps30
    go_wp2_with (first | (go_at_call 57; with_reducible refine (U1.out _).mono ?_; rintro e w' ⟨rfl, rfl⟩) | (go_at_call 57; with_reducible refine (U2.out _).mono ?_; rintro e w' ⟨rfl, rfl⟩) | (go_at_call 57; with_reducible refine (U3.out _).mono ?_; rintro e w' ⟨rfl, rfl⟩))
    go_ret
    exact ⟨rfl, below_al (Below.refl _ _) _⟩
  · cases b2
    all_goals
      go_enter Try.func30, Try.ntmps30
      go_wp2_with (first | (go_at_call 57; with_reducible refine (U1.out _).mono ?_; rintro e w' ⟨rfl, rfl⟩) | (go_at_call 57; with_reducible refine (U2.out _).mono ?_; rintro e w' ⟨rfl, rfl⟩) | (go_at_call 57; with_reducible refine (U3.out _).mono ?_; rintro e w' ⟨rfl, rfl⟩))
      go_ret
      exact ⟨rfl, below_al (Below.refl _ _) _⟩
theorem rsub_any (a b : V3) (h : (subV a b).I) : Calls Try.prog 54 #[.agg #[.int .i64 a.c, .int .i64 a.m, .int .i64 a.p], .agg #[.int .i64 b.c, .int .i64 b.m, .int .i64 b.p]] w (Made (.agg #[.int .i64 (subV a b).c, .int .i64 (subV a b).m, .int .i64 (subV a b).p]) w) := by
  obtain ⟨⟨h1, h2⟩, ⟨h3, h4⟩, ⟨h5, h6⟩⟩ := h
  unfold subV at *
  simp only at h1 h2 h3 h4 h5 h6 ⊢
  go_enter Try.func54, Try.ntmps54
  go_wp2_with fail
  exact bodyPost_ret (v := .agg #[.int .i64 (a.c - b.c), .int .i64 (a.m - b.m), .int .i64 (a.p - b.p)]) (by simp [results, Try.results54, go_sem]) rfl ⟨rfl, below_al (below_al (below_al (Below.refl _ _) _) _) _⟩
theorem radd2_any (a b : V3) (h : (addV a b).I) : Calls Try.prog 32 #[.agg #[.int .i64 a.c, .int .i64 a.m, .int .i64 a.p], .agg #[.int .i64 b.c, .int .i64 b.m, .int .i64 b.p]] w (Made (.agg #[.int .i64 (addV a b).c, .int .i64 (addV a b).m, .int .i64 (addV a b).p]) w) := by
  obtain ⟨⟨h1, h2⟩, ⟨h3, h4⟩, ⟨h5, h6⟩⟩ := h
  unfold addV at *
  simp only at h1 h2 h3 h4 h5 h6 ⊢
  go_enter Try.func32, Try.ntmps32
  go_wp2_with fail
  exact bodyPost_ret (v := .agg #[.int .i64 (a.c + b.c), .int .i64 (a.m + b.m), .int .i64 (a.p + b.p)]) (by simp [results, Try.results32, go_sem]) rfl ⟨rfl, below_al (below_al (below_al (Below.refl _ _) _) _) _⟩
theorem rle_any (a b : V3) : Calls Try.prog 31 #[.agg #[.int .i64 a.c, .int .i64 a.m, .int .i64 a.p], .agg #[.int .i64 b.c, .int .i64 b.m, .int .i64 b.p]] w (Made (.bool (leV a b)) w) := by
  have E : Hid (leV a b = (decide (a.c ≤ b.c) && decide (a.m ≤ b.m) && decide (a.p ≤ b.p))) := rfl
  by_cases h1 : a.c ≤ b.c
  · by_cases h2 : a.m ≤ b.m
    · by_cases h3 : a.p ≤ b.p
      all_goals
        go_enter Try.func31, Try.ntmps31
        go_wp2_with fail
        go_ret
        exact ⟨by rw [E.out]; simp [h1, h2, h3], below_al (below_al (Below.refl _ _) _) _⟩
    · go_enter Try.func31, Try.ntmps31
      go_wp2_with fail
      go_ret
      exact ⟨by rw [E.out]; simp; omega, below_al (below_al (Below.refl _ _) _) _⟩
  · go_enter Try.func31, Try.ntmps31
    go_wp2_with fail
    go_ret
    exact ⟨by rw [E.out]; simp; omega, below_al (below_al (Below.refl _ _) _) _⟩
end
end Go.Proofs.Ytmpakgabehplbaa
namespace Go.Proofs.Ytmpakgabehplbaa
open Go.RowKit
set_option linter.unusedVariables false
set_option linter.unusedSimpArgs false
theorem vrow_at (l : List V3) : ∀ (i r : Nat) (u : V3), l[i]? = some u → r < 3 → (l.flatMap V3.cells).toArray[0 + i * 3 + r]? = u.cells[r]? := by
  simp only [Nat.zero_add, List.getElem?_toArray]
  induction l with
  | nil => intro i r u hu; simp at hu
  | cons x l ih =>
    intro i r u hu hr
    cases i with
    | zero =>
      simp at hu; subst hu
      rw [List.flatMap_cons, Nat.zero_mul, Nat.zero_add, List.getElem?_append_left (by simpa [V3.cells] using hr)]
    | succ i =>
      have h := ih i r u (by simpa using hu) hr
      rw [List.flatMap_cons, List.getElem?_append_right (by simp [V3.cells]; omega), ← h]
      congr 1
      simp [V3.cells]; omega
theorem vrow_new {w : World} {g : Nat} (l : List V3) (h : w.heap[g]? = some (.cells (l.flatMap V3.cells).toArray 24 (0, 0))) : VRow w l (.slice (some ⟨g, 0, none⟩) l.length l.length) := by
  refine ⟨_, _, rfl, Nat.le_refl _, fun i u hu => ⟨g, 0, rfl, ?_, ?_, ?_⟩⟩
  · rw [cell_of_row _ _ _ _ _ _ h]
    exact (vrow_at l i 0 u hu (by omega)).trans rfl
  · rw [cell_of_row _ _ _ _ _ _ h]
    exact (vrow_at l i 1 u hu (by omega)).trans rfl
  · rw [cell_of_row _ _ _ _ _ _ h]
    exact (vrow_at l i 2 u hu (by omega)).trans rfl
theorem two_sum (x y : V3) : sumV [x, y] = addV x y := by unfold sumV; simp [addV, z3]
end Go.Proofs.Ytmpakgabehplbaa
