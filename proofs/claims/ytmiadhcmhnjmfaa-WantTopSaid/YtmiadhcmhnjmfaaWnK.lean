/- The law's trees by numbers: what they are, and that they are made so. -/
import Derived.Test.YtmiadhcmhnjmfaaWnE
import Derived.Test.YtmiadhcmhnjmfaaDig
import Derived.Test.YtmiadhcmhnjmfaaU8s
import Derived.Deep.DeepCutAuto
namespace Go.Proofs.Ytmiadhcmhnjmfaa
open Go.RowKit
set_option linter.unusedVariables false
set_option linter.unusedSimpArgs false
def nmM (j : Nat) : ByteArray := ⟨#[UInt8.ofNat (97 + j * 7 % 24)]⟩
instance : Inhabited W5 := ⟨⟨⟨#[]⟩, ⟨#[]⟩, z3⟩⟩
def nAt (ns : List Int) (i : Nat) : Int := ns.getD i 0
def hasM (ns : List Int) (j : Nat) : Prop := 0 < j ∧ 0 < nAt ns (2 * j) % 3
instance (ns : List Int) (j : Nat) : Decidable (hasM ns j) := by unfold hasM; exact inferInstance
def pM (ns : List Int) (j : Nat) : Nat := (nAt ns (2 * j) / 3 % (j : Int)).toNat
def parM (ns : List Int) (j : Nat) (l : List W5) : ByteArray := if hasM ns j then (l[pM ns j]?.getD default).name else ⟨#[]⟩
def lim0M (ns : List Int) (j : Nat) (left : List Int) : Int := if hasM ns j then left.getD (pM ns j) 0 / 2 else 4096
def leftM (ns : List Int) (j : Nat) (left : List Int) : List Int := if hasM ns j then left.set (pM ns j) (left.getD (pM ns j) 0 - left.getD (pM ns j) 0 / 2) else left
def limM (ns : List Int) (clash : Bool) (j : Nat) (left : List Int) : Int := if clash = true ∧ nAt ns (2 * j + 1) % 16 = 0 then lim0M ns j left * 2 + 1 else lim0M ns j left
def elM (ns : List Int) (clash : Bool) (j : Nat) (l : List W5) (left : List Int) : W5 :=
  ⟨nmM j, parM ns j l, ⟨limM ns clash j left, limM ns clash j left, limM ns clash j left - limM ns clash j left / 3 * (nAt ns (2 * j + 1) % 2)⟩⟩
/-- So many nodes, and what is left to each. -/
def makeM (ns : List Int) (clash : Bool) : Nat → List W5 × List Int
  | 0 => ([], [])
  | j + 1 => ((makeM ns clash j).1 ++ [elM ns clash j (makeM ns clash j).1 (makeM ns clash j).2], leftM ns j (makeM ns clash j).2 ++ [limM ns clash j (makeM ns clash j).2 - limM ns clash j (makeM ns clash j).2 / 3])
theorem makeM_len (ns : List Int) (clash : Bool) : ∀ j, (makeM ns clash j).1.length = j ∧ (makeM ns clash j).2.length = j
  | 0 => ⟨rfl, rfl⟩
  | j + 1 => by
    obtain ⟨h1, h2⟩ := makeM_len ns clash j
    refine ⟨by simp [makeM, h1], ?_⟩
    simp only [makeM, List.length_append, List.length_cons, List.length_nil]
    unfold leftM
    split <;> simp [h2]
def LeftOK (left : List Int) : Prop := ∀ x ∈ left, 0 ≤ x ∧ x ≤ 8193
theorem left_at {left : List Int} (h : LeftOK left) (p : Nat) : 0 ≤ left.getD p 0 ∧ left.getD p 0 ≤ 8193 := by
  by_cases hp : p < left.length
  · have := h left[p] (List.getElem_mem hp)
    rw [List.getD_eq_getElem?_getD, List.getElem?_eq_getElem hp]; exact this
  · rw [List.getD_eq_getElem?_getD, List.getElem?_eq_none (by omega)]; exact ⟨Int.le_refl _, by decide⟩
theorem lim0_ok {ns : List Int} {j : Nat} {left : List Int} (h : LeftOK left) : 0 ≤ lim0M ns j left ∧ lim0M ns j left ≤ 4096 := by
  unfold lim0M
  have := left_at h (pM ns j)
  split <;> omega
theorem lim_ok {ns : List Int} {clash : Bool} {j : Nat} {left : List Int} (h : LeftOK left) : 0 ≤ limM ns clash j left ∧ limM ns clash j left ≤ 8193 := by
  unfold limM
  have := lim0_ok (ns := ns) (j := j) h
  split <;> omega
theorem leftM_ok {ns : List Int} {j : Nat} {left : List Int} (h : LeftOK left) : LeftOK (leftM ns j left) := by
  unfold leftM
  split
  · intro x hx
    rcases List.mem_or_eq_of_mem_set hx with hx | rfl
    · exact h x hx
    · have := left_at h (pM ns j); omega
  · exact h
theorem makeM_left (ns : List Int) (clash : Bool) : ∀ j, LeftOK (makeM ns clash j).2
  | 0 => fun x hx => by simp [makeM] at hx
  | j + 1 => fun x hx => by
    have ih := makeM_left ns clash j
    simp only [makeM, List.mem_append, List.mem_cons, List.not_mem_nil, or_false] at hx
    rcases hx with hx | rfl
    · exact leftM_ok ih x hx
    · have := lim_ok (ns := ns) (clash := clash) (j := j) ih; omega
theorem mk_type {w : World} {B e z n g : Nat} {v : Value} {xs : List Value} (h : w.ownsRow B e z v n xs) (hg : v.ownBlock = some g) : ∃ c, w.heap[g]? = some (.cells c e (0, 0)) := by
  rcases h.2 with ⟨rfl, h0⟩ | ⟨g', cap, cur, rfl, hB, hg', r⟩
  · cases hg
  · simp [Value.ownBlock] at hg
    subst hg
    exact ⟨cur, hg'⟩
/-- Rows of two types lie in two blocks. -/
theorem mk_apart {w : World} {B B' e e' z z' n n' : Nat} {v v' : Value} {xs xs' : List Value} (h : w.ownsRow B e z v n xs) (h' : w.ownsRow B' e' z' v' n' xs') (he : e ≠ e') : v.ownBlock = none ∨ v.ownBlock ≠ v'.ownBlock := by
  cases hb : v.ownBlock with
  | none => exact .inl rfl
  | some g =>
    refine .inr fun hc => ?_
    obtain ⟨c, hc1⟩ := mk_type h hb
    obtain ⟨c', hc2⟩ := mk_type h' hc.symm
    rw [hc1] at hc2
    simp only [Option.some.injEq, Obj.cells.injEq] at hc2
    exact he hc2.2.1
theorem info_intM : (Try.prog.info? 3).map (fun i => (i.zero, i.size, i.bytes)) = some (some (.int .i64 0), 1, 8) := by kernel_rfl
theorem sz_alloc {w : World} {b : Nat} (h : b ≤ w.heap.size) (o : Obj) : b ≤ (w.alloc o).heap.size := by simp; omega
def MakeTold (l : List W5) (w : World) (e : Ending) (w' : World) : Prop := ∃ v, e = .returned v ∧ Below w.heap.size w w' ∧ w'.ownsRow w.heap.size 39 5 v l.length (w5s l)
/-- How many nodes are made. -/
def cntM (ns : List Int) : Nat := min (ns.length / 2) 24
section
variable (w : World)
set_option maxHeartbeats 16000000 in
set_option maxRecDepth 100000 in
theorem lmakeW (ns : List Int) (nv : Value) (clash : Bool) (h : NumsRd .u8 w nv ns) (hr : ∀ x ∈ ns, 0 ≤ x ∧ x ≤ 255) (hl : ns.length ≤ 1000) : Calls Try.prog 18 #[nv, .bool clash] w (MakeTold (makeM ns clash (cntM ns)).1 w) := by
  obtain ⟨i0, hi0, hz0, hz1, hz2⟩ := info_partsT info_want
  obtain ⟨j0, hj0, hy0, hy1, hy2⟩ := info_partsT info_intM
  obtain ⟨ao, cap, rfl, hat⟩ := h
  have HAT := Lib.hid hat
  have HR := Lib.hid hr
  clear hat hr
  go_enter Try.func18, Try.ntmps18
  go_wp2_with fail
  have E0 := Lib.hid (show (w.alloc (.cells #[] 3)).ownsRow w.heap.size 3 1 (.slice (some ⟨w.heap.size, 0, none⟩) 0 0) 0 [] from ⟨by simp, .inr ⟨w.heap.size, 0, #[], rfl, Nat.le_refl _, heap_alloc_new w _, Nat.le_refl _, Nat.zero_le _, by simp, by simp⟩⟩)
  have BE := Lib.hid (below_al (Below.refl w.heap.size w) (.cells #[] 3))
  go_loopg [5, 6, 7] (cntM ns) (fun m lv fv iv wr => ∃ j i : Nat, iv = .int .i64 (i : Int) ∧ Hid (i = 2 * j) ∧ cntM ns - j ≤ m ∧ j ≤ cntM ns ∧ Below w.heap.size w wr ∧ wr.ownsRow w.heap.size 39 5 lv j (w5s (makeM ns clash j).1) ∧ wr.ownsRow w.heap.size 3 1 fv j (intCells (makeM ns clash j).2))
  case atStart => exact ⟨0, 0, rfl, Lib.hid rfl, Nat.le_refl _, Nat.zero_le _, BE.out, own_none _ _ _ _, E0.out⟩
  case round =>
    obtain ⟨j, i, rfl, I2, hm, hj, hb, ho, hf⟩ := hrel
    have HM := Lib.hid hm
    have BR := Lib.hid hb
    have OL := Lib.hid ho
    have OF := Lib.hid hf
    have CN := Lib.hid (show cntM ns = min (ns.length / 2) 24 from rfl)
    obtain ⟨ll, lm, lc, rfl⟩ := own_slice ho
    obtain ⟨fl, fm, fc, rfl⟩ := own_slice hf
    obtain rfl : j = lm := by
      refine Eq.symm ?_
      rcases ho.2 with ⟨e, h0⟩ | ⟨g, c, cur, e, _⟩ <;> simp only [Value.slice.injEq] at e
      · rw [h0]; exact e.2.1
      · exact e.2.1
    obtain rfl : j = fm := by
      refine Eq.symm ?_
      rcases hf.2 with ⟨e, h0⟩ | ⟨g, c, cur, e, _⟩ <;> simp only [Value.slice.injEq] at e
      · rw [h0]; exact e.2.1
      · exact e.2.1
    clear hm hb ho hf
    by_cases hlt : j < cntM ns
    · have hj24 : j < 24 := by have := CN.out; omega
      have HLT := Lib.hid hlt
      have I3 := Lib.hid (show i + 2 = 2 * (j + 1) by have := I2.out; omega)
      have J3 := Lib.hid (show j + 1 ≤ cntM ns from hlt)
      have M1 := Lib.hid (show j + 1 ≤ maxLen by unfold maxLen; omega)
      have M2 := Lib.hid (show (j + 1) * 56 ≤ 140737488355328 by omega)
      have M3 := Lib.hid (show (j + 1) * 8 ≤ 140737488355328 by omega)
      have I4 := Lib.hid (show ((i + 2 : Nat) : Int) = (i : Int) + 2 by push_cast; rfl)
      have hi1 : i + 1 < ns.length := by have := CN.out; have := I2.out; omega
      have hn0 : ns[i]? = some (nAt ns i) := by unfold nAt; rw [List.getD_eq_getElem?_getD, List.getElem?_eq_getElem (by omega)]; rfl
      have hn1 : ns[i + 1]? = some (nAt ns (i + 1)) := by unfold nAt; rw [List.getD_eq_getElem?_getD, List.getElem?_eq_getElem (by omega)]; rfl
      obtain ⟨g, o, rfl, a0⟩ := HAT.out i _ hn0
      obtain ⟨g', o', e', a1⟩ := HAT.out (i + 1) _ hn1
      simp only [Option.some.injEq, Addr.mk.injEq, and_true] at e'
      obtain ⟨rfl, rfl⟩ := e'
      obtain ⟨r0, r1⟩ := HR.out _ (List.mem_of_getElem? hn0)
      obtain ⟨r2, r3⟩ := HR.out _ (List.mem_of_getElem? hn1)
      have AW := Lib.hid a1
      replace a0 := hold BR.out a0
      replace a1 := hold BR.out a1
      have LL := Lib.hid (makeM_left ns clash j)
      have LN := Lib.hid (makeM_len ns clash j)
      have NX := Lib.hid (show makeM ns clash (j + 1) = ((makeM ns clash j).1 ++ [elM ns clash j (makeM ns clash j).1 (makeM ns clash j).2], leftM ns j (makeM ns clash j).2 ++ [limM ns clash j (makeM ns clash j).2 - limM ns clash j (makeM ns clash j).2 / 3]) from rfl)
      have HS := Lib.hid (show hasM ns j ↔ 0 < j ∧ 0 < nAt ns i % 3 by unfold hasM; rw [I2.out])
      have PM := Lib.hid (show pM ns j = (nAt ns i / 3 % (j : Int)).toNat by unfold pM; rw [I2.out])
      have LM := Lib.hid (show ∀ left, limM ns clash j left = if clash = true ∧ nAt ns (i + 1) % 16 = 0 then lim0M ns j left * 2 + 1 else lim0M ns j left by intro left; unfold limM; rw [I2.out])
      have EM := Lib.hid (show ∀ l left, elM ns clash j l left = ⟨nmM j, parM ns j l, ⟨limM ns clash j left, limM ns clash j left, limM ns clash j left - limM ns clash j left / 3 * (nAt ns (i + 1) % 2)⟩⟩ by intro l left; unfold elM; rw [I2.out])
      generalize nAt ns i = n at *
      generalize nAt ns (i + 1) = m at *
      generalize (makeM ns clash j).1 = l at *
      generalize (makeM ns clash j).2 = left at *
      have h1 : (i : Int) + 1 < (ns.length : Int) := by omega
      have h2 : (j : Int) < 24 := by omega
      have x0 : (0 : Int) ≤ (i : Int) := by omega
      have x1 : (i : Int) < (ns.length : Int) := by omega
      have wn : IntKind.i64.wrap n = n := by rw [IntKind.wrap_i64]; omega
      clear hn0 hn1 hlt
      generalize ns.length = nl at *
      go_wp2_with fail
      refine wp_region_mono (by kernel_rfl) (by kernel_rfl) ?_
      simp only [List.map_cons, List.map_nil]
      repeat (first
        | (apply wpM_is
           · (intro us W hW hg K hK
              clear hg
              have c0 := hold hW a0
              simp only [fillA]
              go_simp
              first
              | exact hK _ (Below.refl _ _))
           simp only [setD, List.set_cons_zero, List.set_cons_succ]))
      intro us W hW hg
      simp only [fillA]
      clear hg
      have BW := Lib.hid (below_tr BR.out hW)
      have OLW := Lib.hid (own_below OL.out hW)
      have OFW := Lib.hid (own_below OF.out hW)
      replace a0 := hold hW a0
      replace a1 := hold hW a1
      obtain ⟨cc, hcc⟩ : ∃ cc : UInt8, cc = UInt8.ofNat (97 + j * 7 % 24) := ⟨_, rfl⟩
      have hcv := ddig_conv W (97 + (j : Int) * 7 % 24) cc (by
        rw [hcc, UInt8.toNat_ofNat']
        rw [show (97 + j * 7 % 24) % 2 ^ 8 = 97 + j * 7 % 24 by omega]
        push_cast
        rfl)
      replace hcc := Lib.hid hcc
      have wc : IntKind.u8.wrap (97 + (j : Int) * 7 % 24) = 97 + (j : Int) * 7 % 24 := by
        rw [IntKind.wrap_u8]; omega
      clear hW
      go_upto_region 9 with fail
      have LL1 := Lib.hid (OLW.out.lt)
      have LF1 := Lib.hid (OFW.out.lt)
      have B1 := Lib.hid (below_al (below_al BW.out (.cells #[.int .u8 (97 + (j : Int) * 7 % 24)] 5)) (.cells #[.string ⟨#[cc]⟩, .string ⟨#[]⟩, .int .i64 4096, .int .i64 4096, .int .i64 4096] 39))
      have O1 := Lib.hid ((OLW.out.alloc (.cells #[.int .u8 (97 + (j : Int) * 7 % 24)] 5)).alloc (.cells #[.string ⟨#[cc]⟩, .string ⟨#[]⟩, .int .i64 4096, .int .i64 4096, .int .i64 4096] 39))
      have F1 := Lib.hid ((OFW.out.alloc (.cells #[.int .u8 (97 + (j : Int) * 7 % 24)] 5)).alloc (.cells #[.string ⟨#[cc]⟩, .string ⟨#[]⟩, .int .i64 4096, .int .i64 4096, .int .i64 4096] 39))
      have X1 := Lib.hid (heap_alloc_new (W.alloc (.cells #[.int .u8 (97 + (j : Int) * 7 % 24)] 5)) (.cells #[.string ⟨#[cc]⟩, .string ⟨#[]⟩, .int .i64 4096, .int .i64 4096, .int .i64 4096] 39))
      have SX := Lib.hid (show (W.alloc (.cells #[.int .u8 (97 + (j : Int) * 7 % 24)] 5)).heap.size = W.heap.size + 1 by simp)
      rw [SX.out] at X1
      have hz : W.heap.size ≤ ((W.alloc (.cells #[.int .u8 (97 + (j : Int) * 7 % 24)] 5)).alloc (.cells #[.string ⟨#[cc]⟩, .string ⟨#[]⟩, .int .i64 4096, .int .i64 4096, .int .i64 4096] 39)).heap.size := by simp; omega
      have BXZ := Lib.hid BW.out.size
      clear a0 a1 hcv hz SX
      generalize (W.alloc (.cells #[.int .u8 (97 + (j : Int) * 7 % 24)] 5)).alloc (.cells #[.string ⟨#[cc]⟩, .string ⟨#[]⟩, .int .i64 4096, .int .i64 4096, .int .i64 4096] 39) = w1 at *
      have XL := Lib.hid (show ∀ k, (Value.slice ll j lc).ownBlock = some k → w.heap.size ≤ k ∧ k < W.heap.size + 1 from fun k hk => ⟨(LL1.out k hk).1, by have := (LL1.out k hk).2; omega⟩)
      have XF := Lib.hid (show ∀ k, (Value.slice fl j fc).ownBlock = some k → w.heap.size ≤ k ∧ k < W.heap.size + 1 from fun k hk => ⟨(LF1.out k hk).1, by have := (LF1.out k hk).2; omega⟩)
      have XB := Lib.hid (show w.heap.size ≤ W.heap.size + 1 by have := BXZ.out; omega)
      clear LL1 LF1 BXZ OLW OFW BW OL OF BR
      generalize W.heap.size + 1 = bx at *
      obtain ⟨hb, hhb⟩ : ∃ hb : Bool, hb = decide (0 < j ∧ 0 < n % 3) := ⟨_, rfl⟩
      replace hhb := Lib.hid hhb
      go_cut [48] (fun s wx => s = .bool hb ∧ wx = w1)
      case first =>
        by_cases hjp : 0 < j
        · by_cases hn3 : 0 < n % 3
          · go_wp2_with fail
            go_meet
            case rel => exact ⟨by rw [hhb.out]; simp [hjp, hn3], rfl⟩
          · go_wp2_with fail
            go_meet
            case rel => exact ⟨by rw [hhb.out]; simp [hjp, hn3], rfl⟩
        · go_wp2_with fail
          go_meet
          case rel => exact ⟨by rw [hhb.out]; simp [hjp], rfl⟩
      case rest =>
      obtain ⟨rfl, rfl⟩ := hcut
      generalize wc = w1 at *
      go_upto_if 48 with fail
      go_cut [11] (fun lv wx => lv = .int .i64 (lim0M ns j left) ∧ wx.heap[bx]? = some (.cells #[.string ⟨#[cc]⟩, .string (parM ns j l), .int .i64 4096, .int .i64 4096, .int .i64 4096] 39 (0, 0)) ∧ Below w.heap.size w wx ∧ wx.ownsRow w.heap.size 39 5 (.slice ll j lc) j (w5s l) ∧ wx.ownsRow w.heap.size 3 1 (.slice fl j fc) j (intCells (leftM ns j left)))
      case first =>
        cases hb with
        | false =>
          go_wp2_with fail
          go_meet
          case rel =>
            have hno : ¬ hasM ns j := fun h => by
              have h1 := hhb.out
              have h2 := HS.out.1 h
              simp [h2] at h1
            exact ⟨by unfold lim0M; rw [if_neg hno], by unfold parM; rw [if_neg hno]; exact X1.out, B1.out, O1.out, by unfold leftM; rw [if_neg hno]; exact F1.out⟩
        | true =>
          obtain ⟨hjp, hn3⟩ : 0 < j ∧ 0 < n % 3 := by simpa using hhb.out.symm
          have hyes := Lib.hid (HS.out.2 ⟨hjp, hn3⟩)
          have hq0 : 0 ≤ n / 3 % (j : Int) := Int.emod_nonneg _ (by omega)
          have hq1 : n / 3 % (j : Int) < j := Int.emod_lt_of_pos _ (by omega)
          obtain ⟨p, hp⟩ : ∃ p : Nat, n / 3 % (j : Int) = (p : Int) := ⟨(n / 3 % (j : Int)).toNat, (Int.toNat_of_nonneg hq0).symm⟩
          have PMp := Lib.hid (show pM ns j = p by rw [PM.out, hp]; rfl)
          have hpj : p < j := by omega
          clear hq0 hq1
          go_upto_region 11 with fail
          rw [hp]
          clear hp
          obtain ⟨q, hql, hqL⟩ : ∃ q : W5, l[p]? = some q ∧ q = l[p]?.getD default := by
            have h1 : p < l.length := by rw [LN.out.1]; exact hpj
            exact ⟨l[p], List.getElem?_eq_getElem h1, by rw [List.getElem?_eq_getElem h1]; rfl⟩
          obtain ⟨lg, rfl, _⟩ : ∃ lg, ll = some ⟨lg, 0, none⟩ ∧ True := by
            rcases O1.out.2 with ⟨e, h0⟩ | ⟨g, c, cur, e, _⟩ <;> simp only [Value.slice.injEq] at e
            · omega
            · exact ⟨_, e.1, trivial⟩
          obtain ⟨fg, rfl, _⟩ : ∃ fg, fl = some ⟨fg, 0, none⟩ ∧ True := by
            rcases F1.out.2 with ⟨e, h0⟩ | ⟨g, c, cur, e, _⟩ <;> simp only [Value.slice.injEq] at e
            · omega
            · exact ⟨_, e.1, trivial⟩
          have d0 : w1.cell? ⟨lg, p * 5, none⟩ = some (.string q.name) := by
            have h := O1.out.cellAt (p * 5) (by omega)
            rw [h]
            exact w5s_at l p 0 q hql (by omega)
          have e0 : w1.cell? ⟨fg, p, none⟩ = some (.int .i64 (left.getD p 0)) := by
            have h := F1.out.cellAt p (by omega)
            rw [h]
            unfold intCells
            rw [List.getElem?_map, List.getD_eq_getElem?_getD, List.getElem?_eq_getElem (by rw [LN.out.2]; exact hpj)]
            rfl
          replace hql := Lib.hid hql
          replace hqL := Lib.hid hqL
          have NE := Lib.hid (show fg ≠ bx by have := (XF.out fg rfl).2; omega)
          have NL := Lib.hid (show lg ≠ bx by have := (XL.out lg rfl).2; omega)
          have x1 := cell_of_row _ _ 1 _ _ _ X1.out
          have f1 := frozen_of_row _ _ 1 _ _ X1.out
          simp at x1
          go_upto_region 12 with fail
          clear x1 f1 d0
          have X2 := Lib.hid (heap_setCell_same w1 bx 1 _ _ (.string q.name) X1.out)
          have G2 := Lib.hid (show w1.grownBy (w1.setCell ⟨bx, 1, none⟩ (.string q.name)) (some bx) from ⟨rfl, rfl, rfl, by simp, fun k _ hk => heap_setCell_other w1 ⟨bx, 1, none⟩ k _ (fun e => hk (by simp [e]))⟩)
          have B2 := Lib.hid (below_grown' B1.out G2.out (fun k hk => by cases hk; exact XB.out))
          have O2 := Lib.hid (O1.out.kept G2.out (.inr (fun e => NL.out (by simpa [Value.ownBlock] using e))))
          have F2 := Lib.hid (F1.out.kept G2.out (.inr (fun e => NE.out (by simpa [Value.ownBlock] using e))))
          generalize w1.setCell ⟨bx, 1, none⟩ (.string q.name) = w2 at *
          have e2 : w2.cell? ⟨fg, p, none⟩ = some (.int .i64 (left.getD p 0)) := by
            have h := F2.out.cellAt p (by omega)
            rw [h]
            unfold intCells
            rw [List.getElem?_map, List.getD_eq_getElem?_getD, List.getElem?_eq_getElem (by rw [LN.out.2]; exact hpj)]
            rfl
          have fz := F2.out.frozenAt p
          have lb := left_at LL.out p
          generalize hL : left.getD p 0 = y at *
          replace hL := Lib.hid hL
          have wy := (show IntKind.i64.wrap (y / 2) = y / 2 by rw [IntKind.wrap_i64]; omega)
          have wy2 := (show IntKind.i64.wrap (y - y / 2) = y - y / 2 by rw [IntKind.wrap_i64]; omega)
          clear e0 X1 F1 O1 B1
          go_upto_region 13 with fail
          go_wp2_with fail
          go_meet
          case rel =>
            have FS := (F2.out.stored p (.int .i64 (y - y / 2)))
            have B3 := below_grown' B2.out FS.2 (fun k hk => by cases hk; exact (XF.out fg rfl).1)
            have O3 := O2.out.kept FS.2 ((mk_apart O2.out F2.out (by decide)).imp id (fun h e => h (by rw [e]; rfl)))
            refine ⟨by unfold lim0M; rw [if_pos hyes.out, PMp.out, hL.out], ?_, B3, O3, ?_⟩
            · rw [heap_setCell_other w2 ⟨fg, p, none⟩ bx _ (fun e => NE.out e.symm), X2.out]
              unfold parM
              rw [if_pos hyes.out, PMp.out, ← hqL.out]
              rfl
            · have h := FS.1
              unfold leftM intCells at *
              rw [if_pos hyes.out, PMp.out, hL.out]
              rw [List.map_set]
              exact h
      case rest =>
        obtain ⟨rfl, hbo, hbb, hbl, hbf⟩ := hcut
        clear X1 B1 O1 F1
        have X1 := Lib.hid hbo
        have B1 := Lib.hid hbb
        have O1 := Lib.hid hbl
        have F1 := Lib.hid hbf
        clear hbo hbb hbl hbf
        generalize wc = w5 at *
        have LMl := Lib.hid (LM.out left)
        have ly := lim0_ok (ns := ns) (j := j) LL.out
        have lz := lim_ok (ns := ns) (clash := clash) (j := j) LL.out
        have EMl := Lib.hid (EM.out l left)
        generalize lim0M ns j left = y at *
        generalize limM ns clash j left = z at *
        generalize parM ns j l = pn at *
        generalize leftM ns j left = left2 at *
        clear LM EM PM HS hhb LL
        obtain ⟨hc, hhc⟩ : ∃ hc : Bool, hc = decide (clash = true ∧ m % 16 = 0) := ⟨_, rfl⟩
        replace hhc := Lib.hid hhc
        have a1 := hold B1.out AW.out
        go_upto_region 14 with fail
        go_cut [82] (fun s wx => s = .bool hc ∧ wx = w5)
        case first =>
          cases clash with
          | false =>
            go_wp2_with fail
            go_meet
            case rel => exact ⟨by rw [hhc.out]; simp, rfl⟩
          | true =>
            by_cases hm16 : m % 16 = 0
            · go_wp2_with fail
              go_meet
              case rel => exact ⟨by rw [hhc.out]; simp [hm16], rfl⟩
            · go_wp2_with fail
              go_meet
              case rel => exact ⟨by rw [hhc.out]; simp [hm16], rfl⟩
        case rest =>
        obtain ⟨rfl, rfl⟩ := hcut
        generalize wc = w5 at *
        go_upto_if 82 with fail
        go_cut [11] (fun s wx => s = .int .i64 z ∧ wx = w5)
        case first =>
          have wy := (show IntKind.i64.wrap (y * 2) = y * 2 by rw [IntKind.wrap_i64]; omega)
          have wy2 := (show IntKind.i64.wrap (y * 2 + 1) = y * 2 + 1 by rw [IntKind.wrap_i64]; omega)
          cases hc with
          | false =>
            go_wp2_with fail
            go_meet
            case rel => exact ⟨by rw [LMl.out, if_neg (by simpa using hhc.out.symm)], rfl⟩
          | true =>
            go_wp2_with fail
            go_meet
            case rel => exact ⟨by rw [LMl.out, if_pos (by simpa using hhc.out.symm)], rfl⟩
        case rest =>
        obtain ⟨rfl, rfl⟩ := hcut
        generalize wc = w5 at *
        go_upto_region 16 with fail
        have hm2 : m % 2 = 0 ∨ m % 2 = 1 := by omega
        obtain ⟨t, ht⟩ : ∃ t, z / 3 * (m % 2) = t := ⟨_, rfl⟩
        have lt : 0 ≤ t ∧ t ≤ z := by
          rcases hm2 with h | h <;> rw [h] at ht <;> omega
        rw [ht] at EMl
        clear hm2
        have wz := (show wrap64 (z / 3) = z / 3 by unfold wrap64; omega)
        have wt := (show wrap64 t = t by unfold wrap64; omega)
        have wt2 := (show wrap64 (z - t) = z - t by unfold wrap64; omega)
        have wq := (show wrap64 (z - z / 3) = z - z / 3 by unfold wrap64; omega)
        replace ly := Lib.hid ly
        replace lt := Lib.hid lt
        have x2 := cell_of_row _ _ 2 _ _ _ X1.out
        have f2 := frozen_of_row _ _ 2 _ _ X1.out
        have Y2 := heap_setCell_same w5 bx 2 _ _ (.int .i64 z) X1.out
        have x3 := cell_of_row _ _ 3 _ _ _ Y2
        have f3 := frozen_of_row _ _ 3 _ _ Y2
        have Y3 := heap_setCell_same _ bx 3 _ _ (.int .i64 z) Y2
        have x4 := cell_of_row _ _ 4 _ _ _ Y3
        have f4 := frozen_of_row _ _ 4 _ _ Y3
        have Y4 := heap_setCell_same _ bx 4 _ _ (.int .i64 (z - t)) Y3
        replace Y2 := Lib.hid Y2
        replace Y3 := Lib.hid Y3
        replace Y4 := Lib.hid Y4
        simp at x2 x3 x4
        go_upto_region 17 with fail
        have wi := (show wrap64 ((i : Int) + 2) = (i : Int) + 2 by unfold wrap64; omega)
        clear x2 x3 x4 f2 f3 f4 a1 Y2 Y3 wt wt2 ht
        have GS := Lib.hid (show w5.grownBy (((w5.setCell ⟨bx, 2, none⟩ (.int .i64 z)).setCell ⟨bx, 3, none⟩ (.int .i64 z)).setCell ⟨bx, 4, none⟩ (.int .i64 (z - t))) (some bx) from ⟨rfl, rfl, rfl, by simp, fun k _ hk => (heap_setCell_other _ ⟨bx, 4, none⟩ k _ (fun e => hk (by simp [e]))).trans ((heap_setCell_other _ ⟨bx, 3, none⟩ k _ (fun e => hk (by simp [e]))).trans (heap_setCell_other _ ⟨bx, 2, none⟩ k _ (fun e => hk (by simp [e]))))⟩)
        have BX := Lib.hid (show (((w5.setCell ⟨bx, 2, none⟩ (.int .i64 z)).setCell ⟨bx, 3, none⟩ (.int .i64 z)).setCell ⟨bx, 4, none⟩ (.int .i64 (z - t))).heap[bx]? = some (.cells #[.string ⟨#[cc]⟩, .string pn, .int .i64 z, .int .i64 z, .int .i64 (z - t)] 39 (0, 0)) from by simpa using Y4.out)
        have NB : ∀ v e' z' n' xs', w5.ownsRow w.heap.size e' z' v n' xs' → (∀ k, v.ownBlock = some k → w.heap.size ≤ k ∧ k < bx) → v.ownBlock = none ∨ v.ownBlock ≠ some bx := fun v e' z' n' xs' _ h => by
          cases hv : v.ownBlock with
          | none => exact .inl rfl
          | some k => exact .inr (fun e => by have := (h k hv).2; simp only [Option.some.injEq] at e; omega)
        have O2 := Lib.hid (O1.out.kept GS.out (NB _ _ _ _ _ O1.out XL.out))
        have F2 := Lib.hid (F1.out.kept GS.out (NB _ _ _ _ _ F1.out XF.out))
        have B2 := Lib.hid (below_grown' B1.out GS.out (fun k hk => by cases hk; exact XB.out))
        clear NB Y4 X1 GS O1 F1 B1
        generalize ((w5.setCell ⟨bx, 2, none⟩ (.int .i64 z)).setCell ⟨bx, 3, none⟩ (.int .i64 z)).setCell ⟨bx, 4, none⟩ (.int .i64 (z - t)) = w6 at *
        have c0 := cell_of_row _ _ 0 _ _ _ BX.out
        have c1 := cell_of_row _ _ 1 _ _ _ BX.out
        have c2 := cell_of_row _ _ 2 _ _ _ BX.out
        have c3 := cell_of_row _ _ 3 _ _ _ BX.out
        have c4 := cell_of_row _ _ 4 _ _ _ BX.out
        simp at c0 c1 c2 c3 c4
        have NW := Lib.hid (news_new w6 #[.string ⟨#[cc]⟩, .string pn, .int .i64 z, .int .i64 z, .int .i64 (z - t)] 39)
        have O3a := Lib.hid (O2.out.alloc (.cells #[.string ⟨#[cc]⟩, .string pn, .int .i64 z, .int .i64 z, .int .i64 (z - t)] 39))
        have F3a := Lib.hid (F2.out.alloc (.cells #[.string ⟨#[cc]⟩, .string pn, .int .i64 z, .int .i64 z, .int .i64 (z - t)] 39))
        have B3z := Lib.hid B2.out.size
        clear BX
        go_wp2_with (at_builtin; refine wpList_append_any _ rfl _ _ 22 rfl w.heap.size 39 i0 _ 5 56 Try.underlying22 hi0 hz0 hz1 hz2 rfl (by decide) (.slice ll j lc) j _ rfl O3a.out (some ⟨w6.heap.size, 0, none⟩) 1 1 [.string ⟨#[cc]⟩, .string pn, .int .i64 z, .int .i64 z, .int .i64 (z - t)] rfl (by rfl) (fun h => by cases h) (fun ad had j u hj => by cases had; exact NW.out j u hj) (by intro u hu; simp only [List.mem_cons, List.not_mem_nil, or_false] at hu; rcases hu with rfl | rfl | rfl | rfl | rfl <;> rfl) M1.out M2.out (sz_alloc B3z.out _) ?_)
        intro v4 w7 hown4 hg4
        have B4 := Lib.hid (below_grown' (below_al B2.out (.cells #[.string ⟨#[cc]⟩, .string pn, .int .i64 z, .int .i64 z, .int .i64 (z - t)] 39)) hg4 (fun q hq => (World.ownsRow.lt O3a.out q hq).1))
        have F4 := Lib.hid (F3a.out.kept hg4 (mk_apart F3a.out O3a.out (by decide)))
        have O4 := Lib.hid hown4
        clear hown4 hg4 c0 c1 c2 c3 c4 O3a F3a NW O2 F2 B2 B3z
        have NI := Lib.hid (news_new w7 #[.int .i64 (z - z / 3)] 3)
        have F4a := Lib.hid (F4.out.alloc (.cells #[.int .i64 (z - z / 3)] 3))
        have O4a := Lib.hid (O4.out.alloc (.cells #[.int .i64 (z - z / 3)] 3))
        have B4z := Lib.hid B4.out.size
        go_wp2_with (at_builtin; refine wpList_append_any _ rfl _ _ 51 rfl w.heap.size 3 j0 _ 1 8 Try.underlying51 hj0 hy0 hy1 hy2 rfl (by decide) (.slice fl j fc) j _ rfl F4a.out (some ⟨w7.heap.size, 0, none⟩) 1 1 [.int .i64 (z - z / 3)] rfl (by rfl) (fun h => by cases h) (fun ad had j u hj => by cases had; exact NI.out j u hj) (by intro u hu; obtain rfl := List.mem_singleton.1 hu; rfl) M1.out M3.out (sz_alloc B4z.out _) ?_)
        intro v5 w8 hown5 hg5
        have B5 := Lib.hid (below_grown' (below_al B4.out (.cells #[.int .i64 (z - z / 3)] 3)) hg5 (fun q hq => (World.ownsRow.lt F4a.out q hq).1))
        have O5 := Lib.hid (O4a.out.kept hg5 (mk_apart O4a.out F4a.out (by decide)))
        have F5 := Lib.hid hown5
        clear hown5 hg5 O4a F4a NI O4 F4 B4 B4z
        have E5 := Lib.hid (show w5s (makeM ns clash (j + 1)).1 = w5s l ++ [.string ⟨#[cc]⟩, .string pn, .int .i64 z, .int .i64 z, .int .i64 (z - t)] by
          rw [NX.out, EMl.out, w5s_app]
          unfold nmM
          rw [← hcc.out]
          rfl)
        have E6 := Lib.hid (show intCells (makeM ns clash (j + 1)).2 = intCells left2 ++ [.int .i64 (z - z / 3)] by
          rw [NX.out]
          unfold intCells
          rw [List.map_append]; rfl)
        go_wp2_with fail
        have WI := Lib.hid wi
        clear wq wz wi wn wc lz x0 x1 h1 h2 r0 r1 r2 r3 hj24 hi1
        go_roundg (cntM ns - (j + 1))
        case rel => exact ⟨j + 1, i + 2, by rw [I4.out, WI.out], I3, Nat.le_refl _, J3.out, B5.out, by rw [E5.out]; exact O5.out, by rw [E6.out]; exact F5.out⟩
        case measure => exact Nat.lt_of_lt_of_le (Nat.sub_succ_lt_self _ _ HLT.out) HM.out
    · obtain rfl : j = cntM ns := by omega
      clear hlt
      have hi48 : i ≤ 48 := by have := CN.out; have := I2.out; omega
      have ML := Lib.hid (makeM_len ns clash (cntM ns)).1
      by_cases h1 : (i : Int) + 1 < (ns.length : Int)
      · have h2 : ¬ ((cntM ns : Nat) : Int) < 24 := by have := CN.out; have := I2.out; omega
        go_wp2_with fail
        go_ret
        exact ⟨_, rfl, BR.out, by rw [ML.out]; exact OL.out⟩
      · go_wp2_with fail
        go_ret
        exact ⟨_, rfl, BR.out, by rw [ML.out]; exact OL.out⟩
end
end Go.Proofs.Ytmiadhcmhnjmfaa
