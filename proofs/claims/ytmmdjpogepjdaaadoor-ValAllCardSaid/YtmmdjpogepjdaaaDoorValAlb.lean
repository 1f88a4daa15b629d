/- What the law of any values asks of the callees. -/
import Derived.Test.YtmmdjpogepjdaaaDoorValMg
import Derived.Test.YtmmdjpogepjdaaaDoorValVb
import Derived.Test.YtmmdjpogepjdaaaDoorValT
import Derived.Test.YtmmdjpogepjdaaaDoorRfP
import Derived.Test.YtmmdjpogepjdaaaDoorRfO
import Derived.Test.YtmmdjpogepjdaaaDoorParts
import Derived.Test.YtmmdjpogepjdaaaDoorGreat
import Derived.Test.YtmmdjpogepjdaaaDoorOpenV
namespace Go.Proofs.YtmmdjpogepjdaaaDoor
open Go.RowKit
set_option linter.unusedVariables false
set_option linter.unusedSimpArgs false
section
variable (w : World)
theorem rMayValE (D : Nat) (v : VL) (lv : Value) (h : RowRd w D v.kids lv) :
    Calls Tryd.prog 7 #[.agg #[.int .i64 v.kind, .int .i64 v.num, .string v.text, lv]] w (Made (.bool (mayB 64 v)) w) := by
  cases hm : mayB 64 v
  · exact (rMayValG w D v lv h).mono fun e w' ⟨b, h1, h2, h3⟩ => by
      cases b
      · exact ⟨h1, h3⟩
      · have := h2 rfl; rw [hm] at this; cases this
  · exact rMayVal w D v lv h hm
theorem may_list_eq {d : Nat} {v : VL} (h : mayB d v = true) (h4 : v.kind = 4) : v = vlist v.kids := by
  have hp := may_parts h
  have ht := hp.other (by omega)
  have hn : v.num = 0 := by
    cases d with
    | zero => rw [show mayB 0 v = leafB v from rfl, leaf_list h4] at h; cases h
    | succ d =>
      unfold mayB at h
      rw [if_pos h4] at h
      simp only [Bool.and_eq_true, beq_iff_eq] at h
      exact h.1.1.1
  obtain ⟨k, n, t, l⟩ := v
  simp only [VL.kind, VL.num, VL.text, VL.kids] at *
  subst h4 hn ht
  rfl
theorem may_num_eq {d : Nat} {v : VL} (h : mayB d v = true) (h1 : v.kind = 1) : v = vnum v.num := by
  have hp := may_parts h
  have ht := hp.other (by omega)
  have hk := hp.none (by omega)
  obtain ⟨k, n, t, l⟩ := v
  simp only [VL.kind, VL.num, VL.text, VL.kids] at *
  subst h1 ht hk
  rfl
/-- Index, of values that may be, whatever empty row stands beside a number. -/
theorem vindexG (D : Nat) (a b : VL) (la lb : Value) (ha : RowRd w D a.kids la) (hb : RowRd w D b.kids lb) (hma : mayB 64 a = true) (hmb : mayB 64 b = true) :
    Calls Tryd.prog 12 #[.agg #[.int .i64 a.kind, .int .i64 a.num, .string a.text, la], .agg #[.int .i64 b.kind, .int .i64 b.num, .string b.text, lb]] w (Tells (D - 1) (idxR a b) w) := by
  by_cases hk : a.kind ≠ 4 ∨ b.kind ≠ 1
  · have e : idxR a b = (vz, 7) := if_pos hk
    rw [e]
    exact (vi_bad w D a b la _ ha hb hk).mono fun _ _ h => tells_told h
  · have ha4 : a.kind = 4 := by
      rcases Int.decEq a.kind 4 with h | h
      · exact absurd (.inl h) hk
      · exact h
    have hb1 : b.kind = 1 := by
      rcases Int.decEq b.kind 1 with h | h
      · exact absurd (.inr h) hk
      · exact h
    have e : idxR a b = (if b.num < 0 then ((vz, 2) : VL × Int) else match a.kids[b.num.toNat]? with | some u => (u, 0) | none => (vz, 2)) := if_neg hk
    rw [e]
    have ea := may_list_eq hma ha4
    have eb := may_num_eq hmb hb1
    obtain ⟨bo, bc, rfl⟩ := hb.shape
    have hbk : b.kids.length = 0 := by rw [eb]; rfl
    have ga : a.kind = 4 ∧ a.num = 0 ∧ a.text = ⟨#[]⟩ := ⟨ha4, by rw [ea]; rfl, by rw [ea]; rfl⟩
    have gb : b.text = ⟨#[]⟩ := by rw [eb]; rfl
    rw [ga.1, ga.2.1, ga.2.2, hb1, gb, hbk]
    by_cases hn : b.num < 0
    · rw [if_pos hn]
      exact (vindexB_none w bo bc D a.kids la b.num ha (.inl hn)).mono fun _ _ h => tells_told h
    · rw [if_neg hn]
      cases hu : a.kids[b.num.toNat]? with
      | none =>
        have hl : a.kids.length ≤ b.num.toNat := by simpa using hu
        exact (vindexB_none w bo bc D a.kids la b.num ha (.inr (by omega))).mono fun _ _ h => tells_told h
      | some u =>
        exact (vindexB_at w bo bc D 63 a.kids la b.num.toNat u b.num (by omega) ha hu ((may_kids hma).2 u (List.mem_of_getElem? hu))).mono fun _ _ h => tells_gives h
/-- The type's name. -/
def typT (v : VL) : ByteArray := if v.kind = 1 then ⟨#[105, 110, 116]⟩ else if v.kind = 2 then ⟨#[115, 116, 114, 105, 110, 103]⟩ else if v.kind = 3 then ⟨#[98, 111, 111, 108]⟩ else ⟨#[108, 105, 115, 116]⟩
set_option maxHeartbeats 4000000 in
theorem vtype (v : VL) (lao : Option Addr) (ln lcap : Nat) (hk : v.kind = 1 ∨ v.kind = 2 ∨ v.kind = 3 ∨ v.kind = 4) :
    Calls Tryd.prog 15 #[.agg #[.int .i64 v.kind, .int .i64 v.num, .string v.text, .slice lao ln lcap]] w (Made (.string (typT v)) w) := by
  rcases hk with h | h | h | h
  · have E := Lib.hid (show typT v = ⟨#[105, 110, 116]⟩ from if_pos h)
    rw [E.out]
    have g1 : (v.kind == 1) = true := by simp [h]
    have g2 : (v.kind == 2) = false := by simp [h]
    have g3 : (v.kind == 3) = false := by simp [h]
    have g4 : (v.kind == 4) = false := by simp [h]
    clear h
    go_enter Tryd.func15, Tryd.ntmps15
    go_wp2_with fail
    go_ret
    exact ⟨rfl, below_al (Below.refl _ _) _⟩
  · have E := Lib.hid (show typT v = ⟨#[115, 116, 114, 105, 110, 103]⟩ by unfold typT; rw [if_neg (by omega), if_pos h])
    rw [E.out]
    have g1 : (v.kind == 1) = false := by simp [h]
    have g2 : (v.kind == 2) = true := by simp [h]
    have g3 : (v.kind == 3) = false := by simp [h]
    have g4 : (v.kind == 4) = false := by simp [h]
    clear h
    go_enter Tryd.func15, Tryd.ntmps15
    go_wp2_with fail
    go_ret
    exact ⟨rfl, below_al (Below.refl _ _) _⟩
  · have E := Lib.hid (show typT v = ⟨#[98, 111, 111, 108]⟩ by unfold typT; rw [if_neg (by omega), if_neg (by omega), if_pos h])
    rw [E.out]
    have g1 : (v.kind == 1) = false := by simp [h]
    have g2 : (v.kind == 2) = false := by simp [h]
    have g3 : (v.kind == 3) = true := by simp [h]
    have g4 : (v.kind == 4) = false := by simp [h]
    clear h
    go_enter Tryd.func15, Tryd.ntmps15
    go_wp2_with fail
    go_ret
    exact ⟨rfl, below_al (Below.refl _ _) _⟩
  · have E := Lib.hid (show typT v = ⟨#[108, 105, 115, 116]⟩ by unfold typT; rw [if_neg (by omega), if_neg (by omega), if_neg (by omega)])
    rw [E.out]
    have g1 : (v.kind == 1) = false := by simp [h]
    have g2 : (v.kind == 2) = false := by simp [h]
    have g3 : (v.kind == 3) = false := by simp [h]
    have g4 : (v.kind == 4) = true := by simp [h]
    clear h
    go_enter Tryd.func15, Tryd.ntmps15
    go_wp2_with fail
    go_ret
    exact ⟨rfl, below_al (Below.refl _ _) _⟩
set_option maxHeartbeats 4000000 in
theorem rtype (v : VL) (lao : Option Addr) (ln lcap : Nat) (hk : v.kind = 1 ∨ v.kind = 2 ∨ v.kind = 3 ∨ v.kind = 4) :
    Calls Tryd.prog 16 #[.agg #[.int .i64 v.kind, .int .i64 v.num, .string v.text, .slice lao ln lcap]] w (Made (.string (typT v)) w) := by
  rcases hk with h | h | h | h
  · have E := Lib.hid (show typT v = ⟨#[105, 110, 116]⟩ from if_pos h)
    rw [E.out]
    have g1 : (v.kind == 1) = true := by simp [h]
    have g2 : (v.kind == 2) = false := by simp [h]
    have g3 : (v.kind == 3) = false := by simp [h]
    have g4 : (v.kind == 4) = false := by simp [h]
    clear h
    go_enter Tryd.func16, Tryd.ntmps16
    go_wp2_with fail
    go_ret
    exact ⟨rfl, below_al (Below.refl _ _) _⟩
  · have E := Lib.hid (show typT v = ⟨#[115, 116, 114, 105, 110, 103]⟩ by unfold typT; rw [if_neg (by omega), if_pos h])
    rw [E.out]
    have g1 : (v.kind == 1) = false := by simp [h]
    have g2 : (v.kind == 2) = true := by simp [h]
    have g3 : (v.kind == 3) = false := by simp [h]
    have g4 : (v.kind == 4) = false := by simp [h]
    clear h
    go_enter Tryd.func16, Tryd.ntmps16
    go_wp2_with fail
    go_ret
    exact ⟨rfl, below_al (Below.refl _ _) _⟩
  · have E := Lib.hid (show typT v = ⟨#[98, 111, 111, 108]⟩ by unfold typT; rw [if_neg (by omega), if_neg (by omega), if_pos h])
    rw [E.out]
    have g1 : (v.kind == 1) = false := by simp [h]
    have g2 : (v.kind == 2) = false := by simp [h]
    have g3 : (v.kind == 3) = true := by simp [h]
    have g4 : (v.kind == 4) = false := by simp [h]
    clear h
    go_enter Tryd.func16, Tryd.ntmps16
    go_wp2_with fail
    go_ret
    exact ⟨rfl, below_al (Below.refl _ _) _⟩
  · have E := Lib.hid (show typT v = ⟨#[108, 105, 115, 116]⟩ by unfold typT; rw [if_neg (by omega), if_neg (by omega), if_neg (by omega)])
    rw [E.out]
    have g1 : (v.kind == 1) = false := by simp [h]
    have g2 : (v.kind == 2) = false := by simp [h]
    have g3 : (v.kind == 3) = false := by simp [h]
    have g4 : (v.kind == 4) = true := by simp [h]
    clear h
    go_enter Tryd.func16, Tryd.ntmps16
    go_wp2_with fail
    go_ret
    exact ⟨rfl, below_al (Below.refl _ _) _⟩
theorem made_one (k : Int) (a : VL) (lao : Option Addr) (ln lcap : Nat) (hi : I64 a.num) (x : VL × Int) (hx : oneR k a = x) :
    Calls Tryd.prog 19 #[.int .i64 k, .agg #[.int .i64 a.kind, .int .i64 a.num, .string a.text, .slice lao ln lcap]] w (Doc x w) := by rw [← hx]; exact rone w k a lao ln lcap hi
theorem made_two (D : Nat) (k : Int) (a b : VL) (la lb : Value) (ha : RowRd w D a.kids la) (hb : RowRd w D b.kids lb) (hi : I64 a.num) (hj : I64 b.num) (y : VL × Int) (hy : twoR D k a b = y) :
    Calls Tryd.prog 20 #[.int .i64 k, .agg #[.int .i64 a.kind, .int .i64 a.num, .string a.text, la], .agg #[.int .i64 b.kind, .int .i64 b.num, .string b.text, lb]] w (Doc y w) := by rw [← hy]; exact rtwo w D k a b la lb ha hb hi hj
/-- As DocR, the slice written out. -/
def DocS (D : Nat) (k n : Int) (s : ByteArray) (l : List VL) (c : Int) (w : World) (e : Ending) (w' : World) : Prop := ∃ lo lc, e = .returned (.agg #[.int .i64 k, .int .i64 n, .string s, .slice lo l.length lc, .int .i64 c]) ∧ RowRd w' D l (.slice lo l.length lc) ∧ Below w.heap.size w w'
theorem made_idx (D : Nat) (a b : VL) (la : Value) (lao2 : Option Addr) (ln2 lcap2 : Nat) (ha : RowRd w D a.kids la) (hi : I64 b.num) (z : VL × Int) (hz : idxR a b = z) :
    Calls Tryd.prog 21 #[.agg #[.int .i64 a.kind, .int .i64 a.num, .string a.text, la], .agg #[.int .i64 b.kind, .int .i64 b.num, .string b.text, .slice lao2 ln2 lcap2]] w (DocS (D - 1) z.1.kind z.1.num z.1.text z.1.kids z.2 w) := by
  rw [← hz]
  exact (rindex w D a b la lao2 ln2 lcap2 ha hi).mono fun e w' ⟨lv, he, hr, hb⟩ => by
    obtain ⟨lo, lc, rfl⟩ := hr.shape
    exact ⟨lo, lc, he, hr, hb⟩
theorem lis_same (D : Nat) (v : VL) (lv lg : Value) (e : Int) (hv : RowRd w D v.kids lv) (hg : RowRd w D v.kids lg) :
    Calls Tryd.prog 18 #[.agg #[.int .i64 v.kind, .int .i64 v.num, .string v.text, lv], .int .i64 e, .agg #[.int .i64 v.kind, .int .i64 v.num, .string v.text, lg, .int .i64 e]] w (Made (.bool true) w) := by
  have h := lis w D v v lv lg e e hv hg
  rw [sameB_refl, beq_self_eq_true] at h
  exact h
theorem lis_leaf (k n : Int) (s : ByteArray) (e : Int) :
    Calls Tryd.prog 18 #[.agg #[.int .i64 k, .int .i64 n, .string s, .slice none 0 0], .int .i64 e, .agg #[.int .i64 k, .int .i64 n, .string s, .slice none 0 0, .int .i64 e]] w (Made (.bool true) w) :=
  lis_same w 0 (.mk k n s []) _ _ e (RowRd.nil _ _ _ _) (RowRd.nil _ _ _ _)
end
end Go.Proofs.YtmmdjpogepjdaaaDoor
