/- The document's Index; package val: Index of other kinds; what is the document's. -/
import Derived.Test.YtmmdjpogepjdaaaDoorValMe
import Derived.Test.YtmmdjpogepjdaaaDoorValY
namespace Go.Proofs.YtmmdjpogepjdaaaDoor
open Go.RowKit
set_option linter.unusedVariables false
set_option linter.unusedSimpArgs false

/-- What the document answers: a value, beside an error. -/
def DocR (D : Nat) (r : VL × Int) (w : World) (e : Ending) (w' : World) : Prop := ∃ lv, e = .returned (.agg #[.int .i64 r.1.kind, .int .i64 r.1.num, .string r.1.text, lv, .int .i64 r.2]) ∧ RowRd w' D r.1.kids lv ∧ Below w.heap.size w w'
theorem doc_nil {D : Nat} {r : VL × Int} {w w' : World} {e : Ending} (h : Doc r w e w') (hk : r.1.kids = []) : DocR D r w e w' := ⟨_, h.1, by rw [hk]; exact RowRd.nil _ _ _ _, h.2⟩
/-- What Index tells. -/
def idxR (a b : VL) : VL × Int :=
  if a.kind ≠ 4 ∨ b.kind ≠ 1 then (vz, 7)
  else if b.num < 0 then (vz, 2) else match a.kids[b.num.toNat]? with | some u => (u, 0) | none => (vz, 2)
section
variable (w : World)
set_option maxRecDepth 20000
set_option maxHeartbeats 4000000 in
theorem ri_bad1 (a b : VL) (lao lao2 : Option Addr) (ln lcap ln2 lcap2 : Nat) (h : ¬ a.kind = 4) :
    Calls Tryd.prog 21 #[.agg #[.int .i64 a.kind, .int .i64 a.num, .string a.text, .slice lao ln lcap], .agg #[.int .i64 b.kind, .int .i64 b.num, .string b.text, .slice lao2 ln2 lcap2]] w (Doc (vz, 7) w) := by
  have g : (a.kind != 4) = true := by simpa using h
  clear h
  go_enter Tryd.func21, Tryd.ntmps21
  go_wp2_with fail
  refine (rbad _ _).mono ?_
  rintro e w1 ⟨rfl, hb⟩
  obtain ⟨hc, hf⟩ := bcell hb
  have B1 := Lib.hid (below_tr (below_al (below_al (below_al (Below.refl _ _) _) _) _) hb)
  have z0 : w.heap.size + 1 + 1 < w1.heap.size := by have := hb.size; simp at this; omega
  clear hb
  go_wp2_with fail
  exact bodyPost_ret (v := .agg #[.int .i64 0, .int .i64 0, .string ⟨#[]⟩, .slice none 0 0, .int .i64 7]) (by simp [results, Tryd.results21, go_sem, hc, z0, vnum, vz, vbool, VL.kind, VL.num, VL.text]) rfl ⟨rfl, below_set5 B1.out (by omega) _ _ _ _ _⟩
set_option maxHeartbeats 4000000 in
theorem ri_bad2 (a b : VL) (lao lao2 : Option Addr) (ln lcap ln2 lcap2 : Nat) (h4 : a.kind = 4) (h : ¬ b.kind = 1) :
    Calls Tryd.prog 21 #[.agg #[.int .i64 a.kind, .int .i64 a.num, .string a.text, .slice lao ln lcap], .agg #[.int .i64 b.kind, .int .i64 b.num, .string b.text, .slice lao2 ln2 lcap2]] w (Doc (vz, 7) w) := by
  have g4 : (a.kind != 4) = false := by simpa using h4
  have g : (b.kind != 1) = true := by simpa using h
  clear h h4
  go_enter Tryd.func21, Tryd.ntmps21
  go_wp2_with fail
  refine (rbad _ _).mono ?_
  rintro e w1 ⟨rfl, hb⟩
  obtain ⟨hc, hf⟩ := bcell hb
  have B1 := Lib.hid (below_tr (below_al (below_al (below_al (Below.refl _ _) _) _) _) hb)
  have z0 : w.heap.size + 1 + 1 < w1.heap.size := by have := hb.size; simp at this; omega
  clear hb
  go_wp2_with fail
  exact bodyPost_ret (v := .agg #[.int .i64 0, .int .i64 0, .string ⟨#[]⟩, .slice none 0 0, .int .i64 7]) (by simp [results, Tryd.results21, go_sem, hc, z0, vnum, vz, vbool, VL.kind, VL.num, VL.text]) rfl ⟨rfl, below_set5 B1.out (by omega) _ _ _ _ _⟩
set_option maxHeartbeats 4000000 in
theorem ri_none (a b : VL) (lao lao2 : Option Addr) (ln lcap ln2 lcap2 : Nat) (h4 : a.kind = 4) (h1 : b.kind = 1) (hb : I64 b.num) (hl : ln ≤ maxLen) (h : b.num < 0 ∨ (ln : Int) ≤ b.num) :
    Calls Tryd.prog 21 #[.agg #[.int .i64 a.kind, .int .i64 a.num, .string a.text, .slice lao ln lcap], .agg #[.int .i64 b.kind, .int .i64 b.num, .string b.text, .slice lao2 ln2 lcap2]] w (Doc (vz, 2) w) := by
  have g4 : (a.kind != 4) = false := by simpa using h4
  have g : (b.kind != 1) = false := by simpa using h1
  unfold I64 at hb
  unfold maxLen at hl
  clear h1 h4
  by_cases hneg : b.num < 0
  · clear h
    go_enter Tryd.func21, Tryd.ntmps21
    go_wp2_with fail
    refine (rbad _ _).mono ?_
    rintro e w1 ⟨rfl, hb⟩
    obtain ⟨hc, hf⟩ := bcell hb
    have B1 := Lib.hid (below_tr (below_al (below_al (below_al (Below.refl _ _) _) _) _) hb)
    have z0 : w.heap.size + 1 + 1 < w1.heap.size := by have := hb.size; simp at this; omega
    clear hb
    go_wp2_with fail
    exact bodyPost_ret (v := .agg #[.int .i64 0, .int .i64 0, .string ⟨#[]⟩, .slice none 0 0, .int .i64 2]) (by simp [results, Tryd.results21, go_sem, hc, z0, vnum, vz, vbool, VL.kind, VL.num, VL.text]) rfl ⟨rfl, below_set5 B1.out (by omega) _ _ _ _ _⟩
  · have hge : (ln : Int) ≤ b.num := by omega
    have hnn : 0 ≤ b.num := by omega
    clear h hneg
    go_enter Tryd.func21, Tryd.ntmps21
    go_wp2_with fail
    refine (rbad _ _).mono ?_
    rintro e w1 ⟨rfl, hb⟩
    obtain ⟨hc, hf⟩ := bcell hb
    have B1 := Lib.hid (below_tr (below_al (below_al (below_al (Below.refl _ _) _) _) _) hb)
    have z0 : w.heap.size + 1 + 1 < w1.heap.size := by have := hb.size; simp at this; omega
    clear hb
    go_wp2_with fail
    exact bodyPost_ret (v := .agg #[.int .i64 0, .int .i64 0, .string ⟨#[]⟩, .slice none 0 0, .int .i64 2]) (by simp [results, Tryd.results21, go_sem, hc, z0, vnum, vz, vbool, VL.kind, VL.num, VL.text]) rfl ⟨rfl, below_set5 B1.out (by omega) _ _ _ _ _⟩
set_option maxHeartbeats 4000000 in
theorem ri_at (D : Nat) (a b u : VL) (la : Value) (lao2 : Option Addr) (ln2 lcap2 : Nat) (h4 : a.kind = 4) (h1 : b.kind = 1) (ha : RowRd w D a.kids la) (i : Nat) (hi : b.num = (i : Int)) (hu : a.kids[i]? = some u) :
    Calls Tryd.prog 21 #[.agg #[.int .i64 a.kind, .int .i64 a.num, .string a.text, la], .agg #[.int .i64 b.kind, .int .i64 b.num, .string b.text, .slice lao2 ln2 lcap2]] w (DocR (D - 1) (u, 0) w) := by
  have g4 : (a.kind != 4) = false := by simpa using h4
  have g : (b.kind != 1) = false := by simpa using h1
  have hil : i < a.kids.length := (List.getElem?_eq_some_iff.1 hu).1
  have hl := ha.len
  unfold maxLen at hl
  obtain ⟨ao, cap, rfl, hat⟩ := ha.at
  obtain ⟨g2, o2, lu, rfl, -, c0, c1, c2, c3, hr⟩ := hat i u hu
  obtain ⟨uao, ucap, rfl⟩ := hr.shape
  have RU := Lib.hid hr
  have hg2 := World.block_lt_of_cell? _ _ c0
  simp only at hg2
  have hg3 : g2 < w.heap.size + 1 := by omega
  have hg4 : g2 < w.heap.size + 1 + 1 := by omega
  generalize b.num = bn at *
  subst hi
  have hin : ¬ ((i : Int) < 0) := by omega
  have hil2 : ¬ ((a.kids.length : Int) ≤ (i : Int)) := by omega
  clear h1 h4 ha hat hu hr
  go_enter Tryd.func21, Tryd.ntmps21
  go_wp2_with fail
  refine bodyPost_ret (v := .agg #[.int .i64 u.kind, .int .i64 u.num, .string u.text, .slice uao u.kids.length ucap, .int .i64 0]) (by simp [results, Tryd.results21, go_sem]) rfl ⟨_, rfl, RU.out.below ?_, ?_⟩
  · exact below_al (below_al (below_al (Below.refl _ _) _) _) _
  · exact below_al (below_al (below_al (Below.refl _ _) _) _) _
end
end Go.Proofs.YtmmdjpogepjdaaaDoor
