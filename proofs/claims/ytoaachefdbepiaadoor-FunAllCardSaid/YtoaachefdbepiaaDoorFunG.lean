/- Package fun: text. -/
import Derived.Test.YtoaachefdbepiaaDoorFunF
import Derived.Test.YtoaachefdbepiaaDoorShelf
namespace Go.Proofs.YtoaachefdbepiaaDoor
open Go.RowKit
set_option linter.unusedVariables false
set_option linter.unusedSimpArgs false

def boolT (b : Bool) : ByteArray := ⟨(Lib.formatBool b).toArray⟩
section
variable (w : World)
theorem vtext_s (v : VL) (lao : Option Addr) (ln lcap : Nat) (hk : v.kind = 2) : Calls Tryd.prog 52 #[.agg #[.int .i64 v.kind, .int .i64 v.num, .string v.text, .slice lao ln lcap]] w (Made (.tuple #[.string v.text, .int .i64 0]) w) := by
  go_enter Tryd.func52, Tryd.ntmps52
  go_wp2_with fail
  go_ret2
  exact ⟨rfl, below_al (Below.refl _ _) _⟩
theorem vtext_l (v : VL) (lao : Option Addr) (ln lcap : Nat) (hk : v.kind = 4) : Calls Tryd.prog 52 #[.agg #[.int .i64 v.kind, .int .i64 v.num, .string v.text, .slice lao ln lcap]] w (Made (.tuple #[.string ⟨#[]⟩, .int .i64 7]) w) := by
  go_enter Tryd.func52, Tryd.ntmps52
  go_wp2_with fail
  go_ret2
  exact ⟨rfl, below_al (Below.refl _ _) _⟩
theorem vtext_b (v : VL) (lao : Option Addr) (ln lcap : Nat) (hk : v.kind = 3) : Calls Tryd.prog 52 #[.agg #[.int .i64 v.kind, .int .i64 v.num, .string v.text, .slice lao ln lcap]] w (Made (.tuple #[.string (boolT (v.num == 1)), .int .i64 0]) w) := by
  have FB := Lib.hid (fun W => Tryd.strconv_FormatBool (v.num == 1) W)
  go_enter Tryd.func52, Tryd.ntmps52
  go_wp2_with fail
  with_reducible refine (FB.out _).mono ?_
  rintro e w1 ⟨rfl, rfl⟩
  go_wp2_with fail
  go_ret2
  exact ⟨rfl, below_al (Below.refl _ _) _⟩
/-- What text tells of a value whose text is s, or has none. -/
def textR (s : ByteArray) (e : Int) : VL × Int := if e = 0 then (vstr s, 0) else (vz, e)
set_option maxHeartbeats 2000000 in
set_option maxRecDepth 20000 in
theorem ftextOf (D : Nat) (v : VL) (lv : Value) (h : RowRd w D [v] lv) (s : ByteArray) (c : Int)
    (hT : ∀ (lao : Option Addr) (ln lcap : Nat) (W : World), Calls Tryd.prog 52 #[.agg #[.int .i64 v.kind, .int .i64 v.num, .string v.text, .slice lao ln lcap]] W (Made (.tuple #[.string s, .int .i64 c]) W)) :
    Calls Tryd.prog 39 #[lv] w (Told (textR s c) w) := by
  have TT := Lib.hid hT
  obtain ⟨ao, cap, rfl, hat⟩ := h.at
  obtain ⟨g, o, lu, rfl, -, c0, c1, c2, c3, hr⟩ := hat 0 v rfl
  obtain ⟨lao, lcap, rfl⟩ := hr.shape
  simp only [Nat.zero_mul, Nat.add_zero] at c0 c1 c2 c3
  have hg : g < w.heap.size := World.block_lt_of_cell? w _ c0
  clear hat hr h hT
  unfold textR
  by_cases hc : c = 0
  · subst hc
    rw [if_pos rfl]
    go_enter Tryd.func39, Tryd.ntmps39
    go_wp2_with fail
    with_reducible refine (TT.out _ _ _ _).mono ?_
    rintro e w2 ⟨rfl, hb2⟩
    obtain ⟨⟨r0, r1, r2, r3, rl⟩, f0, f1, f2, f3⟩ := ((NBlk.new w 0 0 ⟨#[]⟩).below hb2).full
    have B2 := Lib.hid (below_tr (below_al (Below.refl w.heap.size w) _) hb2)
    clear hb2
    go_wp2_with fail
    exact bodyPost_ret (v := .tuple #[.agg #[.int .i64 2, .int .i64 0, .string s, .slice none 0 0], .int .i64 0]) (by simp [results, Tryd.results39, go_sem, r0, r1, r2, r3]) rfl ⟨rfl, below_set4 B2.out (Nat.le_refl _) _ _ _ _⟩
  · rw [if_neg hc]
    have g0 : (c != 0) = true := by simpa using hc
    go_enter Tryd.func39, Tryd.ntmps39
    go_wp2_with fail
    with_reducible refine (TT.out _ _ _ _).mono ?_
    rintro e w2 ⟨rfl, hb2⟩
    obtain ⟨⟨r0, r1, r2, r3, rl⟩, f0, f1, f2, f3⟩ := ((NBlk.new w 0 0 ⟨#[]⟩).below hb2).full
    have B2 := Lib.hid (below_tr (below_al (Below.refl w.heap.size w) _) hb2)
    clear hb2
    go_wp2_with fail
    exact bodyPost_ret (v := .tuple #[.agg #[.int .i64 0, .int .i64 0, .string ⟨#[]⟩, .slice none 0 0], .int .i64 c]) (by simp [results, Tryd.results39, go_sem, r0, r1, r2, r3]) rfl ⟨rfl, below_set4 B2.out (Nat.le_refl _) _ _ _ _⟩
theorem run_textOf (a : Array Value) (W : World) : (callFunc 39 a).run Tryd.prog W = .ok (.enter 39 a) W := run_enter Tryd.func39 (by kernel_rfl) (by kernel_rfl) a W
theorem call_text (D : Nat) (v : VL) (lv : Value) (h : RowRd w D [v] lv) (s : ByteArray) (c : Int)
    (hT : ∀ (lao : Option Addr) (ln lcap : Nat) (W : World), Calls Tryd.prog 52 #[.agg #[.int .i64 v.kind, .int .i64 v.num, .string v.text, .slice lao ln lcap]] W (Made (.tuple #[.string s, .int .i64 c]) W)) :
    Calls Tryd.prog 7 #[.string ⟨#[116, 101, 120, 116]⟩, lv] w (Told (textR s c) w) :=
  call_told w _ [0] false 39 fnamed_text (takes_one 0 (by omega)) D [v] lv h (check_one (by simp [fitsB])) _ _ _ _ run_textOf fun W hW => ftextOf W D v lv (h.below hW) s c hT
end
end Go.Proofs.YtoaachefdbepiaaDoor
