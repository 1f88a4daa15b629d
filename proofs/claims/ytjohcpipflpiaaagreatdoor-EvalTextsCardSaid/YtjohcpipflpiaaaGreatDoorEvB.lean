/- Package eval: a scope of binds: the first bind of a name counts. -/
import Derived.Test.YtjohcpipflpiaaaGreatDoorEvA
import Derived.Carry
namespace Go.Proofs.YtjohcpipflpiaaaGreatDoor
open Go.RowKit
set_option linter.unusedVariables false
set_option linter.unusedSimpArgs false
/-- Binds as a slice value reads: names and values. -/
def BindsRd (w : World) (D : Nat) (bv : Value) (bs : List (ByteArray × VL)) : Prop :=
  ∃ ao cap, bv = .slice ao bs.length cap ∧ ∀ (i : Nat) (b : ByteArray × VL), bs[i]? = some b → ∃ (g o : Nat) (bo : Option Addr) (bc : Nat), ao = some ⟨g, o, none⟩ ∧
    w.cell? ⟨g, o + i * 5, none⟩ = some (.string b.1) ∧ w.cell? ⟨g, o + i * 5 + 1, none⟩ = some (.int .i64 b.2.kind) ∧ w.cell? ⟨g, o + i * 5 + 2, none⟩ = some (.int .i64 b.2.num) ∧
    w.cell? ⟨g, o + i * 5 + 3, none⟩ = some (.string b.2.text) ∧ w.cell? ⟨g, o + i * 5 + 4, none⟩ = some (.slice bo b.2.kids.length bc) ∧ RowRd w D b.2.kids (.slice bo b.2.kids.length bc)
theorem BindsRd.below {w w' : World} {D : Nat} {bv : Value} {bs : List (ByteArray × VL)} (h : BindsRd w D bv bs) (hb : Below w.heap.size w w') : BindsRd w' D bv bs := by
  obtain ⟨ao, cap, rfl, hc⟩ := h
  refine ⟨ao, cap, rfl, fun i b hi => ?_⟩
  obtain ⟨g, o, bo, bc, e, c0, c1, c2, c3, c4, r⟩ := hc i b hi
  exact ⟨g, o, bo, bc, e, hold hb c0, hold hb c1, hold hb c2, hold hb c3, hold hb c4, r.below hb⟩
def lookL (bs : List (ByteArray × VL)) (x : ByteArray) : Option VL := (bs.find? fun b => decide (b.1 = x)).map (·.2)
theorem lookL_snoc_have {bs : List (ByteArray × VL)} {b : ByteArray × VL} {v : VL} (h : lookL bs b.1 = some v) : lookL (bs ++ [b]) = lookL bs := by
  funext x
  unfold lookL
  rw [List.find?_append]
  cases hf : bs.find? fun b => decide (b.1 = x) with
  | some y => rfl
  | none =>
    have : ¬ b.1 = x := fun e => by
      unfold lookL at h
      rw [e, hf] at h
      cases h
    simp [List.find?, this]
theorem lookL_snoc_new {bs : List (ByteArray × VL)} {b : ByteArray × VL} (h : lookL bs b.1 = none) : lookL (bs ++ [b]) = fun x => if x = b.1 then some b.2 else lookL bs x := by
  funext x
  by_cases hx : x = b.1
  · subst hx
    simp only [if_true]
    unfold lookL at h ⊢
    rw [List.find?_append]
    cases hf : bs.find? fun y => decide (y.1 = b.1) with
    | some y => rw [hf] at h; cases h
    | none => simp [List.find?]
  · simp only [if_neg hx]
    unfold lookL
    rw [List.find?_append]
    have : ¬ b.1 = x := fun e => hx e.symm
    cases hf : bs.find? fun y => decide (y.1 = x) with
    | some y => rfl
    | none => simp [List.find?, this]
theorem take_snoc {α : Type} {l : List α} {j : Nat} {b : α} (h : l[j]? = some b) : l.take (j + 1) = l.take j ++ [b] := by
  obtain ⟨h1, h2⟩ := List.getElem?_eq_some_iff.1 h
  rw [← h2]
  simp
def ScopeRel (w : World) (D g : Nat) (bs : List (ByteArray × VL)) (m : Nat) (iv : Value) (wr : World) : Prop :=
  ∃ j : Nat, iv = .int .i64 j ∧ bs.length - j ≤ m ∧ j ≤ bs.length ∧ ScopeAt wr D g j (lookL (bs.take j)) ∧ Below w.heap.size w wr
section
variable (w : World)
set_option maxHeartbeats 1000000 in
set_option maxRecDepth 20000 in
theorem pscope (D : Nat) (bv : Value) (bs : List (ByteArray × VL)) (h : BindsRd w D bv bs) (hl : bs.length ≤ 100000) (hi : ∀ b ∈ bs, I64 b.2.num ∧ b.1.size ≤ 281474976710656) :
    Calls Tryz.prog 28 #[bv] w fun e w' => e = .returned (.map (some w.heap.size)) ∧ Below w.heap.size w w' ∧ ScopeAt w' D w.heap.size bs.length (lookL bs) := by
  have H := Lib.hid h
  have HI := Lib.hid hi
  have G0 := Lib.hid (ScopeAt.new w D)
  have BM := Lib.hid (show Below w.heap.size w (w.alloc (.map #[] 0)) from below_al (Below.refl _ _) _)
  obtain ⟨ao, cap, rfl, -⟩ := h
  clear hi
  have hmm := @run_makeMap Tryz.prog
  go_enter Tryz.func28, Tryz.ntmps28
  go_wp2_with fail
  go_loopg [11] bs.length (fun m v wr => ScopeRel w D w.heap.size bs m v wr)
  case atStart => exact ⟨0, rfl, Nat.le_refl _, Nat.zero_le _, G0.out, BM.out⟩
  case round =>
    obtain ⟨j, rfl, hm, hj, hs, hb⟩ := hrel
    have HM := Lib.hid hm
    have B := Lib.hid hb
    have HS := Lib.hid hs
    have hgl := hs.lt
    clear hm hb
    by_cases hjl : j < bs.length
    · obtain ⟨b, hb⟩ : ∃ b, bs[j]? = some b := ⟨_, List.getElem?_eq_getElem hjl⟩
      obtain ⟨hi1, hi2⟩ := HI.out b (List.mem_of_getElem? hb)
      have I1 := Lib.hid hi1
      have I2 := Lib.hid (show b.1.size ≤ maxLen by unfold maxLen; omega)
      have TK := Lib.hid (take_snoc hb)
      obtain ⟨ao2, cap2, e2, hat⟩ := H.out.below B.out
      simp at e2
      obtain ⟨rfl, rfl⟩ := e2
      obtain ⟨g, o, bo, bc, rfl, c0, c1, c2, c3, c4, hr⟩ := hat j b hb
      have HR := Lib.hid hr
      obtain ⟨d, hm, hx⟩ := hs
      have M1 := Lib.hid (show (wr.alloc (.cells #[.string b.1, .int .i64 b.2.kind, .int .i64 b.2.num, .string b.2.text, .slice bo b.2.kids.length bc] 50)).ownsMap Tryz.prog 9 heldV w.heap.size j d from World.ownsMap.alloc hm _)
      have HX := Lib.hid hx
      have HMP := Lib.hid hm
      cases hL : lookL (bs.take j) b.1 with
      | some v =>
        obtain ⟨q1, q2, lv, q3, q4⟩ := (hx b.1).2 v hL
        obtain ⟨vo, vc, rfl⟩ := q4.shape
        have Q1 := Lib.hid q1
        have Q3 := Lib.hid (show d.atKey (keyLit b.1) (.held zeroV) = .held (.agg #[.int .i64 v.kind, .int .i64 v.num, .string v.text, .slice vo v.kids.length vc]) from q3)
        have NX := Lib.hid (show lookL (bs.take (j + 1)) = lookL (bs.take j) by rw [TK.out]; exact lookL_snoc_have hL)
        clear hat hi1 hi2 hb hr hm hx hL q1 q2 q3 q4
        go_wp2_with (at_lookup; refine wpList_lookup_scope _ rfl _ _ rfl w.heap.size j d rfl M1.out b.1 rfl I2.out _ Q3.out true Q1.out ?_)
        go_roundg (bs.length - (j + 1))
        case rel => exact ⟨j + 1, rfl, Nat.le_refl _, hjl, by rw [NX.out]; exact (HS.out.below (below_al (below_al (Below.refl _ _) _) _)).mono (Nat.le_succ j), below_al (below_al B.out _) _⟩
        case measure => have := HM.out; omega
      | none =>
        obtain ⟨q1, q2⟩ := (hx b.1).1 hL
        have Q1 := Lib.hid q1
        have Q3 := Lib.hid (show d.atKey (keyLit b.1) (.held zeroV) = .held (.agg #[.int .i64 0, .int .i64 0, .string ⟨#[]⟩, .slice none 0 0]) from q2)
        have NX := Lib.hid (show lookL (bs.take (j + 1)) = fun x => if x = b.1 then some b.2 else lookL (bs.take j) x by rw [TK.out]; exact lookL_snoc_new hL)
        clear hat hi1 hi2 hb hr hm hx hL q1 q2
        go_wp2_with (first
          | (at_lookup; refine wpList_lookup_scope _ rfl _ _ rfl w.heap.size j d rfl M1.out b.1 rfl I2.out _ Q3.out false Q1.out ?_)
          | (at_mapUpdate; refine wpList_mapUpdate_own _ rfl _ _ _ 73 rfl 9 48 strKeyed Tryz.underlying73 heldV w.heap.size j d rfl (World.ownsMap.alloc M1.out _) (by unfold maxLen; omega) (.string b.1) (b.2.val (.slice bo b.2.kids.length bc)) (keyLit b.1) rfl rfl (Go.WideMaps.keyOf_string_mk Tryz.underlying9 I2.out) _ [] rfl ?_; intro w1 hown1 hgrow1))
        have BW := Lib.hid (show Below w.heap.size w w1 from Below.grown (below_al (below_al B.out _) _) hgrow1 (by have := B.out.size; simp; omega) (fun k hk => by simp at hk; omega))
        have SW := Lib.hid (show ScopeAt w1 D w.heap.size (j + 1) (lookL (bs.take (j + 1))) by
          rw [NX.out]
          exact ScopeAt.put (World.ownsMap.alloc M1.out _) (fun x => by
            refine ⟨(HX.out x).1, fun v hv => ?_⟩
            obtain ⟨h1, h2, l2, h3, h4⟩ := (HX.out x).2 v hv
            exact ⟨h1, h2, l2, h3, h4.below (below_al (below_al (Below.refl _ _) _) _)⟩) hown1 hgrow1 I1.out (HR.out.below (below_al (below_al (Below.refl _ _) _) _)))
        clear hown1 hgrow1
        go_wp2_with fail
        go_roundg (bs.length - (j + 1))
        case rel => exact ⟨j + 1, rfl, Nat.le_refl _, hjl, SW.out, BW.out⟩
        case measure => have := HM.out; omega
    · have hz : j = bs.length := by omega
      subst hz
      go_wp2_with fail
      go_ret
      exact ⟨rfl, B.out, by have := HS.out; rwa [List.take_length] at this⟩
end
end Go.Proofs.YtjohcpipflpiaaaGreatDoor
