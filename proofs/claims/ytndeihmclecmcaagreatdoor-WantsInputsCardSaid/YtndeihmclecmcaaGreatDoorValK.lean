/- Package val: Join; the text of a text. -/
import Derived.Test.YtndeihmclecmcaaGreatDoorValH
import Derived.Test.YtndeihmclecmcaaGreatDoorStrs
import Derived.Test.YtndeihmclecmcaaGreatDoorShelf
namespace Go.Proofs.YtndeihmclecmcaaGreatDoor
open Go.RowKit
set_option linter.unusedVariables false
set_option linter.unusedSimpArgs false

def jsum (xs : List ByteArray) : Nat := (xs.map ByteArray.size).sum
def catB (xs : List ByteArray) : ByteArray := ⟨(xs.map (·.data.toList)).flatten.toArray⟩
theorem jsum_take (xs : List ByteArray) (i : Nat) : jsum (xs.take i) ≤ jsum xs := by
  have h : jsum xs = jsum (xs.take i) + jsum (xs.drop i) := by
    unfold jsum; rw [← List.sum_append, ← List.map_append, List.take_append_drop]
  omega
theorem jsum_succ {xs : List ByteArray} {i : Nat} {x : ByteArray} (h : xs[i]? = some x) : jsum (xs.take (i + 1)) = jsum (xs.take i) + x.size := by
  unfold jsum; rw [List.take_add_one, h]; simp
theorem jsum_le {xs : List ByteArray} {m : Nat} (h : ∀ x ∈ xs, x.size ≤ m) : jsum xs ≤ xs.length * m := by
  induction xs with
  | nil => simp [jsum]
  | cons a xs ih =>
    have h1 := h a (by simp)
    have h2 := ih fun x hx => h x (by simp [hx])
    unfold jsum at h2 ⊢
    simp only [List.map_cons, List.sum_cons, List.length_cons]
    rw [Nat.add_mul]; omega
theorem catB_succ {xs : List ByteArray} {i : Nat} {x : ByteArray} (h : xs[i]? = some x) : catB (xs.take i) ++ x = catB (xs.take (i + 1)) := by
  unfold catB; rw [List.take_add_one, h]
  apply ByteArray.ext
  simp [ByteArray.data_append]
theorem catB_size (xs : List ByteArray) : (catB xs).size = jsum xs := by
  show ((xs.map (·.data.toList)).flatten.toArray).size = (xs.map ByteArray.size).sum
  rw [List.size_toArray, List.length_flatten, List.map_map]
  congr 1
theorem join_flat (xs : List ByteArray) : (⟨(Lib.join (xs.map (·.data.toList)) (⟨#[]⟩ : ByteArray).data.toList).toArray⟩ : ByteArray) = catB xs := by
  unfold catB Lib.join
  congr 2
  show List.intercalate [] _ = _
  induction xs with
  | nil => rfl
  | cons a xs ih =>
    cases xs with
    | nil => simp [List.intercalate]
    | cons b xs =>
      simp only [List.map_cons, List.intercalate, List.intersperse, List.flatten_cons, List.nil_append] at ih ⊢
      rw [ih]
section
variable (w : World)
theorem sjoin (v : Value) (xs : List ByteArray) (h : StrsRd w v xs) (hs : jsum xs ≤ 1000000) (hl : xs.length ≤ 1000000) : Calls Tryz.prog 182 #[v, .string ⟨#[]⟩] w (Made (.string (catB xs)) w) := by
  obtain ⟨ao, cap, rfl, h1, h2, hc⟩ := h
  by_cases h0 : xs.length = 0
  · obtain rfl : xs = [] := List.eq_nil_of_length_eq_zero h0
    refine (Tryz.strings_Join_none ao cap ⟨#[]⟩ w).mono fun e w' ⟨he, hw⟩ => ⟨he, ?_⟩
    rw [hw]; exact Below.refl _ _
  · obtain ⟨g, o, rfl, hw0⟩ := hc 0 xs[0] (List.getElem?_eq_getElem (by omega))
    have hcells : ∀ (j : Nat) x, xs[j]? = some x → w.cell? ⟨g, o + j, none⟩ = some (.string x) := by
      intro j x hj
      obtain ⟨g', o', e, hw⟩ := hc j x hj
      simp at e
      obtain ⟨rfl, rfl⟩ := e
      exact hw
    have hj := join_flat xs
    have hlen : (Lib.join (xs.map (·.data.toList)) (⟨#[]⟩ : ByteArray).data.toList).length ≤ 140737488355328 := by
      have h3 : (catB xs).size = (Lib.join (xs.map (·.data.toList)) (⟨#[]⟩ : ByteArray).data.toList).length := by rw [← hj]; simp [ByteArray.size]
      have h4 := catB_size xs
      omega
    have := Tryz.strings_Join g o cap xs ⟨#[]⟩ w hcells (World.block_lt_of_cell? w _ hw0) (by omega) h1 hlen
    rw [hj] at this
    exact this
def joinR (xs : List ByteArray) : VL × Int := if jsum xs ≤ 400 then (vstr (catB xs), 0) else (vz, 4)
set_option maxHeartbeats 2000000 in
set_option maxRecDepth 20000 in
theorem vjoin (v : Value) (xs : List ByteArray) (h : StrsRd w v xs) (hz : ∀ x ∈ xs, x.size ≤ 10000) (hl : xs.length ≤ 10000) :
    Calls Tryz.prog 147 #[v] w (Told (joinR xs) w) := by
  have H := Lib.hid h
  have HZ := Lib.hid hz
  obtain ⟨ao, cap, rfl⟩ := h.shape
  clear h hz
  go_enter Tryz.func147, Tryz.ntmps147
  go_wp2_with fail
  have RB := Lib.hid (NBlk.new w 0 0 ⟨#[]⟩)
  have B0 := Lib.hid (show Kept w _ from below_al (Below.refl w.heap.size w) (.cells #[.int .i64 0, .int .i64 0, .string ⟨#[]⟩, .slice none 0 0] 39))
  generalize w.alloc (.cells #[.int .i64 0, .int .i64 0, .string ⟨#[]⟩, .slice none 0 0] 39) = wa at *
  have HGl := Lib.hid (show w.heap.size ≤ w.heap.size from Nat.le_refl _)
  generalize hG : w.heap.size = G at HGl RB ⊢
  have HG := Lib.hid hG
  clear hG
  replace H := Lib.hid (H.out.below B0.out)
  go_loopg [4, 9] xs.length (fun m sv iv wr => ∃ i : Nat, iv = .int .i64 i ∧ sv = .int .i64 (jsum (xs.take i)) ∧ xs.length - i ≤ m ∧ i ≤ xs.length ∧ jsum (xs.take i) ≤ 400 ∧ wr = wa)
  case atStart => exact ⟨0, rfl, by simp [jsum], Nat.le_refl _, Nat.zero_le _, by simp [jsum], rfl⟩
  case round =>
    obtain ⟨i, rfl, rfl, hm, hi, h4, rfl⟩ := hrel
    have HM := Lib.hid hm
    clear hm
    by_cases hil : i < xs.length
    · obtain ⟨x, hx⟩ : ∃ x, xs[i]? = some x := ⟨_, List.getElem?_eq_getElem hil⟩
      have hxs := HZ.out x (List.mem_of_getElem? hx)
      have JS := Lib.hid (jsum_succ hx)
      obtain ⟨ao2, cap2, e2, -, -, hc⟩ := H.out
      simp only [Value.slice.injEq, true_and] at e2
      obtain ⟨rfl, rfl⟩ := e2
      obtain ⟨g, o, rfl, c0⟩ := hc i x hx
      clear hc hx
      have hsz : x.size ≤ 9223372036854775807 := by omega
      by_cases hb : jsum (xs.take i) + x.size ≤ 400
      · have hb' : jsum (xs.take (i + 1)) ≤ 400 := by rw [JS.out]; exact hb
        have HB := Lib.hid hb'
        clear hb'
        generalize jsum (xs.take i) = s at *
        go_wp2_with fail
        go_roundg (xs.length - (i + 1))
        case rel => exact ⟨i + 1, rfl, by rw [JS.out]; rfl, Nat.le_refl _, hil, HB.out, rfl⟩
        case measure => have := HM.out; omega
      · have JR := Lib.hid (show joinR xs = (vz, 4) from if_neg (by have h := jsum_take xs (i + 1); rw [JS.out] at h; omega))
        generalize jsum (xs.take i) = s at *
        obtain ⟨⟨r0, r1, r2, r3, rl⟩, f0, f1, f2, f3⟩ := RB.out.full
        go_wp2_with fail
        refine bodyPost_ret (v := .tuple #[.agg #[.int .i64 0, .int .i64 0, .string ⟨#[]⟩, .slice none 0 0], .int .i64 4]) (by simp [results, Tryz.results147, go_sem, r0, r1, r2, r3]) rfl ?_
        rw [JR.out]
        exact ⟨rfl, below_set4 B0.out (by rw [HG.out]; exact Nat.le_refl _) _ _ _ _⟩
    · have JR := Lib.hid (show joinR xs = (vstr (catB xs), 0) from if_pos (by rwa [List.take_of_length_le (by omega)] at h4))
      have HJ := Lib.hid (show jsum xs ≤ 400 by rwa [List.take_of_length_le (by omega)] at h4)
      generalize jsum (xs.take i) = s at *
      go_wp2_with fail
      (with_reducible refine (sjoin _ _ xs H.out (Nat.le_trans HJ.out (by omega)) (by omega)).mono ?_)
      rintro e w2 ⟨rfl, hb2⟩
      obtain ⟨⟨r0, r1, r2, r3, rl⟩, f0, f1, f2, f3⟩ := (RB.out.below hb2).full
      have B2 := Lib.hid (kept_tr B0.out hb2)
      clear hb2
      go_wp2_with fail
      refine bodyPost_ret (v := .tuple #[.agg #[.int .i64 2, .int .i64 0, .string (catB xs), .slice none 0 0], .int .i64 0]) (by simp [results, Tryz.results147, go_sem, r0, r1, r2, r3]) rfl ?_
      rw [JR.out]
      exact ⟨rfl, below_set4 B2.out (by rw [HG.out]; exact Nat.le_refl _) _ _ _ _⟩
theorem vtext_str (s : ByteArray) : Calls Tryz.prog 181 #[.agg #[.int .i64 2, .int .i64 0, .string s, .slice none 0 0]] w (Made (.tuple #[.string s, .int .i64 0]) w) := by
  go_enter Tryz.func181, Tryz.ntmps181
  go_wp2_with fail
  go_ret2
  exact ⟨rfl, below_al (Below.refl _ _) _⟩
end
end Go.Proofs.YtndeihmclecmcaaGreatDoor
