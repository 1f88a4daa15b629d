/- The law of texts. -/
import Derived.Test.YtjohcpipflpiaaaGreatDoorEvV
import Derived.Lib.ItoaLen
namespace Go.Proofs.YtjohcpipflpiaaaGreatDoor
open Go.RowKit
set_option linter.unusedVariables false
set_option linter.unusedSimpArgs false
def varN : ByteArray := ⟨#[118, 97, 114, 46, 110]⟩
def varB : ByteArray := ⟨#[118, 97, 114, 46, 98]⟩
def txt4 (s t : ByteArray) : List PartL := [(false, s), (true, varN), (false, t), (true, varB)]
theorem ref_lits : refP varN = true ∧ refP varB = true := by
  unfold refP
  rw [nameP_eq, nameP_eq, nameP_eq, nameP_eq]
  constructor <;> decide
theorem plain_of {s : ByteArray} (h : s.data.toList.all okB = true) (h0 : s.size ≠ 0) : plainP s = true := by
  unfold plainP
  rw [h, decide_eq_true h0]
  rfl
theorem txt4_parts (s t : ByteArray) (hs : plainP s = true) (ht : plainP t = true) : partsP (txt4 s t) = true := by
  obtain ⟨h1, h2⟩ := ref_lits
  simp [partsP, txt4, partsGo, hs, ht, h1, h2]
def bs2 (k n bn : Int) : List (ByteArray × VL) := [(varN, .mk k n ⟨#[]⟩ []), (varB, .mk 3 bn ⟨#[]⟩ [])]
theorem look_n (k n bn : Int) : lookL (bs2 k n bn) varN = some (.mk k n ⟨#[]⟩ []) := by simp [lookL, bs2]
theorem look_b (k n bn : Int) : lookL (bs2 k n bn) varB = some (.mk 3 bn ⟨#[]⟩ []) := by
  have : ¬ varN = varB := by decide
  simp [lookL, bs2, this]
theorem bs2_mem {k n bn : Int} {x : ByteArray} {v : VL} (h : lookL (bs2 k n bn) x = some v) : v = .mk k n ⟨#[]⟩ [] ∨ v = .mk 3 bn ⟨#[]⟩ [] := by
  unfold lookL at h
  obtain ⟨p, hp, rfl⟩ := Option.map_eq_some_iff.1 h
  have := List.mem_of_find?_eq_some hp
  simp [bs2] at this
  rcases this with rfl | rfl
  · exact .inl rfl
  · exact .inr rfl
theorem V_below {w V : World} (h : ErrVar w) (hb : Below w.heap.size w V) : ErrVar V := h.below hb h.lt
theorem itoaB_size (n : Int) (h : I64 n) : (itoaB n).size ≤ 21 := by
  have h1 := Lib.itoa_length_le n h.1 h.2
  have e : (itoaB n).size = (Lib.itoa n).length := by simp [itoaB, ByteArray.size]
  rw [e]
  exact h1
theorem itoa_small (n : Int) (h : -2147483648 ≤ n ∧ n ≤ 2147483647) : (itoaB n).size ≤ 21 := itoaB_size n (by unfold I64; omega)
theorem bool_small (b : Bool) : (boolT b).size ≤ 5 := by
  cases b
  · rw [bool_bytes.2]; decide
  · rw [bool_bytes.1]; decide
theorem bs2_text (k n bn : Int) (hk : k = 1 ∨ k = 4) (h : -2147483648 ≤ n ∧ n ≤ 2147483647) : TextL (lookL (bs2 k n bn)) := fun x v hv => by
  have b1 := itoa_small n h
  have b2 := bool_small (bn == 1)
  rcases bs2_mem hv with rfl | rfl
  · rcases hk with rfl | rfl
    · refine ⟨.inl rfl, ?_⟩
      show (itoaB n).size ≤ 10000
      omega
    · exact ⟨.inr (.inr (.inr rfl)), Nat.zero_le _⟩
  · refine ⟨.inr (.inr (.inl rfl)), ?_⟩
    show (boolT (bn == 1)).size ≤ 10000
    omega
theorem bs2_leaf (k n bn : Int) (h : -2147483648 ≤ n ∧ n ≤ 2147483647) (hb : 0 ≤ bn ∧ bn ≤ 1) : LeafL (lookL (bs2 k n bn)) := fun x v hv => by
  rcases bs2_mem hv with rfl | rfl
  · exact ⟨⟨by show _ ≤ n; omega, by show n ≤ _; omega⟩, rfl⟩
  · exact ⟨⟨by show _ ≤ bn; omega, by show bn ≤ _; omega⟩, rfl⟩
/-- What the law wants. -/
def want4 (s t : ByteArray) (n bn : Int) : ByteArray := s ++ itoaB n ++ t ++ boolT (bn == 1)
theorem txt4_yes (s t : ByteArray) (n bn : Int) (hs : s.size ≤ 60) (ht : t.size ≤ 60) (h : -2147483648 ≤ n ∧ n ≤ 2147483647) : textGo (lookL (bs2 1 n bn)) (txt4 s t) [] = (vstr (want4 s t n bn), 0) := by
  have b1 := itoa_small n h
  have b2 := bool_small (bn == 1)
  have p1 : partR (lookL (bs2 1 n bn)) (false, s) = (s, 0) := rfl
  have p2 : partR (lookL (bs2 1 n bn)) (true, varN) = (itoaB n, 0) := by unfold partR; rw [if_pos rfl]; simp only [look_n]; rfl
  have p3 : partR (lookL (bs2 1 n bn)) (false, t) = (t, 0) := rfl
  have p4 : partR (lookL (bs2 1 n bn)) (true, varB) = (boolT (bn == 1), 0) := by unfold partR; rw [if_pos rfl]; simp only [look_b]; rfl
  unfold txt4
  rw [textGo, p1, if_pos rfl, textGo, p2, if_pos rfl, textGo, p3, if_pos rfl, textGo, p4, if_pos rfl, textGo]
  show joinR [s, itoaB n, t, boolT (bn == 1)] = _
  unfold joinR
  rw [if_pos (by unfold jsum; simp; omega)]
  have e : catB [s, itoaB n, t, boolT (bn == 1)] = want4 s t n bn := by
    unfold catB want4
    apply ByteArray.ext
    simp
  rw [e]
theorem txt4_no (s t : ByteArray) (n bn : Int) : textGo (lookL (bs2 4 n bn)) (txt4 s t) [] = (vz, 7) := by
  have p1 : partR (lookL (bs2 4 n bn)) (false, s) = (s, 0) := rfl
  have p2 : partR (lookL (bs2 4 n bn)) (true, varN) = (⟨#[]⟩, 7) := by unfold partR; rw [if_pos rfl]; simp only [look_n]; rfl
  unfold txt4
  rw [textGo, p1, if_pos rfl, textGo, p2, if_neg (by decide)]
theorem parts_of_block {w : World} {g cap : Nat} {ps : List PartL} {t : TypeId} (h : w.heap[g]? = some (.cells (partCells ps).toArray t (0, 0))) : PartsRd w (.slice (some ⟨g, 0, none⟩) ps.length cap) ps :=
  ⟨some ⟨g, 0, none⟩, cap, rfl, fun j u hj => ⟨g, 0, rfl, by rw [Nat.zero_add, cell_of_row w g j _ t (0, 0) h]; simpa using hj⟩⟩
/-- The text's nodes, as they lie. -/
theorem strN_rd {w : World} {P G : Nat} {s t : ByteArray} (hp : w.heap[P]? = some (.cells #[.bool false, .string s, .bool true, .string varN, .bool false, .string t, .bool true, .string varB] 57 (0, 0)))
    (hn : w.heap[G]? = some (.cells #[.int .i64 2, .int .i64 0, .string ⟨#[]⟩, .slice (some ⟨P, 0, none⟩) 4 4, .slice none 0 0] 41 (0, 0))) : NodesRd w (.slice (some ⟨G, 0, none⟩) 1 1) (strN (txt4 s t)) :=
  nodes_of_block (ns := strN (txt4 s t)) hn ⟨.slice (some ⟨P, 0, none⟩) 4 4, .slice none 0 0, [], rfl, parts_of_block (ps := txt4 s t) hp, places_nil _ _ _, rfl⟩
theorem bs2_rd {w : World} {g : Nat} {k n bn : Int} (h : w.heap[g]? = some (.cells #[.string varN, .int .i64 k, .int .i64 n, .string ⟨#[]⟩, .slice none 0 0, .string varB, .int .i64 3, .int .i64 bn, .string ⟨#[]⟩, .slice none 0 0] 50 (0, 0))) : BindsRd w 0 (.slice (some ⟨g, 0, none⟩) 2 2) (bs2 k n bn) := by
  have c := fun r => cell_of_row w g r _ _ _ h
  refine ⟨some ⟨g, 0, none⟩, 2, rfl, fun i b hi => ?_⟩
  match i, hi with
  | 0, hi =>
    obtain rfl : (varN, VL.mk k n ⟨#[]⟩ []) = b := by simpa [bs2] using hi
    exact ⟨g, 0, none, 0, rfl, c 0, c 1, c 2, c 3, c 4, rfl, none, 0, rfl⟩
  | 1, hi =>
    obtain rfl : (varB, VL.mk 3 bn ⟨#[]⟩ []) = b := by simpa [bs2] using hi
    exact ⟨g, 0, none, 0, rfl, c 5, c 6, c 7, c 8, c 9, rfl, none, 0, rfl⟩
  | i + 2, hi => simp [bs2] at hi
section
variable (w : World)
set_option maxHeartbeats 8000000 in
set_option maxRecDepth 100000 in
theorem law_texts (s t : ByteArray) (n : Int) (is : Bool) (hn : -2147483648 ≤ n ∧ n ≤ 2147483647) (hs : s.size ≤ maxLen) (ht : t.size ≤ maxLen) (hv : ErrVar w) (hT : TabOK w) :
    Calls Tryz.prog 6 #[.string s, .string t, .int .i32 n, .bool is] w (Made (.bool true) w) := by
  have V0 := Lib.hid hv
  have TT := Lib.hid hT
  have AW := Lib.hid (law_awake7 w hv)
  clear hv hT
  by_cases h1 : 60 < s.size
  · have g1 : decide ((60 : Int) < (s.size : Int)) = true := decide_eq_true (by omega)
    go_enter Tryz.func6, Tryz.ntmps6
    go_wp2_with fail
    refine AW.out.mono ?_
    rintro e w2 ⟨rfl, hb2⟩
    go_wp2_with fail
    go_ret
    exact ⟨rfl, hb2⟩
  have g1 : decide ((60 : Int) < (s.size : Int)) = false := decide_eq_false (by omega)
  by_cases h2 : 60 < t.size
  · have g2 : decide ((60 : Int) < (t.size : Int)) = true := decide_eq_true (by omega)
    go_enter Tryz.func6, Tryz.ntmps6
    go_wp2_with fail
    refine AW.out.mono ?_
    rintro e w2 ⟨rfl, hb2⟩
    go_wp2_with fail
    go_ret
    exact ⟨rfl, hb2⟩
  have g2 : decide ((60 : Int) < (t.size : Int)) = false := decide_eq_false (by omega)
  cases h3 : s.toList.isEmpty
  case true =>
    go_enter Tryz.func6, Tryz.ntmps6
    go_wp2_with fail
    all_goals first
      | (refine AW.out.mono ?_
         rintro e w2 ⟨rfl, hb2⟩
         go_wp2_with fail
         go_ret
         exact ⟨rfl, hb2⟩)
  cases h4 : t.toList.isEmpty
  case true =>
    go_enter Tryz.func6, Tryz.ntmps6
    go_wp2_with fail
    all_goals first
      | (refine AW.out.mono ?_
         rintro e w2 ⟨rfl, hb2⟩
         go_wp2_with fail
         go_ret
         exact ⟨rfl, hb2⟩)
  have S0 := Lib.hid (show s.size ≠ 0 from fun e => by
    have : s = ⟨#[]⟩ := by apply ByteArray.ext; exact Array.eq_empty_of_size_eq_zero e
    rw [empty_eq, this] at h3; simp at h3)
  have T0 := Lib.hid (show t.size ≠ 0 from fun e => by
    have : t = ⟨#[]⟩ := by apply ByteArray.ext; exact Array.eq_empty_of_size_eq_zero e
    rw [empty_eq, this] at h4; simp at h4)
  go_enter Tryz.func6, Tryz.ntmps6
  go_wp2_with fail
  go_loopg [9] s.size (fun m v wr => ∃ j : Nat, v = .int .i64 j ∧ s.size - j ≤ m ∧ j ≤ s.size ∧ Hid (s.data.toList.all okB = (s.data.toList.drop j).all okB) ∧ w = wr)
  case atStart => exact ⟨0, rfl, Nat.le_refl _, Nat.zero_le _, Lib.hid rfl, rfl⟩
  case round =>
    obtain ⟨j, rfl, hm, hj, HA, rfl⟩ := hrel
    have HM := Lib.hid hm
    clear hm
    by_cases hjs : j < s.size
    · by_cases h5 : (s[j].toNat : Int) < 32
      · go_wp2_with fail
        refine AW.out.mono ?_
        rintro e w2 ⟨rfl, hb2⟩
        go_wp2_with fail
        go_ret
        exact ⟨rfl, hb2⟩
      · have HN := Lib.hid (show s.data.toList.all okB = (s.data.toList.drop (j + 1)).all okB by
          rw [HA.out, bytes_drop hjs, List.all_cons]
          have : okB s[j] = true := by unfold okB; rw [decide_eq_false h5]; rfl
          rw [this, Bool.true_and])
        go_wp2_with fail
        go_roundg (s.size - (j + 1))
        case rel => exact ⟨j + 1, rfl, Nat.le_refl _, hjs, HN, rfl⟩
        case measure => have := HM.out; omega
    · have PS := Lib.hid (plain_of (by rw [HA.out, show j = s.size by omega]; have : s.data.toList.drop s.size = [] := List.drop_length; rw [this]; rfl) S0.out)
      clear HA HM
      go_wp2_with fail
      go_loopg [10] t.size (fun m v wr => ∃ j : Nat, v = .int .i64 j ∧ t.size - j ≤ m ∧ j ≤ t.size ∧ Hid (t.data.toList.all okB = (t.data.toList.drop j).all okB) ∧ w = wr)
      case atStart => exact ⟨0, rfl, Nat.le_refl _, Nat.zero_le _, Lib.hid rfl, rfl⟩
      case round =>
        obtain ⟨i, rfl, hm, hi, HA, rfl⟩ := hrel
        have HM := Lib.hid hm
        clear hm
        by_cases hit : i < t.size
        · by_cases h5 : (t[i].toNat : Int) < 32
          · go_wp2_with fail
            refine AW.out.mono ?_
            rintro e w2 ⟨rfl, hb2⟩
            go_wp2_with fail
            go_ret
            exact ⟨rfl, hb2⟩
          · have HN := Lib.hid (show t.data.toList.all okB = (t.data.toList.drop (i + 1)).all okB by
              rw [HA.out, bytes_drop hit, List.all_cons]
              have : okB t[i] = true := by unfold okB; rw [decide_eq_false h5]; rfl
              rw [this, Bool.true_and])
            go_wp2_with fail
            go_roundg (t.size - (i + 1))
            case rel => exact ⟨i + 1, rfl, Nat.le_refl _, hit, HN, rfl⟩
            case measure => have := HM.out; omega
        · have PT := Lib.hid (plain_of (by rw [HA.out, show i = t.size by omega]; have : t.data.toList.drop t.size = [] := List.drop_length; rw [this]; rfl) T0.out)
          clear HA HM
          cases is
          · have PB0 := Lib.hid (show (((w.alloc (.cells #[.bool false, .string s, .bool true, .string ⟨#[118, 97, 114, 46, 110]⟩, .bool false, .string t, .bool true, .string ⟨#[118, 97, 114, 46, 98]⟩] 57)).alloc (.cells #[.int .i64 2, .int .i64 0, .string ⟨#[]⟩, .slice (some ⟨w.heap.size, 0, none⟩) 4 4, .slice none 0 0] 41)).alloc (.cells #[.string ⟨#[118, 97, 114, 46, 98]⟩, .int .i64 3, .int .i64 0, .string ⟨#[]⟩, .slice none 0 0] 50)).heap[w.heap.size]? = some (.cells #[.bool false, .string s, .bool true, .string ⟨#[118, 97, 114, 46, 110]⟩, .bool false, .string t, .bool true, .string ⟨#[118, 97, 114, 46, 98]⟩] 57 (0, 0)) from (Below.block (below_al (below_al (Below.refl _ _) _) _) w.heap.size (by simp)).trans (heap_alloc_new w _))
            have NB0 := Lib.hid (show (((w.alloc (.cells #[.bool false, .string s, .bool true, .string ⟨#[118, 97, 114, 46, 110]⟩, .bool false, .string t, .bool true, .string ⟨#[118, 97, 114, 46, 98]⟩] 57)).alloc (.cells #[.int .i64 2, .int .i64 0, .string ⟨#[]⟩, .slice (some ⟨w.heap.size, 0, none⟩) 4 4, .slice none 0 0] 41)).alloc (.cells #[.string ⟨#[118, 97, 114, 46, 98]⟩, .int .i64 3, .int .i64 0, .string ⟨#[]⟩, .slice none 0 0] 50)).heap[w.heap.size + 1]? = some (.cells #[.int .i64 2, .int .i64 0, .string ⟨#[]⟩, .slice (some ⟨w.heap.size, 0, none⟩) 4 4, .slice none 0 0] 41 (0, 0)) from (Below.block (below_al (Below.refl _ _) _) (w.heap.size + 1) (by simp)).trans (heap_at (by simp)))
            have BB0 := Lib.hid (show BindB (((w.alloc (.cells #[.bool false, .string s, .bool true, .string ⟨#[118, 97, 114, 46, 110]⟩, .bool false, .string t, .bool true, .string ⟨#[118, 97, 114, 46, 98]⟩] 57)).alloc (.cells #[.int .i64 2, .int .i64 0, .string ⟨#[]⟩, .slice (some ⟨w.heap.size, 0, none⟩) 4 4, .slice none 0 0] 41)).alloc (.cells #[.string ⟨#[118, 97, 114, 46, 98]⟩, .int .i64 3, .int .i64 0, .string ⟨#[]⟩, .slice none 0 0] 50)) (w.heap.size + 1 + 1) 0 from heap_at (by simp))
            have B0 := Lib.hid (show Below w.heap.size w (((w.alloc (.cells #[.bool false, .string s, .bool true, .string ⟨#[118, 97, 114, 46, 110]⟩, .bool false, .string t, .bool true, .string ⟨#[118, 97, 114, 46, 98]⟩] 57)).alloc (.cells #[.int .i64 2, .int .i64 0, .string ⟨#[]⟩, .slice (some ⟨w.heap.size, 0, none⟩) 4 4, .slice none 0 0] 41)).alloc (.cells #[.string ⟨#[118, 97, 114, 46, 98]⟩, .int .i64 3, .int .i64 0, .string ⟨#[]⟩, .slice none 0 0] 50)) from below_al (below_al (below_al (Below.refl _ _) _) _) _)
            have RD := Lib.hid (fun V => show Calls Tryz.prog 12 #[.int .i64 n] V (Made (.string (itoaB n)) V) from rdigs V n (by unfold I64; omega))
            have IS := itoa_small n hn
            have wo : IntKind.i64.wrap n = n := by rw [IntKind.wrap_i64]; omega
            go_wp2_with fail
            generalize ((w.alloc (.cells #[.bool false, .string s, .bool true, .string ⟨#[118, 97, 114, 46, 110]⟩, .bool false, .string t, .bool true, .string ⟨#[118, 97, 114, 46, 98]⟩] 57)).alloc (.cells #[.int .i64 2, .int .i64 0, .string ⟨#[]⟩, .slice (some ⟨w.heap.size, 0, none⟩) 4 4, .slice none 0 0] 41)).alloc (.cells #[.string ⟨#[118, 97, 114, 46, 98]⟩, .int .i64 3, .int .i64 0, .string ⟨#[]⟩, .slice none 0 0] 50) = w0 at *
            refine (RD.out _).mono ?_
            rintro e w1 ⟨rfl, hb1⟩
            have B1 := Lib.hid (B0.out.trans (hb1.mono B0.out.size))
            have PB1 := Lib.hid ((Below.block hb1 _ (Array.getElem?_eq_some_iff.1 PB0.out).1).trans PB0.out)
            have NB1 := Lib.hid ((Below.block hb1 _ (Array.getElem?_eq_some_iff.1 NB0.out).1).trans NB0.out)
            have BB1 := Lib.hid (BB0.out.below hb1)
            obtain ⟨k0, k1, k2, k3, k4⟩ := BB1.out.cells
            have kl : w.heap.size + 1 + 1 < w1.heap.size := (Array.getElem?_eq_some_iff.1 BB1.out).1
            clear hb1
            have B3 := B1
            have PB3 := PB1
            have NB3 := NB1
            have BB3 := BB1
            clear k0 k1 k2 k3 k4 kl B1 PB1 NB1 BB1 B0 PB0 NB0 BB0
            have WE := Lib.hid (show s ++ itoaB n ++ t ++ ⟨#[102, 97, 108, 115, 101]⟩ = want4 s t n 0 by unfold want4; rw [show ((0 : Int) == 1) = false from rfl, bool_bytes.2])
            have PSZ := Lib.hid (show ∀ p ∈ txt4 s t, p.2.size ≤ 10000 from fun p hp => by
              simp [txt4] at hp
              rcases hp with rfl | rfl | rfl | rfl
              · show s.size ≤ 10000; omega
              · decide
              · show t.size ≤ 10000; omega
              · decide)
            have TRE := Lib.hid (show treeP (strN (txt4 s t)) = true by rw [strN_tree]; exact txt4_parts s t PS.out PT.out)
            have W1 := Lib.hid (by
              have := strN_walk (txt4 s t) (by simp [txt4]) PSZ.out (lookL (bs2 1 n 0)) (bs2_text 1 n 0 (.inl rfl) hn) (bs2_leaf 1 n 0 hn (by omega))
              rw [txt4_yes s t n 0 (by omega) (by omega) hn] at this
              exact this)
            have W2 := Lib.hid (by
              have := strN_walk (txt4 s t) (by simp [txt4]) PSZ.out (lookL (bs2 4 0 0)) (bs2_text 4 0 0 (.inr rfl) (by omega)) (bs2_leaf 4 0 0 (by omega) (by omega))
              rw [txt4_no s t 0 0] at this
              exact this)
            have BI := Lib.hid (show ∀ k m : Int, -2147483648 ≤ m ∧ m ≤ 2147483647 → ∀ b ∈ bs2 k m 0, I64 b.2.num ∧ b.1.size ≤ 281474976710656 from fun k m hm b hb => by
              simp [bs2] at hb
              rcases hb with rfl | rfl
              · exact ⟨⟨by show _ ≤ m; omega, by show m ≤ _; omega⟩, by show varN.size ≤ _; decide⟩
              · exact ⟨⟨by show _ ≤ (0 : Int); omega, by show (0 : Int) ≤ _; omega⟩, by show varB.size ≤ _; decide⟩)
            have PE := Lib.hid (show ∀ V, Below w1.heap.size w1 V → ∀ (k m : Int) (r : VL × Int), -2147483648 ≤ m ∧ m ≤ 2147483647 → Walk TabOK (lookL (bs2 k m 0)) (strN (txt4 s t)) (madeT (lookL (bs2 k m 0))) r → ∀ G', V.heap[G']? = some (.cells #[.string varN, .int .i64 k, .int .i64 m, .string ⟨#[]⟩, .slice none 0 0, .string varB, .int .i64 3, .int .i64 0, .string ⟨#[]⟩, .slice none 0 0] 50 (0, 0)) → Calls Tryz.prog 16 #[.slice (some ⟨w.heap.size + 1, 0, none⟩) 1 1, .slice (some ⟨G', 0, none⟩) 2 2] V (Told r V) from fun V hV k m r hm hw G' hG => by
              have hB := B3.out.trans (hV.mono B3.out.size)
              exact pexpr_yes V TabOK (TT.out.below hB) _ _ (strN (txt4 s t)) (bs2 k m 0) _ r (strN_rd ((Below.block hV _ (Array.getElem?_eq_some_iff.1 PB3.out).1).trans PB3.out) ((Below.block hV _ (Array.getElem?_eq_some_iff.1 NB3.out).1).trans NB3.out)) (strN_few _ (by simp [txt4]) PSZ.out) (V_below V0.out hB) TRE.out (bs2_rd hG) (by simp [bs2]) (BI.out k m hm) hw)
            go_upto_region 19 with fail
            refine reg19 hn BB3 (Lib.hid fun V hV G' hG => PE.out V hV 1 n _ hn W1.out G' hG) (Lib.hid ?_)
            intro y87 y88 y89 y90 y91 y92 y93 y94 y95 y96 H W hvb hbw
            dsimp only
            have BB5 := Lib.hid (BB3.out.below hbw)
            obtain ⟨k0, k1, k2, k3, k4⟩ := BB5.out.cells
            have VB5 := Lib.hid hvb
            have HBW := Lib.hid hbw
            clear hvb hbw
            go_wp2_with fail
            refine (PE.out (W.alloc (.cells #[.string ⟨#[118, 97, 114, 46, 110]⟩, .int .i64 4, .int .i64 0, .string ⟨#[]⟩, .slice none 0 0, .string ⟨#[118, 97, 114, 46, 98]⟩, .int .i64 3, .int .i64 0, .string ⟨#[]⟩, .slice none 0 0] 50)) (below_al HBW.out _) 4 0 _ (by omega) W2.out W.heap.size (heap_alloc_new W _)).mono ?_
            rintro e w7 ⟨rfl, hb7⟩
            have BW := Lib.hid (show Below W.heap.size W w7 from (below_al (Below.refl _ _) _).trans (hb7.mono (below_al (Below.refl W.heap.size W) _).size))
            have B7 := Lib.hid ((B3.out.trans (HBW.out.mono B3.out.size)).trans (BW.out.mono (B3.out.trans (HBW.out.mono B3.out.size)).size))
            obtain ⟨v0, v1, v2, v3⟩ := ((VB5.out.below BW.out).below (below_al (Below.refl _ _) (.cells #[.int .i64 vz.kind, .int .i64 vz.num, .string vz.text, .slice none 0 0] 48))).cells
            have v0' : (w7.alloc (.cells #[.int .i64 vz.kind, .int .i64 vz.num, .string vz.text, .slice none 0 0] 48)).cell? ⟨H, 0, none⟩ = some (.int .i64 2) := v0
            have v2' : (w7.alloc (.cells #[.int .i64 vz.kind, .int .i64 vz.num, .string vz.text, .slice none 0 0] 48)).cell? ⟨H, 2, none⟩ = some (.string (want4 s t n 0)) := v2
            have hl : H < w7.heap.size := (VB5.out.below BW.out).lt
            clear v0 v1 v2 v3 hb7 k0 k1 k2 k3 k4
            rw [WE.out]
            go_wp2_with fail
            refine (lnum _ _).mono ?_
            rintro e w8 ⟨rfl, rfl⟩
            go_wp2_with fail
            refine (lnum _ _).mono ?_
            rintro e w8 ⟨rfl, rfl⟩
            go_wp2_with fail
            refine (law_awake7 _ (V_below V0.out (below_al B7.out _))).mono ?_
            rintro e w10 ⟨rfl, hb10⟩
            go_wp2_with fail
            go_ret
            exact ⟨rfl, (below_al B7.out _).trans (hb10.mono (below_al B7.out _).size)⟩
          · have PB0 := Lib.hid (show (((w.alloc (.cells #[.bool false, .string s, .bool true, .string ⟨#[118, 97, 114, 46, 110]⟩, .bool false, .string t, .bool true, .string ⟨#[118, 97, 114, 46, 98]⟩] 57)).alloc (.cells #[.int .i64 2, .int .i64 0, .string ⟨#[]⟩, .slice (some ⟨w.heap.size, 0, none⟩) 4 4, .slice none 0 0] 41)).alloc (.cells #[.string ⟨#[118, 97, 114, 46, 98]⟩, .int .i64 3, .int .i64 0, .string ⟨#[]⟩, .slice none 0 0] 50)).heap[w.heap.size]? = some (.cells #[.bool false, .string s, .bool true, .string ⟨#[118, 97, 114, 46, 110]⟩, .bool false, .string t, .bool true, .string ⟨#[118, 97, 114, 46, 98]⟩] 57 (0, 0)) from (Below.block (below_al (below_al (Below.refl _ _) _) _) w.heap.size (by simp)).trans (heap_alloc_new w _))
            have NB0 := Lib.hid (show (((w.alloc (.cells #[.bool false, .string s, .bool true, .string ⟨#[118, 97, 114, 46, 110]⟩, .bool false, .string t, .bool true, .string ⟨#[118, 97, 114, 46, 98]⟩] 57)).alloc (.cells #[.int .i64 2, .int .i64 0, .string ⟨#[]⟩, .slice (some ⟨w.heap.size, 0, none⟩) 4 4, .slice none 0 0] 41)).alloc (.cells #[.string ⟨#[118, 97, 114, 46, 98]⟩, .int .i64 3, .int .i64 0, .string ⟨#[]⟩, .slice none 0 0] 50)).heap[w.heap.size + 1]? = some (.cells #[.int .i64 2, .int .i64 0, .string ⟨#[]⟩, .slice (some ⟨w.heap.size, 0, none⟩) 4 4, .slice none 0 0] 41 (0, 0)) from (Below.block (below_al (Below.refl _ _) _) (w.heap.size + 1) (by simp)).trans (heap_at (by simp)))
            have BB0 := Lib.hid (show BindB (((w.alloc (.cells #[.bool false, .string s, .bool true, .string ⟨#[118, 97, 114, 46, 110]⟩, .bool false, .string t, .bool true, .string ⟨#[118, 97, 114, 46, 98]⟩] 57)).alloc (.cells #[.int .i64 2, .int .i64 0, .string ⟨#[]⟩, .slice (some ⟨w.heap.size, 0, none⟩) 4 4, .slice none 0 0] 41)).alloc (.cells #[.string ⟨#[118, 97, 114, 46, 98]⟩, .int .i64 3, .int .i64 0, .string ⟨#[]⟩, .slice none 0 0] 50)) (w.heap.size + 1 + 1) 0 from heap_at (by simp))
            have B0 := Lib.hid (show Below w.heap.size w (((w.alloc (.cells #[.bool false, .string s, .bool true, .string ⟨#[118, 97, 114, 46, 110]⟩, .bool false, .string t, .bool true, .string ⟨#[118, 97, 114, 46, 98]⟩] 57)).alloc (.cells #[.int .i64 2, .int .i64 0, .string ⟨#[]⟩, .slice (some ⟨w.heap.size, 0, none⟩) 4 4, .slice none 0 0] 41)).alloc (.cells #[.string ⟨#[118, 97, 114, 46, 98]⟩, .int .i64 3, .int .i64 0, .string ⟨#[]⟩, .slice none 0 0] 50)) from below_al (below_al (below_al (Below.refl _ _) _) _) _)
            have RD := Lib.hid (fun V => show Calls Tryz.prog 12 #[.int .i64 n] V (Made (.string (itoaB n)) V) from rdigs V n (by unfold I64; omega))
            have IS := itoa_small n hn
            have wo : IntKind.i64.wrap n = n := by rw [IntKind.wrap_i64]; omega
            go_wp2_with fail
            generalize ((w.alloc (.cells #[.bool false, .string s, .bool true, .string ⟨#[118, 97, 114, 46, 110]⟩, .bool false, .string t, .bool true, .string ⟨#[118, 97, 114, 46, 98]⟩] 57)).alloc (.cells #[.int .i64 2, .int .i64 0, .string ⟨#[]⟩, .slice (some ⟨w.heap.size, 0, none⟩) 4 4, .slice none 0 0] 41)).alloc (.cells #[.string ⟨#[118, 97, 114, 46, 98]⟩, .int .i64 3, .int .i64 0, .string ⟨#[]⟩, .slice none 0 0] 50) = w0 at *
            refine (RD.out _).mono ?_
            rintro e w1 ⟨rfl, hb1⟩
            have B1 := Lib.hid (B0.out.trans (hb1.mono B0.out.size))
            have PB1 := Lib.hid ((Below.block hb1 _ (Array.getElem?_eq_some_iff.1 PB0.out).1).trans PB0.out)
            have NB1 := Lib.hid ((Below.block hb1 _ (Array.getElem?_eq_some_iff.1 NB0.out).1).trans NB0.out)
            have BB1 := Lib.hid (BB0.out.below hb1)
            obtain ⟨k0, k1, k2, k3, k4⟩ := BB1.out.cells
            have kl : w.heap.size + 1 + 1 < w1.heap.size := (Array.getElem?_eq_some_iff.1 BB1.out).1
            clear hb1
            have kf : w1.frozen? ⟨w.heap.size + 1 + 1, 2, none⟩ = false := by
              have h := BB1.out
              unfold BindB at h
              simp [World.frozen?, h]
            have B2 := Lib.hid (show Below w.heap.size w (w1.setCell ⟨w.heap.size + 1 + 1, 2, none⟩ (.int .i64 1)) from B1.out.setCell (by simp; omega) _)
            have PB2 := Lib.hid ((heap_setCell_other w1 ⟨w.heap.size + 1 + 1, 2, none⟩ w.heap.size (.int .i64 1) (by simp; omega)).trans PB1.out)
            have NB2 := Lib.hid ((heap_setCell_other w1 ⟨w.heap.size + 1 + 1, 2, none⟩ (w.heap.size + 1) (.int .i64 1) (by simp)).trans NB1.out)
            have BB2 := Lib.hid (show BindB (w1.setCell ⟨w.heap.size + 1 + 1, 2, none⟩ (.int .i64 1)) (w.heap.size + 1 + 1) 1 from heap_setCell_same w1 (w.heap.size + 1 + 1) 2 _ _ (.int .i64 1) BB1.out)
            go_wp2_with fail
            generalize w1.setCell ⟨w.heap.size + 1 + 1, 2, none⟩ (.int .i64 1) = w2 at *
            refine (RD.out _).mono ?_
            rintro e w3 ⟨rfl, hb3⟩
            have B3 := Lib.hid (B2.out.trans (hb3.mono B2.out.size))
            have PB3 := Lib.hid ((Below.block hb3 _ (Array.getElem?_eq_some_iff.1 PB2.out).1).trans PB2.out)
            have NB3 := Lib.hid ((Below.block hb3 _ (Array.getElem?_eq_some_iff.1 NB2.out).1).trans NB2.out)
            have BB3 := Lib.hid (BB2.out.below hb3)
            clear hb3 B1 PB1 NB1 BB1 k0 k1 k2 k3 k4 kl kf B2 PB2 NB2 BB2 B0 PB0 NB0 BB0
            have WE := Lib.hid (show s ++ itoaB n ++ t ++ ⟨#[116, 114, 117, 101]⟩ = want4 s t n 1 by unfold want4; rw [show ((1 : Int) == 1) = true from rfl, bool_bytes.1])
            have PSZ := Lib.hid (show ∀ p ∈ txt4 s t, p.2.size ≤ 10000 from fun p hp => by
              simp [txt4] at hp
              rcases hp with rfl | rfl | rfl | rfl
              · show s.size ≤ 10000; omega
              · decide
              · show t.size ≤ 10000; omega
              · decide)
            have TRE := Lib.hid (show treeP (strN (txt4 s t)) = true by rw [strN_tree]; exact txt4_parts s t PS.out PT.out)
            have W1 := Lib.hid (by
              have := strN_walk (txt4 s t) (by simp [txt4]) PSZ.out (lookL (bs2 1 n 1)) (bs2_text 1 n 1 (.inl rfl) hn) (bs2_leaf 1 n 1 hn (by omega))
              rw [txt4_yes s t n 1 (by omega) (by omega) hn] at this
              exact this)
            have W2 := Lib.hid (by
              have := strN_walk (txt4 s t) (by simp [txt4]) PSZ.out (lookL (bs2 4 0 1)) (bs2_text 4 0 1 (.inr rfl) (by omega)) (bs2_leaf 4 0 1 (by omega) (by omega))
              rw [txt4_no s t 0 1] at this
              exact this)
            have BI := Lib.hid (show ∀ k m : Int, -2147483648 ≤ m ∧ m ≤ 2147483647 → ∀ b ∈ bs2 k m 1, I64 b.2.num ∧ b.1.size ≤ 281474976710656 from fun k m hm b hb => by
              simp [bs2] at hb
              rcases hb with rfl | rfl
              · exact ⟨⟨by show _ ≤ m; omega, by show m ≤ _; omega⟩, by show varN.size ≤ _; decide⟩
              · exact ⟨⟨by show _ ≤ (1 : Int); omega, by show (1 : Int) ≤ _; omega⟩, by show varB.size ≤ _; decide⟩)
            have PE := Lib.hid (show ∀ V, Below w3.heap.size w3 V → ∀ (k m : Int) (r : VL × Int), -2147483648 ≤ m ∧ m ≤ 2147483647 → Walk TabOK (lookL (bs2 k m 1)) (strN (txt4 s t)) (madeT (lookL (bs2 k m 1))) r → ∀ G', V.heap[G']? = some (.cells #[.string varN, .int .i64 k, .int .i64 m, .string ⟨#[]⟩, .slice none 0 0, .string varB, .int .i64 3, .int .i64 1, .string ⟨#[]⟩, .slice none 0 0] 50 (0, 0)) → Calls Tryz.prog 16 #[.slice (some ⟨w.heap.size + 1, 0, none⟩) 1 1, .slice (some ⟨G', 0, none⟩) 2 2] V (Told r V) from fun V hV k m r hm hw G' hG => by
              have hB := B3.out.trans (hV.mono B3.out.size)
              exact pexpr_yes V TabOK (TT.out.below hB) _ _ (strN (txt4 s t)) (bs2 k m 1) _ r (strN_rd ((Below.block hV _ (Array.getElem?_eq_some_iff.1 PB3.out).1).trans PB3.out) ((Below.block hV _ (Array.getElem?_eq_some_iff.1 NB3.out).1).trans NB3.out)) (strN_few _ (by simp [txt4]) PSZ.out) (V_below V0.out hB) TRE.out (bs2_rd hG) (by simp [bs2]) (BI.out k m hm) hw)
            go_upto_region 19 with fail
            refine reg19 hn BB3 (Lib.hid fun V hV G' hG => PE.out V hV 1 n _ hn W1.out G' hG) (Lib.hid ?_)
            intro y87 y88 y89 y90 y91 y92 y93 y94 y95 y96 H W hvb hbw
            dsimp only
            have BB5 := Lib.hid (BB3.out.below hbw)
            obtain ⟨k0, k1, k2, k3, k4⟩ := BB5.out.cells
            have VB5 := Lib.hid hvb
            have HBW := Lib.hid hbw
            clear hvb hbw
            go_wp2_with fail
            refine (PE.out (W.alloc (.cells #[.string ⟨#[118, 97, 114, 46, 110]⟩, .int .i64 4, .int .i64 0, .string ⟨#[]⟩, .slice none 0 0, .string ⟨#[118, 97, 114, 46, 98]⟩, .int .i64 3, .int .i64 1, .string ⟨#[]⟩, .slice none 0 0] 50)) (below_al HBW.out _) 4 0 _ (by omega) W2.out W.heap.size (heap_alloc_new W _)).mono ?_
            rintro e w7 ⟨rfl, hb7⟩
            have BW := Lib.hid (show Below W.heap.size W w7 from (below_al (Below.refl _ _) _).trans (hb7.mono (below_al (Below.refl W.heap.size W) _).size))
            have B7 := Lib.hid ((B3.out.trans (HBW.out.mono B3.out.size)).trans (BW.out.mono (B3.out.trans (HBW.out.mono B3.out.size)).size))
            obtain ⟨v0, v1, v2, v3⟩ := ((VB5.out.below BW.out).below (below_al (Below.refl _ _) (.cells #[.int .i64 vz.kind, .int .i64 vz.num, .string vz.text, .slice none 0 0] 48))).cells
            have v0' : (w7.alloc (.cells #[.int .i64 vz.kind, .int .i64 vz.num, .string vz.text, .slice none 0 0] 48)).cell? ⟨H, 0, none⟩ = some (.int .i64 2) := v0
            have v2' : (w7.alloc (.cells #[.int .i64 vz.kind, .int .i64 vz.num, .string vz.text, .slice none 0 0] 48)).cell? ⟨H, 2, none⟩ = some (.string (want4 s t n 1)) := v2
            have hl : H < w7.heap.size := (VB5.out.below BW.out).lt
            clear v0 v1 v2 v3 hb7 k0 k1 k2 k3 k4
            rw [WE.out]
            go_wp2_with fail
            refine (lnum _ _).mono ?_
            rintro e w8 ⟨rfl, rfl⟩
            go_wp2_with fail
            refine (lnum _ _).mono ?_
            rintro e w8 ⟨rfl, rfl⟩
            go_wp2_with fail
            refine (law_awake7 _ (V_below V0.out (below_al B7.out _))).mono ?_
            rintro e w10 ⟨rfl, hb10⟩
            go_wp2_with fail
            go_ret
            exact ⟨rfl, (below_al B7.out _).trans (hb10.mono (below_al B7.out _).size)⟩
end
end Go.Proofs.YtjohcpipflpiaaaGreatDoor
