/- The law of inputs: the walk. -/
import Derived.Test.YtndeihmclecmcaaGreatDoorWtV
import Derived.Deep.Cut
namespace Go.Proofs.YtndeihmclecmcaaGreatDoor
open Go.RowKit
set_option linter.unusedVariables false
set_option linter.unusedSimpArgs false
section
variable (w : World)
set_option maxRecDepth 20000 in
theorem pnum8 (n : Int) : Calls Tryz.prog 9 #[.int .i64 n] w fun e w' => ∃ g, e = .returned (.slice (some ⟨g, 0, none⟩) 1 1) ∧ Below w.heap.size w w' ∧ w'.heap[g]? = some (.cells #[.int .i64 1, .int .i64 n, .string ⟨#[]⟩, .slice none 0 0, .slice none 0 0] 35) := by
  have B := Lib.hid (below_al (Below.refl w.heap.size w) (.cells #[.int .i64 1, .int .i64 n, .string ⟨#[]⟩, .slice none 0 0, .slice none 0 0] 35))
  have H := Lib.hid (heap_alloc_new w (.cells #[.int .i64 1, .int .i64 n, .string ⟨#[]⟩, .slice none 0 0, .slice none 0 0] 35))
  go_enter Tryz.func9, Tryz.ntmps9
  go_wp2_with fail
  go_ret
  exact ⟨_, rfl, B.out, H.out⟩
end
theorem num_rd {w : World} {g cap : Nat} {m : Int} {t : TypeId} (h : w.heap[g]? = some (.cells #[.int .i64 1, .int .i64 m, .string ⟨#[]⟩, .slice none 0 0, .slice none 0 0] t)) : NodesRd w (.slice (some ⟨g, 0, none⟩) 1 cap) (numN m) :=
  nodes_of_block (ns := numN m) h ⟨.slice none 0 0, .slice none 0 0, _, rfl, parts_nil _ _ _, places_nil _ _ _, rfl⟩
theorem neg_rd {w : World} {g k cap kc : Nat} {m : Int} {t tk : TypeId} (hk : w.heap[k]? = some (.cells #[.int .i64 0] tk)) (h : w.heap[g]? = some (.cells #[.int .i64 1, .int .i64 m, .string ⟨#[]⟩, .slice none 0 0, .slice none 0 0, .int .i64 9, .int .i64 0, .string ⟨#[]⟩, .slice none 0 0, .slice (some ⟨k, 0, none⟩) 1 kc] t)) : NodesRd w (.slice (some ⟨g, 0, none⟩) 2 cap) (negN m) :=
  nodes_of_block (ns := negN m) h ⟨.slice none 0 0, .slice none 0 0, _, rfl, parts_nil _ _ _, places_nil _ _ _, .slice none 0 0, .slice (some ⟨k, 0, none⟩) 1 kc, _, rfl, parts_nil _ _ _, places_of_block (ks := [0]) hk, rfl⟩
theorem add_rd {w : World} {g k cap kc : Nat} {m : Int} {t tk : TypeId} (hk : w.heap[k]? = some (.cells #[.int .i64 0, .int .i64 1] tk)) (h : w.heap[g]? = some (.cells #[.int .i64 1, .int .i64 m, .string ⟨#[]⟩, .slice none 0 0, .slice none 0 0, .int .i64 4, .int .i64 0, .string kIndex, .slice none 0 0, .slice none 0 0, .int .i64 19, .int .i64 0, .string ⟨#[]⟩, .slice none 0 0, .slice (some ⟨k, 0, none⟩) 2 kc] t)) : NodesRd w (.slice (some ⟨g, 0, none⟩) 3 cap) (addN m) :=
  nodes_of_block (ns := addN m) h ⟨.slice none 0 0, .slice none 0 0, _, rfl, parts_nil _ _ _, places_nil _ _ _, .slice none 0 0, .slice none 0 0, _, rfl, parts_nil _ _ _, places_nil _ _ _, .slice none 0 0, .slice (some ⟨k, 0, none⟩) 2 kc, _, rfl, parts_nil _ _ _, places_of_block (ks := [0, 1]) hk, rfl⟩
/-- A block of one node, its attributes in a block of their own. -/
theorem blks_one {w : World} {gb ga bc ac : Nat} {lb : ByteArray} {al : List (ByteArray × List NodeL)} {ta tb : TypeId} {xs : List Value} (hb : w.heap[gb]? = some (.cells #[.int .i64 3, .string lb, .slice (some ⟨ga, 0, none⟩) al.length ac, .slice none 0 0] tb)) (ha : AttrsRd w (.slice (some ⟨ga, 0, none⟩) al.length ac) al) :
    BlksRd 1 w (.slice (some ⟨gb, 0, none⟩) 1 bc) [lawB lb al] :=
  ⟨some ⟨gb, 0, none⟩, bc, rfl, fun i b hi => by
    have h0 : i = 0 := by have := (List.getElem?_eq_some_iff.1 hi).1; simpa using this
    subst h0
    obtain rfl : lawB lb al = b := by simpa using hi
    have k := fun r => cell_of_row w gb r _ tb (0, 0) hb
    exact ⟨gb, 0, some ⟨ga, 0, none⟩, ac, none, 0, rfl, k 0, k 1, k 2, k 3, ha, rfl, _, _, rfl⟩⟩
theorem attrs_one {w : World} {ga ac : Nat} {x : ByteArray} {ns : List NodeL} {g : Nat} {ta : TypeId} (h : w.heap[ga]? = some (.cells #[.string x, .slice (some ⟨g, 0, none⟩) ns.length ns.length] ta)) (hn : NodesRd w (.slice (some ⟨g, 0, none⟩) ns.length ns.length) ns) :
    AttrsRd w (.slice (some ⟨ga, 0, none⟩) 1 ac) [(x, ns)] :=
  ⟨some ⟨ga, 0, none⟩, ac, rfl, fun i a hi => by
    have h0 : i = 0 := by have := (List.getElem?_eq_some_iff.1 hi).1; simpa using this
    subst h0
    obtain rfl : (x, ns) = a := by simpa using hi
    have k := fun r => cell_of_row w ga r _ ta (0, 0) h
    exact ⟨ga, 0, some ⟨g, 0, none⟩, ns.length, rfl, k 0, k 1, hn⟩⟩
theorem attrs_two {w : World} {ga ac : Nat} {x y : ByteArray} {ns ms : List NodeL} {g g' : Nat} {ta : TypeId} (h : w.heap[ga]? = some (.cells #[.string x, .slice (some ⟨g, 0, none⟩) ns.length ns.length, .string y, .slice (some ⟨g', 0, none⟩) ms.length ms.length] ta)) (hn : NodesRd w (.slice (some ⟨g, 0, none⟩) ns.length ns.length) ns) (hm : NodesRd w (.slice (some ⟨g', 0, none⟩) ms.length ms.length) ms) :
    AttrsRd w (.slice (some ⟨ga, 0, none⟩) 2 ac) [(x, ns), (y, ms)] :=
  ⟨some ⟨ga, 0, none⟩, ac, rfl, fun i a hi => by
    have k := fun r => cell_of_row w ga r _ ta (0, 0) h
    match i, hi with
    | 0, hi =>
      obtain rfl : (x, ns) = a := by simpa using hi
      exact ⟨ga, 0, some ⟨g, 0, none⟩, ns.length, rfl, k 0, k 1, hn⟩
    | 1, hi =>
      obtain rfl : (y, ms) = a := by simpa using hi
      exact ⟨ga, 0, some ⟨g', 0, none⟩, ms.length, rfl, k 2, k 3, hm⟩
    | i + 2, hi => simp at hi⟩
/-- What the answer's row is. -/
theorem want_row {w : World} {B n : Nat} {v : Value} {xs : List Value} (h : w.ownsRow B 50 5 v n xs) (hl : 0 < n) : ∃ g cap, v = .slice (some ⟨g, 0, none⟩) n cap ∧ B ≤ g := by
  rcases h.2 with ⟨rfl, h0⟩ | ⟨g, cap, cur, rfl, hbg, hg, r⟩
  · omega
  · exact ⟨g, cap, rfl, hbg⟩
theorem wantsCells_at : ∀ (l : List WantL) (i : Nat) (x : WantL), l[i]? = some x → ∀ r, r < 5 → (wantsCells l)[i * 5 + r]? = (wantCells x)[r]? := by
  intro l
  induction l with
  | nil => intro i p h; simp at h
  | cons a l ih =>
    intro i p h r hr
    show (wantCells a ++ wantsCells l)[i * 5 + r]? = _
    cases i with
    | zero =>
      simp at h; subst h
      rw [List.getElem?_append_left (by show 0 * 5 + r < 5; omega)]
      congr 1; omega
    | succ i =>
      rw [List.getElem?_append_right (by show 5 ≤ (i + 1) * 5 + r; omega), ← ih i p (by simpa using h) r hr]
      congr 1
      show (i + 1) * 5 + r - 5 = _
      omega
theorem name_w (i : Nat) : nameI (⟨#[]⟩ ++ lbW) i = ⟨#[119, 45]⟩ ++ itoaB (i : Int) := by
  unfold nameI
  rw [show (⟨#[]⟩ : ByteArray) ++ lbW ++ ⟨#[45]⟩ = ⟨#[119, 45]⟩ by kernel_rfl]
section
variable (w : World)
set_option maxHeartbeats 4000000 in
set_option maxRecDepth 20000 in
theorem law_awake8 (ht : TabOK w) (he : ErrVar w) : Calls Tryz.prog 12 #[] w (Made (.bool true) w) := by
  have HT := Lib.hid ht
  have HE := Lib.hid he
  clear ht he
  go_enter Tryz.func12, Tryz.ntmps12
  go_wp2_with fail
  refine (pnum8 _ _).mono ?_
  rintro e w1 ⟨g, rfl, hb1, hg1⟩
  go_wp2_with fail
  have z0 : ((w1.alloc (.cells #[.string ⟨#[99, 111, 117, 110, 116]⟩, .slice (some ⟨g, 0, none⟩) 1 1] 26)).alloc (.cells #[.int .i64 3, .string ⟨#[97]⟩, .slice (some ⟨w1.heap.size, 0, none⟩) 1 1, .slice none 0 0] 30)).heap[w1.heap.size]? = some (.cells #[.string ⟨#[99, 111, 117, 110, 116]⟩, .slice (some ⟨g, 0, none⟩) 1 1] 26) := (Below.block (below_al (Below.refl _ _) _) w1.heap.size (by simp)).trans (heap_alloc_new w1 _)
  have z1 : ((w1.alloc (.cells #[.string ⟨#[99, 111, 117, 110, 116]⟩, .slice (some ⟨g, 0, none⟩) 1 1] 26)).alloc (.cells #[.int .i64 3, .string ⟨#[97]⟩, .slice (some ⟨w1.heap.size, 0, none⟩) 1 1, .slice none 0 0] 30)).heap[w1.heap.size + 1]? = some (.cells #[.int .i64 3, .string ⟨#[97]⟩, .slice (some ⟨w1.heap.size, 0, none⟩) 1 1, .slice none 0 0] 30) := heap_at (by simp)
  have z2 : Below w1.heap.size w1 ((w1.alloc (.cells #[.string ⟨#[99, 111, 117, 110, 116]⟩, .slice (some ⟨g, 0, none⟩) 1 1] 26)).alloc (.cells #[.int .i64 3, .string ⟨#[97]⟩, .slice (some ⟨w1.heap.size, 0, none⟩) 1 1, .slice none 0 0] 30)) := below_al (below_al (Below.refl _ _) _) _
  generalize (w1.alloc (.cells #[.string ⟨#[99, 111, 117, 110, 116]⟩, .slice (some ⟨g, 0, none⟩) 1 1] 26)).alloc (.cells #[.int .i64 3, .string ⟨#[97]⟩, .slice (some ⟨w1.heap.size, 0, none⟩) 1 1, .slice none 0 0] 30) = w2 at *
  have B2 := Lib.hid (below_tr hb1 z2)
  have N2 := Lib.hid (num_rd (cap := 1) ((z2.block g (Array.getElem?_eq_some_iff.1 hg1).1).trans hg1))
  have R2 := Lib.hid (blks_one (bc := 1) (lb := lbA) (al := [(kCount, numN 2)]) (ta := 30) (xs := []) z1 (attrs_one (ac := 1) z0 N2.out))
  have HL : ∀ a ∈ [(kCount, numN 2)], (a.1 = kCpu ∨ a.1 = kCount) ∧ LawEx a.2 := fun a ha => by
    obtain rfl := List.mem_singleton.1 ha
    exact ⟨.inr rfl, 2, by omega, .inl rfl⟩
  have PW := Lib.hid (pwants0 w2 0 _ _ R2.out (blks_ok (by simp) (by decide) (by decide) (once1 _) HL) (HT.out.below B2.out) (HE.out.below B2.out HE.out.lt) (fun b hb => by obtain rfl := List.mem_singleton.1 hb; rfl) lawV (fun b hb => by obtain rfl := List.mem_singleton.1 hb; exact node_ok (by simp) (by decide) HL))
  rw [res_awake] at PW
  clear z0 z1 z2 HL N2 R2 hb1 hg1
  refine PW.out.mono ?_
  rintro e w3 ⟨v, rfl, hb3, ho, -⟩
  have HO := ho rfl
  obtain ⟨gw, cw, rfl, -⟩ := want_row HO (by simp)
  have k0 : w3.cell? ⟨gw, 0, none⟩ = some (.string ⟨#[97, 45, 48]⟩) := (World.ownsRow.cellAt HO 0 (by simp)).trans (by kernel_rfl)
  have k5 : w3.cell? ⟨gw, 5, none⟩ = some (.string ⟨#[97, 45, 49]⟩) := (World.ownsRow.cellAt HO 5 (by simp)).trans (by kernel_rfl)
  have B3 := Lib.hid (below_tr B2.out hb3)
  clear ho HO hb3 PW
  go_wp2_with fail
  refine (lnum _ _).mono ?_
  rintro e w4 ⟨rfl, rfl⟩
  go_wp2_with fail
  go_ret
  exact ⟨rfl, B3.out⟩
end
theorem at_lo {w : World} {o o' : Obj} {k : Nat} (h : w.heap[k]? = some o) : (w.alloc o').heap[k]? = some o :=
  (Below.block (below_al (Below.refl _ _) _) k (Array.getElem?_eq_some_iff.1 h).1).trans h
/-- The law's world with its block, the count a number. -/
def posW (w1 : World) (c : Int) (g : Nat) : World :=
  ((((w1.alloc (.cells #[.int .i64 0, .int .i64 1] 3)).alloc
    (.cells #[.int .i64 1, .int .i64 c, .string ⟨#[]⟩, .slice none 0 0, .slice none 0 0, .int .i64 4, .int .i64 0, .string ⟨#[99, 111, 117, 110, 116, 46, 105, 110, 100, 101, 120]⟩, .slice none 0 0, .slice none 0 0, .int .i64 19, .int .i64 0, .string ⟨#[]⟩, .slice none 0 0, .slice (some ⟨w1.heap.size, 0, none⟩) 2 2] 35)).alloc
    (.cells #[.string ⟨#[99, 112, 117]⟩, .slice (some ⟨w1.heap.size + 1, 0, none⟩) 3 3, .string ⟨#[99, 111, 117, 110, 116]⟩, .slice (some ⟨g, 0, none⟩) 1 1] 26)).alloc
    (.cells #[.int .i64 3, .string ⟨#[119]⟩, .slice (some ⟨w1.heap.size + 1 + 1, 0, none⟩) 2 2, .slice none 0 0] 30)).alloc
    (.cells #[.int .i64 3, .string ⟨#[119]⟩, .slice (some ⟨w1.heap.size + 1 + 1, 0, none⟩) 2 2, .slice none 0 0] 30)
theorem pos_rd {w1 : World} {c m : Int} {g : Nat} (hg : w1.heap[g]? = some (.cells #[.int .i64 1, .int .i64 m, .string ⟨#[]⟩, .slice none 0 0, .slice none 0 0] 35)) :
    BlksRd 1 (posW w1 c g) (.slice (some ⟨w1.heap.size + 1 + 1 + 1 + 1, 0, none⟩) 1 1) [lawB lbW [(kCpu, addN c), (kCount, numN m)]] ∧ Below w1.heap.size w1 (posW w1 c g) :=
  ⟨blks_one (ta := 30) (xs := []) (heap_at (by simp)) (attrs_two (ns := addN c) (ms := numN m) (ac := 2) (at_lo (at_lo (heap_at (by simp)))) (add_rd (at_lo (at_lo (at_lo (at_lo (heap_alloc_new w1 _))))) (at_lo (at_lo (at_lo (heap_at (by simp)))))) (num_rd (at_lo (at_lo (at_lo (at_lo (at_lo hg))))))),
    below_al (below_al (below_al (below_al (below_al (Below.refl _ _) _) _) _) _) _⟩
/-- So with a count below nought. -/
def negW (w1 : World) (c m : Int) : World :=
  ((((((w1.alloc (.cells #[.int .i64 0] 3)).alloc
    (.cells #[.int .i64 1, .int .i64 m, .string ⟨#[]⟩, .slice none 0 0, .slice none 0 0, .int .i64 9, .int .i64 0, .string ⟨#[]⟩, .slice none 0 0, .slice (some ⟨w1.heap.size, 0, none⟩) 1 1] 35)).alloc
    (.cells #[.int .i64 0, .int .i64 1] 3)).alloc
    (.cells #[.int .i64 1, .int .i64 c, .string ⟨#[]⟩, .slice none 0 0, .slice none 0 0, .int .i64 4, .int .i64 0, .string ⟨#[99, 111, 117, 110, 116, 46, 105, 110, 100, 101, 120]⟩, .slice none 0 0, .slice none 0 0, .int .i64 19, .int .i64 0, .string ⟨#[]⟩, .slice none 0 0, .slice (some ⟨w1.heap.size + 1 + 1, 0, none⟩) 2 2] 35)).alloc
    (.cells #[.string ⟨#[99, 112, 117]⟩, .slice (some ⟨w1.heap.size + 1 + 1 + 1, 0, none⟩) 3 3, .string ⟨#[99, 111, 117, 110, 116]⟩, .slice (some ⟨w1.heap.size + 1, 0, none⟩) 2 2] 26)).alloc
    (.cells #[.int .i64 3, .string ⟨#[119]⟩, .slice (some ⟨w1.heap.size + 1 + 1 + 1 + 1, 0, none⟩) 2 2, .slice none 0 0] 30)).alloc
    (.cells #[.int .i64 3, .string ⟨#[119]⟩, .slice (some ⟨w1.heap.size + 1 + 1 + 1 + 1, 0, none⟩) 2 2, .slice none 0 0] 30)
theorem neg_rdW {w1 : World} {c m : Int} :
    BlksRd 1 (negW w1 c m) (.slice (some ⟨w1.heap.size + 1 + 1 + 1 + 1 + 1 + 1, 0, none⟩) 1 1) [lawB lbW [(kCpu, addN c), (kCount, negN m)]] ∧ Below w1.heap.size w1 (negW w1 c m) :=
  ⟨blks_one (ta := 30) (xs := []) (heap_at (by simp)) (attrs_two (ns := addN c) (ms := negN m) (ac := 2) (at_lo (at_lo (heap_at (by simp)))) (add_rd (at_lo (at_lo (at_lo (at_lo (heap_at (by simp)))))) (at_lo (at_lo (at_lo (heap_at (by simp)))))) (neg_rd (at_lo (at_lo (at_lo (at_lo (at_lo (at_lo (heap_alloc_new w1 _))))))) (at_lo (at_lo (at_lo (at_lo (at_lo (heap_at (by simp))))))))),
    below_al (below_al (below_al (below_al (below_al (below_al (below_al (Below.refl _ _) _) _) _) _) _) _) _⟩
theorem law_ok {c : Int} {ex : List NodeL} (hc : 0 ≤ c ∧ c ≤ 65535) (hx : LawEx ex) : ∀ a ∈ [(kCpu, addN c), (kCount, ex)], (a.1 = kCpu ∨ a.1 = kCount) ∧ LawEx a.2 := fun a ha => by
  simp only [List.mem_cons, List.not_mem_nil, or_false] at ha
  rcases ha with rfl | rfl
  · exact ⟨.inl rfl, c, by omega, .inr (.inr rfl)⟩
  · exact ⟨.inr rfl, hx⟩
section
variable (w : World)
/-- Wants of the law's block. -/
theorem wants_law {c : Int} {ex : List NodeL} (hc : 0 ≤ c ∧ c ≤ 65535) (hx : LawEx ex) {v : Value} (hr : BlksRd 1 w v [lawB lbW [(kCpu, addN c), (kCount, ex)]]) (ht : TabOK w) (he : ErrVar w) :
    Calls Tryz.prog 10 #[v, .slice none 0 0] w (WantsTold w (wants0 lawV [lawB lbW [(kCpu, addN c), (kCount, ex)]])) :=
  pwants0 w 0 _ _ hr (blks_ok (by simp) (by decide) (by decide) (once2 _ _) (law_ok hc hx)) ht he (fun b hb => by obtain rfl := List.mem_singleton.1 hb; rfl) lawV (fun b hb => by obtain rfl := List.mem_singleton.1 hb; exact node_ok (by simp) (by decide) (law_ok hc hx))
end
end Go.Proofs.YtndeihmclecmcaaGreatDoor
namespace Go.Proofs.YtndeihmclecmcaaGreatDoor
open Go.RowKit
set_option linter.unusedVariables false
set_option linter.unusedSimpArgs false
theorem all_take {α : Type} {p : α → Bool} {l : List α} {j : Nat} {b : α} (h : l[j]? = some b) (k : (l.take j).all p = true) : (l.take (j + 1)).all p = p b := by
  rw [take_snoc h, List.all_append, k]; simp
section
variable (w : World)
set_option maxHeartbeats 1000000 in
set_option maxRecDepth 20000 in
theorem pallMay (D : Nat) (bv : Value) (bs : List (ByteArray × VL)) (h : BindsRd w D bv bs) (hl : bs.length ≤ 1000) (hm : ∀ b ∈ bs, mayB 64 b.2 = true) :
    Calls Tryz.prog 16 #[bv] w (Made (.bool true) w) := by
  have H := Lib.hid h
  have HM := Lib.hid hm
  obtain ⟨ao, cap, rfl, -⟩ := h
  clear hm
  go_enter Tryz.func16, Tryz.ntmps16
  go_wp2_with fail
  go_loopg [7] bs.length (fun m v wr => ∃ j : Nat, v = .int .i64 j ∧ bs.length - j ≤ m ∧ j ≤ bs.length ∧ Hid (Below w.heap.size w wr))
  case atStart => exact ⟨0, rfl, Nat.le_refl _, Nat.zero_le _, Lib.hid (Below.refl _ _)⟩
  case round =>
    obtain ⟨j, rfl, hm, hj, B⟩ := hrel
    have HX := Lib.hid hm
    clear hm
    by_cases hjl : j < bs.length
    · obtain ⟨b, hb⟩ : ∃ b, bs[j]? = some b := ⟨_, List.getElem?_eq_getElem hjl⟩
      have MB := Lib.hid (HM.out b (List.mem_of_getElem? hb))
      obtain ⟨ao2, cap2, e2, hat⟩ := H.out.below B.out
      simp at e2
      obtain ⟨rfl, rfl⟩ := e2
      obtain ⟨g, o, bo, bc, rfl, c0, c1, c2, c3, c4, hr⟩ := hat j b hb
      have BA := Lib.hid (below_al (Below.refl wr.heap.size wr) (.cells #[.string b.1, .int .i64 b.2.kind, .int .i64 b.2.num, .string b.2.text, .slice bo b.2.kids.length bc] 41))
      have HR := Lib.hid (hr.below BA.out)
      have B1 := Lib.hid (below_tr B.out BA.out)
      clear hat hb hr BA
      go_wp2_with fail
      refine (vMay _ D b.2 _ HR.out).mono ?_
      rintro e w1 ⟨rfl, hb1⟩
      have B2 := Lib.hid (below_tr B1.out hb1)
      clear hb1
      rw [MB.out]
      go_wp2_with fail
      go_roundg (bs.length - (j + 1))
      case rel => exact ⟨j + 1, rfl, Nat.le_refl _, hjl, B2⟩
      case measure => have := HX.out; omega
    · have hz : j = bs.length := by omega
      subst hz
      go_wp2_with fail
      go_ret
      exact ⟨rfl, B.out⟩
set_option maxHeartbeats 1000000 in
set_option maxRecDepth 20000 in
theorem pnamesOf (bv : Value) (bs : List (ByteArray × VL)) (h : BindsRd w 0 bv bs) (hl : bs.length ≤ 100000) (hi : ∀ b ∈ bs, I64 b.2.num ∧ b.1.size ≤ 281474976710656) :
    Calls Tryz.prog 18 #[bv] w fun e w' => e = .returned (.map (some w.heap.size)) ∧ Below w.heap.size w w' ∧ ∃ n, n ≤ bs.length ∧ ScopeAt w' 0 w.heap.size n (lookL bs) := by
  have H := Lib.hid h
  have HI := Lib.hid hi
  have G0 := Lib.hid (ScopeAt.new w 0)
  have BM := Lib.hid (show Below w.heap.size w (w.alloc (.map #[] 0)) from below_al (Below.refl _ _) _)
  obtain ⟨ao, cap, rfl, -⟩ := h
  clear hi
  have hmm := @run_makeMap Tryz.prog
  go_enter Tryz.func18, Tryz.ntmps18
  go_wp2_with fail
  go_loopg [9] bs.length (fun m v wr => ScopeRel w 0 w.heap.size bs m v wr)
  case atStart => exact ⟨0, rfl, Nat.le_refl _, Nat.zero_le _, G0.out, BM.out⟩
  case round =>
    obtain ⟨j, rfl, hm, hj, hs, hb⟩ := hrel
    have HM := Lib.hid hm
    have B := Lib.hid hb
    have HS := Lib.hid hs
    have hgl := hs.lt
    clear hm hb hs
    by_cases hjl : j < bs.length
    · obtain ⟨b, hb⟩ : ∃ b, bs[j]? = some b := ⟨_, List.getElem?_eq_getElem hjl⟩
      obtain ⟨hi1, hi2⟩ := HI.out b (List.mem_of_getElem? hb)
      have I1 := Lib.hid hi1
      have I2 := Lib.hid (show b.1.size ≤ maxLen by unfold maxLen; omega)
      have TK := Lib.hid (take_snoc hb)
      obtain ⟨ao2, cap2, e2, hat⟩ := H.out.below B.out
      simp at e2
      obtain ⟨rfl, rfl⟩ := e2
      obtain ⟨g, o, bo, bc, rfl, c0, c1, c2, c3, c4, hr⟩ := hat j b hb
      have BA := Lib.hid (below_al (Below.refl wr.heap.size wr) (.cells #[.string b.1, .int .i64 b.2.kind, .int .i64 b.2.num, .string b.2.text, .slice bo b.2.kids.length bc] 41))
      have HR := Lib.hid (hr.below BA.out)
      have S1 := Lib.hid (HS.out.below BA.out)
      have B1 := Lib.hid (below_tr B.out BA.out)
      have hz1 := BA.out.size
      clear hat hi1 hi2 hb hr
      go_wp2_with fail
      have K := heap_alloc_new wr (.cells #[.string b.1, .int .i64 b.2.kind, .int .i64 b.2.num, .string b.2.text, .slice bo b.2.kids.length bc] 41)
      generalize wr.alloc (.cells #[.string b.1, .int .i64 b.2.kind, .int .i64 b.2.num, .string b.2.text, .slice bo b.2.kids.length bc] 41) = w1 at *
      have HV := Lib.hid (phave w1 _ _ _ S1.out b.1 I2.out)
      refine HV.out.mono ?_
      rintro e w2 ⟨rfl, hb2⟩
      have S2 := Lib.hid (S1.out.below hb2)
      have R2 := Lib.hid (HR.out.below hb2)
      have B2 := Lib.hid (below_tr B1.out hb2)
      have K2 := (hb2.block _ (Array.getElem?_eq_some_iff.1 K).1).trans K
      have q0 := cell_of_row _ _ 0 _ _ _ K2
      have q1 := cell_of_row _ _ 1 _ _ _ K2
      have q2 := cell_of_row _ _ 2 _ _ _ K2
      have q3 := cell_of_row _ _ 3 _ _ _ K2
      have q4 := cell_of_row _ _ 4 _ _ _ K2
      simp at q0 q1 q2 q3 q4
      clear hb2 K K2 HV BA
      cases hL : lookL (bs.take j) b.1 with
      | some v =>
        have NX := Lib.hid (show lookL (bs.take (j + 1)) = lookL (bs.take j) by rw [TK.out]; exact lookL_snoc_have hL)
        clear hL
        go_wp2_with fail
        go_roundg (bs.length - (j + 1))
        case rel => exact ⟨j + 1, rfl, Nat.le_refl _, hjl, by rw [NX.out]; exact S2.out.mono (Nat.le_succ j), B2.out⟩
        case measure => have := HM.out; omega
      | none =>
        have NX := Lib.hid (show lookL (bs.take (j + 1)) = fun x => if x = b.1 then some b.2 else lookL (bs.take j) x by rw [TK.out]; exact lookL_snoc_new hL)
        obtain ⟨d, hm, hx⟩ := S2.out
        have M2 := Lib.hid hm
        have HX := Lib.hid hx
        clear hL hm hx
        go_wp2_with (at_mapUpdate; refine wpList_mapUpdate_own _ rfl _ _ _ 69 rfl 9 39 strKeyed Tryz.underlying69 heldV w.heap.size j d rfl M2.out (by unfold maxLen; omega) (.string b.1) (b.2.val (.slice bo b.2.kids.length bc)) (keyLit b.1) rfl rfl (Go.WideMaps.keyOf_string_mk Tryz.underlying9 I2.out) _ [] rfl ?_; intro w3 hown1 hgrow1)
        have BW := Lib.hid (show Below w.heap.size w w3 from Below.grown B2.out hgrow1 (by have := B2.out.size; omega) (fun k hk => by simp at hk; omega))
        have SW := Lib.hid (show ScopeAt w3 0 w.heap.size (j + 1) (lookL (bs.take (j + 1))) by
          rw [NX.out]
          exact ScopeAt.put M2.out HX.out hown1 hgrow1 I1.out R2.out)
        clear hown1 hgrow1
        go_wp2_with fail
        go_roundg (bs.length - (j + 1))
        case rel => exact ⟨j + 1, rfl, Nat.le_refl _, hjl, SW.out, BW.out⟩
        case measure => have := HM.out; omega
    · have hz : j = bs.length := by omega
      subst hz
      go_wp2_with fail
      go_ret
      exact ⟨rfl, B.out, bs.length, Nat.le_refl _, by have := HS.out; rwa [List.take_length] at this⟩
end
end Go.Proofs.YtndeihmclecmcaaGreatDoor
namespace Go.Proofs.YtndeihmclecmcaaGreatDoor
open Go.RowKit
set_option linter.unusedVariables false
set_option linter.unusedSimpArgs false
/-- 'type', 'default', 'int'. -/
def kType : ByteArray := ⟨#[116, 121, 112, 101]⟩
def kDefault : ByteArray := ⟨#[100, 101, 102, 97, 117, 108, 116]⟩
def kInt : ByteArray := ⟨#[105, 110, 116]⟩
section
variable (w : World)
set_option maxHeartbeats 2000000 in
set_option maxRecDepth 20000 in
theorem ptypeOf (b : BlkL) (ato : Option Addr) (atc : Nat) (bo : Option Addr) (bc : Nat) (ha : AttrsRd w (.slice ato b.attrs.length atc) b.attrs) (hl : b.attrs.length ≤ 1000) (hz : ∀ a ∈ b.attrs, a.1.size ≤ 100000)
    (n : NodeL) (p : PartL) (ht : attrL b.attrs kType = some [n]) (hn : n.parts = [p]) (hp : p = (false, kInt)) :
    Calls Tryz.prog 48 #[blkV b ato atc bo bc] w (Made (.tuple #[.string kInt, .bool true]) w) := by
  have PA := Lib.hid (fun W (hW : Below w.heap.size w W) => pattribute W b ato atc bo bc (ha.below hW) hl hz kType (by show (4 : Nat) ≤ _; omega))
  have B0 := Lib.hid (below_al (Below.refl w.heap.size w) (.cells #[.int .i64 b.kind, .string b.label, .slice ato b.attrs.length atc, .slice bo b.blocks.length bc] 30))
  have HT := Lib.hid ht
  subst hp
  have HN := Lib.hid hn
  clear ha ht hn
  unfold blkV at *
  go_enter Tryz.func48, Tryz.ntmps48
  go_wp2_with fail
  refine ((PA.out _ ?_)).mono ?_
  · first | exact Below.refl _ _ | exact B0.out
  rintro e w1 ⟨hb1, hm⟩
  rw [HT.out] at hm
  obtain ⟨nv, rfl, hr⟩ := hm
  obtain ⟨no, nc, rfl, hat⟩ := hr.at
  obtain ⟨g, o, pv, kv, rfl, hp, -, c0, c1, c2, c3, c4⟩ := hat 0 n rfl
  obtain ⟨po, pc, rfl, hpt⟩ := hp.at
  rw [HN.out] at c3 hpt
  obtain ⟨gp, op, rfl, d0, d1⟩ := hpt 0 _ rfl
  simp only [Nat.zero_mul, Nat.add_zero] at c0 c1 c2 c3 c4 d0 d1
  have B1 := Lib.hid hb1
  clear hat hpt hr hb1
  unfold kInt at d1 ⊢
  go_wp2_with fail
  exact bodyPost_ret (v := .tuple #[.string ⟨#[105, 110, 116]⟩, .bool true]) (by simp [results, Tryz.results48, go_sem]) rfl ⟨rfl, below_tr B0.out B1.out⟩
end
/-- What a variable's value is: its input, or else its default. -/
def inputR (fi : ByteArray → Option VL) (D : List NodeL → VL × Int) (b : BlkL) : VL × Int :=
  match fi b.label with
  | some v => (v, 0)
  | none => match attrL b.attrs kDefault with
    | none => (vz, 2)
    | some ns => D ns
/-- A value without a list, an error. -/
def InTold (r : VL × Int) (w : World) (e : Ending) (w' : World) : Prop := ∃ lo lc, e = .returned (.tuple #[.agg #[.int .i64 r.1.kind, .int .i64 r.1.num, .string r.1.text, .slice lo 0 lc], .int .i64 r.2]) ∧ Below w.heap.size w w'
theorem look_names {W : World} {g n : Nat} {d : DataW Value} (h : W.ownsMap Tryz.prog 9 heldV g n d) {s : ByteArray} (hs : s.size ≤ maxLen) {v : Value} {hb : Bool} (hat : d.atKey (keyLit s) (.held zeroV) = .held v) (hh : Maps.has d (keyLit s) = hb) :
    (Instr.lookup 69 (.map (some g)) (.string s) true).run Tryz.prog W = .ok (.tuple #[v, .bool hb]) W := by
  obtain ⟨v', ps, hrun, hv⟩ := World.ownsMap.look_ok h strKeyed Tryz.underlying69 (zeroVal_run W) (R := heldV) (zd := .held zeroV) (zp := []) rfl (Go.WideMaps.keyOf_string_mk Tryz.underlying9 hs)
  rw [show Lit.string s.data.toList = keyLit s from rfl, hat] at hv
  simp only [heldV, Option.some.injEq, Prod.mk.injEq, DataW.held.injEq] at hv
  rw [show Lit.string s.data.toList = keyLit s from rfl, hv.1, hh] at hrun
  exact hrun
section
variable (w : World)
set_option maxHeartbeats 2000000 in
set_option maxRecDepth 20000 in
theorem pinput (p gi gn ni : Nat) (ar : Value) (lb pf : ByteArray) (bv : Value) (fi : ByteArray → Option VL) (hs : ScAt w p ar lb bv pf gi gn) (hf : ScopeAt w 0 gi ni fi) (D : List NodeL → VL × Int)
    (b : BlkL) (ato : Option Addr) (atc : Nat) (bo : Option Addr) (bc : Nat) (ha : AttrsRd w (.slice ato b.attrs.length atc) b.attrs) (hl : b.attrs.length ≤ 1000) (hz : ∀ a ∈ b.attrs, a.1.size ≤ 100000) (hlb : b.label.size ≤ 100000)
    (hd : ∀ ns, attrL b.attrs kDefault = some ns → Worth (fun _ => none) [] ns (D ns)) (ht : TabOK w) (he : ErrVar w) :
    Calls Tryz.prog 50 #[.pointer (some ⟨p, 0, none⟩), blkV b ato atc bo bc] w (InTold (inputR fi D b) w) := by
  have PA := Lib.hid (fun W (hW : Below w.heap.size w W) => pattribute W b ato atc bo bc (ha.below hW) hl hz kDefault (by show (7 : Nat) ≤ _; omega))
  have B0 := Lib.hid (below_al (Below.refl w.heap.size w) (.cells #[.int .i64 b.kind, .string b.label, .slice ato b.attrs.length atc, .slice bo b.blocks.length bc] 30))
  have SC := Lib.hid hs
  have HF := Lib.hid hf
  have HD := Lib.hid hd
  have HT := Lib.hid ht
  have HE := Lib.hid he
  have HL := Lib.hid (show b.label.size ≤ maxLen by unfold maxLen; omega)
  clear ha hd ht he
  unfold blkV at *
  have c4w := hs.cells.2.2.2.2.1
  have NB := Lib.hid (heap_alloc_new w (.cells #[.int .i64 b.kind, .string b.label, .slice ato b.attrs.length atc, .slice bo b.blocks.length bc] 30))
  have BV := Lib.hid (below_al (Below.refl (w.alloc (.cells #[.int .i64 b.kind, .string b.label, .slice ato b.attrs.length atc, .slice bo b.blocks.length bc] 30)).heap.size (w.alloc (.cells #[.int .i64 b.kind, .string b.label, .slice ato b.attrs.length atc, .slice bo b.blocks.length bc] 30))) (.cells #[.int .i64 0, .int .i64 0, .string ⟨#[]⟩, .slice none 0 0] 39))
  have B1 := Lib.hid (below_tr B0.out BV.out)
  have N1 := Lib.hid (at_lo (o' := .cells #[.int .i64 0, .int .i64 0, .string ⟨#[]⟩, .slice none 0 0] 39) NB.out)
  have NV := Lib.hid (show NBlk ((w.alloc (.cells #[.int .i64 b.kind, .string b.label, .slice ato b.attrs.length atc, .slice bo b.blocks.length bc] 30)).alloc (.cells #[.int .i64 0, .int .i64 0, .string ⟨#[]⟩, .slice none 0 0] 39)) (w.heap.size + 1) 0 0 ⟨#[]⟩ from heap_at (by simp))
  have SZ := Lib.hid (show ((w.alloc (.cells #[.int .i64 b.kind, .string b.label, .slice ato b.attrs.length atc, .slice bo b.blocks.length bc] 30)).alloc (.cells #[.int .i64 0, .int .i64 0, .string ⟨#[]⟩, .slice none 0 0] 39)).heap.size = w.heap.size + 2 by simp)
  go_enter Tryz.func50, Tryz.ntmps50
  go_upto_region 1 with fail
  generalize (w.alloc (.cells #[.int .i64 b.kind, .string b.label, .slice ato b.attrs.length atc, .slice bo b.blocks.length bc] 30)).alloc (.cells #[.int .i64 0, .int .i64 0, .string ⟨#[]⟩, .slice none 0 0] 39) = wx at *
  have BZ := Lib.hid (below_al (Below.refl wx.heap.size wx) (.cells #[.int .i64 0, .int .i64 0, .string ⟨#[]⟩, .slice none 0 0] 39))
  have c4 := hold B1.out c4w
  have c4z := hold BZ.out c4
  have b1 := cell_of_row _ _ 1 _ _ _ N1.out
  simp at b1
  have b1z := hold BZ.out b1
  obtain ⟨d, hm, hx⟩ := hf.below B1.out
  have m1 : wx.drew.ownsMap Tryz.prog 9 heldV gi ni d := hm
  have m2 : (wx.alloc (.cells #[.int .i64 0, .int .i64 0, .string ⟨#[]⟩, .slice none 0 0] 39)).drew.ownsMap Tryz.prog 9 heldV gi ni d := World.ownsMap.alloc hm _
  cases hL : fi b.label with
  | some v =>
    obtain ⟨h1, hi, lv, h2, h3⟩ := (hx b.label).2 v hL
    obtain ⟨hk, lo, lc, rfl⟩ := h3
    have E := Lib.hid (show inputR fi D b = (v, 0) by unfold inputR; rw [hL])
    unfold VL.val at h2
    have lk1 := look_names m1 HL.out h2 h1
    have lk2 := look_names m2 HL.out h2 h1
    have BV2 := Lib.hid (below_al (Below.refl wx.heap.size wx) (.cells #[.int .i64 v.kind, .int .i64 v.num, .string v.text, .slice lo 0 lc] 39))
    obtain ⟨⟨e0, e1, e2, e3, e4⟩, f0, f1, f2, f3⟩ := (NV.out.below BV2.out).full
    have HB := Lib.hid (below_tr B1.out BV2.out)
    have HW := Lib.hid (below_set4 HB.out (g := w.heap.size + 1) (by omega) (.int .i64 v.kind) (.int .i64 v.num) (.string v.text) (.slice lo 0 lc))
    clear hs hf hx hm hL h1 h2 m1 m2
    go_region_with fail
    all_goals (
      go_wp2_with fail
      refine bodyPost_ret (v := .tuple #[.agg #[.int .i64 v.kind, .int .i64 v.num, .string v.text, .slice lo 0 lc], .int .i64 0]) ?_ rfl ⟨lo, lc, by rw [E.out], by first | exact HW.out | exact below_drew HW.out⟩
      simp [results, Tryz.results50, go_sem, e0, e1, e2, e3, e4, f0, f1, f2, f3])
  | none =>
    obtain ⟨h1, h2⟩ := (hx b.label).1 hL
    have E := Lib.hid (show inputR fi D b = (match attrL b.attrs kDefault with | none => (vz, 2) | some ns => D ns) by unfold inputR; rw [hL])
    unfold zeroV at h2
    have lk1 := look_names m1 HL.out h2 h1
    have lk2 := look_names m2 HL.out h2 h1
    clear hf hx hm hL h1 h2 m1 m2
    have BV2 := Lib.hid (below_al (Below.refl wx.heap.size wx) (.cells #[.int .i64 0, .int .i64 0, .string ⟨#[]⟩, .slice none 0 0] 39))
    have N2 := Lib.hid (NV.out.below (below_drew BV2.out))
    have HB := Lib.hid (below_tr B1.out (below_drew BV2.out))
    have b0 := cell_of_row _ _ 0 _ _ _ N1.out
    have b2 := cell_of_row _ _ 2 _ _ _ N1.out
    have b3 := cell_of_row _ _ 3 _ _ _ N1.out
    simp at b0 b2 b3
    have b0z := hold BZ.out b0
    have b2z := hold BZ.out b2
    have b3z := hold BZ.out b3
    go_region_with fail
    all_goals (
      go_wp2_with fail
      refine ((PA.out _ ?_)).mono ?_
      · exact HB.out
      rintro e w1 ⟨hb1, hm1⟩
      have N3 := Lib.hid (N2.out.below hb1)
      have B3 := Lib.hid (below_tr HB.out hb1)
      clear hb1
      cases hA : attrL b.attrs kDefault with
      | none =>
        rw [hA] at hm1 E
        obtain rfl := hm1
        obtain ⟨⟨e0, e1, e2, e3, e4⟩, f0, f1, f2, f3⟩ := N3.out.full
        have HW := Lib.hid (below_set4 B3.out (g := w.heap.size + 1) (by omega) (.int .i64 0) (.int .i64 0) (.string ⟨#[]⟩) (.slice none 0 0))
        go_wp2_with fail
        refine bodyPost_ret (v := .tuple #[.agg #[.int .i64 0, .int .i64 0, .string ⟨#[]⟩, .slice none 0 0], .int .i64 2]) ?_ rfl ⟨none, 0, by rw [E.out]; rfl, by first | exact HW.out | exact below_drew HW.out | exact B3.out⟩
        simp [results, Tryz.results50, go_sem, e0, e1, e2, e3, e4, f0, f1, f2, f3]
      | some ns =>
        have WD := Lib.hid (HD.out ns hA)
        rw [hA] at hm1 E
        obtain ⟨nv, rfl, hr⟩ := hm1
        obtain ⟨M, hwk⟩ := WD.out.walk
        rw [asked_none, List.append_nil] at hwk
        have PX := Lib.hid (pexpr_yes w1 TabOK (HT.out.below B3.out) nv (.slice none 0 0) ns [] M (D ns) hr WD.out.few (HE.out.below B3.out HE.out.lt) WD.out.tree (binds_nil _ _ _ _) (Nat.zero_le _) (fun b hb => by cases hb) hwk)
        obtain ⟨no, nc, rfl, -⟩ := hr.at
        clear hr hwk hA
        go_wp2_with fail
        refine PX.out.mono ?_
        rintro e w4 ⟨rfl, hb4⟩
        obtain ⟨⟨e0, e1, e2, e3, e4⟩, f0, f1, f2, f3⟩ := (N3.out.below hb4).full
        have B4 := Lib.hid (below_tr B3.out hb4)
        have HW := Lib.hid (below_set4 B4.out (g := w.heap.size + 1) (by omega) (.int .i64 (D ns).1.kind) (.int .i64 (D ns).1.num) (.string (D ns).1.text) (.slice none 0 0))
        generalize D ns = rd at *
        clear hb4 PX
        go_wp2_with fail
        refine bodyPost_ret (v := .tuple #[.agg #[.int .i64 rd.1.kind, .int .i64 rd.1.num, .string rd.1.text, .slice none 0 0], .int .i64 rd.2]) ?_ rfl ⟨none, 0, by rw [E.out], by first | exact HW.out | exact below_drew HW.out⟩
        simp [results, Tryz.results50, go_sem, e0, e1, e2, e3, e4, f0, f1, f2, f3])
end
end Go.Proofs.YtndeihmclecmcaaGreatDoor
namespace Go.Proofs.YtndeihmclecmcaaGreatDoor
open Go.RowKit
set_option linter.unusedVariables false
set_option linter.unusedSimpArgs false
section
variable (w : World)
/-- The type's name. -/
def typeT (v : VL) : ByteArray := if v.kind = 1 then ⟨#[105, 110, 116]⟩ else if v.kind = 2 then ⟨#[115, 116, 114, 105, 110, 103]⟩ else if v.kind = 3 then ⟨#[98, 111, 111, 108]⟩ else ⟨#[108, 105, 115, 116]⟩
set_option maxHeartbeats 4000000 in
theorem vtypeW (v : VL) (lao : Option Addr) (ln lcap : Nat) (hk : v.kind = 1 ∨ v.kind = 2 ∨ v.kind = 3 ∨ v.kind = 4) :
    Calls Tryz.prog 51 #[.agg #[.int .i64 v.kind, .int .i64 v.num, .string v.text, .slice lao ln lcap]] w (Made (.string (typeT v)) w) := by
  rcases hk with h | h | h | h
  · have E := Lib.hid (show typeT v = ⟨#[105, 110, 116]⟩ from if_pos h)
    rw [E.out]
    have g1 : (v.kind == 1) = true := by simp [h]
    have g2 : (v.kind == 2) = false := by simp [h]
    have g3 : (v.kind == 3) = false := by simp [h]
    have g4 : (v.kind == 4) = false := by simp [h]
    clear h
    go_enter Tryz.func51, Tryz.ntmps51
    go_wp2_with fail
    go_ret
    exact ⟨rfl, below_al (Below.refl _ _) _⟩
  · have E := Lib.hid (show typeT v = ⟨#[115, 116, 114, 105, 110, 103]⟩ by unfold typeT; rw [if_neg (by omega), if_pos h])
    rw [E.out]
    have g1 : (v.kind == 1) = false := by simp [h]
    have g2 : (v.kind == 2) = true := by simp [h]
    have g3 : (v.kind == 3) = false := by simp [h]
    have g4 : (v.kind == 4) = false := by simp [h]
    clear h
    go_enter Tryz.func51, Tryz.ntmps51
    go_wp2_with fail
    go_ret
    exact ⟨rfl, below_al (Below.refl _ _) _⟩
  · have E := Lib.hid (show typeT v = ⟨#[98, 111, 111, 108]⟩ by unfold typeT; rw [if_neg (by omega), if_neg (by omega), if_pos h])
    rw [E.out]
    have g1 : (v.kind == 1) = false := by simp [h]
    have g2 : (v.kind == 2) = false := by simp [h]
    have g3 : (v.kind == 3) = true := by simp [h]
    have g4 : (v.kind == 4) = false := by simp [h]
    clear h
    go_enter Tryz.func51, Tryz.ntmps51
    go_wp2_with fail
    go_ret
    exact ⟨rfl, below_al (Below.refl _ _) _⟩
  · have E := Lib.hid (show typeT v = ⟨#[108, 105, 115, 116]⟩ by unfold typeT; rw [if_neg (by omega), if_neg (by omega), if_neg (by omega)])
    rw [E.out]
    have g1 : (v.kind == 1) = false := by simp [h]
    have g2 : (v.kind == 2) = false := by simp [h]
    have g3 : (v.kind == 3) = false := by simp [h]
    have g4 : (v.kind == 4) = true := by simp [h]
    clear h
    go_enter Tryz.func51, Tryz.ntmps51
    go_wp2_with fail
    go_ret
    exact ⟨rfl, below_al (Below.refl _ _) _⟩
end
theorem gr_of {w w' : World} {x : Option Nat} (h : Below w.heap.size w w') : w.grownBy w' x := ⟨h.os, h.tape, h.output, h.size, fun k hk _ => h.block k hk⟩
/-- 'var.' -/
def kVar : ByteArray := ⟨#[118, 97, 114, 46]⟩
def varNames : List ByteArray := [kType, kDefault]
/-- What a variable of numbers comes to: an error, the names behind it. -/
def varR (fi : ByteArray → Option VL) (D : List NodeL → VL × Int) (b : BlkL) (L : ByteArray → Option VL) : Int × (ByteArray → Option VL) :=
  if (L (kVar ++ b.label)).isSome then (3, L)
  else if (inputR fi D b).2 ≠ 0 then ((inputR fi D b).2, L)
  else if (inputR fi D b).1.kind ≠ 1 then (7, L)
  else (0, fun x => if x = kVar ++ b.label then some (inputR fi D b).1 else L x)
theorem varNames_rd {w : World} {g : Nat} (h : w.heap[g]? = some (.cells #[.string ⟨#[116, 121, 112, 101]⟩, .string ⟨#[100, 101, 102, 97, 117, 108, 116]⟩] 9 (0, 0))) : TextsRd w (.slice (some ⟨g, 0, none⟩) 2 2) varNames := by
  refine ⟨g, 0, 2, rfl, fun i x hi => ?_⟩
  match i, hi with
  | 0, hi => cases hi; exact cell_of_row _ _ 0 _ _ _ h
  | 1, hi => cases hi; exact cell_of_row _ _ 1 _ _ _ h
  | n + 2, hi => simp [varNames] at hi
/-- So many names behind it. -/
def cntN (e : Int) (n : Nat) : Nat := if e = 0 then n + 1 else n
theorem cntN_ne {e : Int} {n : Nat} (h : ¬ e = 0) : cntN e n = n := if_neg h
/-- What a variable asks: attributes of a variable, its type int. -/
structure VarOK (b : BlkL) : Prop where
  few : b.attrs.length ≤ 1000
  size : ∀ a ∈ b.attrs, a.1.size ≤ 100000
  label : b.label.size ≤ 100000
  type : ∃ n p, attrL b.attrs kType = some [n] ∧ n.parts = [p] ∧ p = (false, kInt)
  only : onlyB b.attrs varNames = true
section
variable (w : World)
set_option maxHeartbeats 4000000 in
set_option maxRecDepth 20000 in
theorem pvariable (p gi gn ni nn : Nat) (ar : Value) (lb pf : ByteArray) (bv : Value) (fi L : ByteArray → Option VL) (hs : ScAt w p ar lb bv pf gi gn) (hf : ScopeAt w 0 gi ni fi) (hn : ScopeAt w 0 gn nn L) (hnn : nn ≤ 1000) (hne : gi ≠ gn) (hpn : p ≠ gn) (D : List NodeL → VL × Int)
    (b : BlkL) (ato : Option Addr) (atc : Nat) (bo : Option Addr) (bc : Nat) (ha : AttrsRd w (.slice ato b.attrs.length atc) b.attrs) (hb : VarOK b)
    (hd : ∀ ns, attrL b.attrs kDefault = some ns → Worth (fun _ => none) [] ns (D ns)) (hk : (inputR fi D b).2 = 0 → (inputR fi D b).1.kids = [] ∧ I64 (inputR fi D b).1.num ∧ 1 ≤ (inputR fi D b).1.kind ∧ (inputR fi D b).1.kind ≤ 4) (ht : TabOK w) (he : ErrVar w) :
    Calls Tryz.prog 33 #[.pointer (some ⟨p, 0, none⟩), blkV b ato atc bo bc] w fun e w' => e = .returned (.int .i64 (varR fi D b L).1) ∧ w.grownBy w' (some gn) ∧ ScopeAt w' 0 gn (cntN (varR fi D b L).1 nn) (varR fi D b L).2 := by
  have B0 := Lib.hid (below_al (Below.refl w.heap.size w) (.cells #[.int .i64 b.kind, .string b.label, .slice ato b.attrs.length atc, .slice bo b.blocks.length bc] 30))
  have SC := Lib.hid hs
  have HF := Lib.hid hf
  have HN := Lib.hid hn
  have HA := Lib.hid ha
  have HB := Lib.hid hb
  have HD := Lib.hid hd
  have HK := Lib.hid hk
  have HT := Lib.hid ht
  have HE := Lib.hid he
  clear hs hf hn ha hb hd hk ht he
  go_enter Tryz.func33, Tryz.ntmps33
  unfold blkV
  go_wp2_with fail
  have NB := Lib.hid (heap_alloc_new w (.cells #[.int .i64 b.kind, .string b.label, .slice ato b.attrs.length atc, .slice bo b.blocks.length bc] 30))
  generalize w.alloc (.cells #[.int .i64 b.kind, .string b.label, .slice ato b.attrs.length atc, .slice bo b.blocks.length bc] 30) = wa at *
  obtain ⟨n, pp, ht1, ht2, ht3⟩ := HB.out.type
  have PT := Lib.hid (ptypeOf wa b ato atc bo bc (HA.out.below B0.out) HB.out.few HB.out.size n pp ht1 ht2 ht3)
  clear ht1 ht2 ht3
  unfold blkV at PT
  refine PT.out.mono ?_
  rintro e w1 ⟨rfl, hb1⟩
  have B1 := Lib.hid (below_tr B0.out hb1)
  have N1 := Lib.hid ((hb1.block _ (Array.getElem?_eq_some_iff.1 NB.out).1).trans NB.out)
  have b0 := cell_of_row _ _ 0 _ _ _ N1.out
  have b1 := cell_of_row _ _ 1 _ _ _ N1.out
  have b2 := cell_of_row _ _ 2 _ _ _ N1.out
  have b3 := cell_of_row _ _ 3 _ _ _ N1.out
  simp at b0 b1 b2 b3
  clear PT hb1 NB
  unfold kInt
  go_wp2_with fail
  have BX := Lib.hid (below_al (Below.refl w1.heap.size w1) (.cells #[.string ⟨#[116, 121, 112, 101]⟩, .string ⟨#[100, 101, 102, 97, 117, 108, 116]⟩] 9))
  have TX := Lib.hid (varNames_rd (heap_alloc_new w1 (.cells #[.string ⟨#[116, 121, 112, 101]⟩, .string ⟨#[100, 101, 102, 97, 117, 108, 116]⟩] 9)))
  have PO := Lib.hid (ponly (w1.alloc (.cells #[.string ⟨#[116, 121, 112, 101]⟩, .string ⟨#[100, 101, 102, 97, 117, 108, 116]⟩] 9)) b ato atc bo bc (HA.out.below (below_tr B1.out BX.out)) HB.out.few _ varNames TX.out (by decide))
  unfold blkV at PO
  rw [HB.out.only] at PO
  refine PO.out.mono ?_
  rintro e w2 ⟨rfl, hb2⟩
  have B2 := Lib.hid (below_tr (below_tr B1.out BX.out) hb2)
  have N2 := Lib.hid ((hb2.block _ (Array.getElem?_eq_some_iff.1 (at_lo N1.out)).1).trans (at_lo N1.out))
  clear b0 b1 b2 b3
  have b0 := cell_of_row _ _ 0 _ _ _ N2.out
  have b1 := cell_of_row _ _ 1 _ _ _ N2.out
  have b2 := cell_of_row _ _ 2 _ _ _ N2.out
  have b3 := cell_of_row _ _ 3 _ _ _ N2.out
  simp at b0 b1 b2 b3
  have hlb : (⟨#[118, 97, 114, 46]⟩ : ByteArray).size + b.label.size ≤ 9223372036854775807 := by have := HB.out.label; have : (⟨#[118, 97, 114, 46]⟩ : ByteArray).size = 4 := rfl; omega
  have hlb' : 4 + b.label.size ≤ 9223372036854775807 := by have := HB.out.label; omega
  have s4 : (⟨#[118, 97, 114, 46]⟩ : ByteArray).size = 4 := rfl
  obtain ⟨p0, p1, p2, p3, p4, p5⟩ := (SC.out.below B2.out).cells
  clear PO BX TX hb2 N1
  go_wp2_with fail
  have HV := Lib.hid (phave w2 _ _ _ (HN.out.below B2.out) (kVar ++ b.label) (by rw [ByteArray.size_append]; have : kVar.size = 4 := rfl; have := HB.out.label; unfold maxLen; omega))
  refine HV.out.mono ?_
  rintro e w3 ⟨rfl, hb3⟩
  have B3 := Lib.hid (below_tr B2.out hb3)
  have N3 := Lib.hid ((hb3.block _ (Array.getElem?_eq_some_iff.1 N2.out).1).trans N2.out)
  clear b0 b1 b2 b3 p0 p1 p2 p3 p4 p5 hb3 HV
  have b0 := cell_of_row _ _ 0 _ _ _ N3.out
  have b1 := cell_of_row _ _ 1 _ _ _ N3.out
  have b2 := cell_of_row _ _ 2 _ _ _ N3.out
  have b3 := cell_of_row _ _ 3 _ _ _ N3.out
  simp at b0 b1 b2 b3
  by_cases hL : (L (kVar ++ b.label)).isSome = true
  · have E := Lib.hid (show varR fi D b L = (3, L) by unfold varR; rw [if_pos hL])
    rw [hL]
    clear hL
    go_wp2_with fail
    go_ret
    rw [E.out]
    refine ⟨rfl, gr_of B3.out, ?_⟩
    show ScopeAt _ 0 gn (cntN 3 nn) L
    rw [cntN_ne (by decide)]
    exact HN.out.below B3.out
  · have hLf : (L (kVar ++ b.label)).isSome = false := by simpa using hL
    rw [hLf]
    have HLF := Lib.hid hLf
    clear hL hLf
    go_wp2_with fail
    have PI := Lib.hid (pinput w3 p gi gn ni ar lb pf bv fi (SC.out.below B3.out) (HF.out.below B3.out) D b ato atc bo bc (HA.out.below B3.out) HB.out.few HB.out.size HB.out.label HD.out (HT.out.below B3.out) (HE.out.below B3.out HE.out.lt))
    unfold blkV at PI
    refine PI.out.mono ?_
    rintro e w4 ⟨lo, lc, rfl, hb4⟩
    have B4 := Lib.hid (below_tr B3.out hb4)
    clear hb4 PI b0 b1 b2 b3
    have EV := Lib.hid (show varR fi D b L = if (inputR fi D b).2 ≠ 0 then ((inputR fi D b).2, L) else if (inputR fi D b).1.kind ≠ 1 then (7, L) else (0, fun x => if x = kVar ++ b.label then some (inputR fi D b).1 else L x) by unfold varR; rw [if_neg (by rw [HLF.out]; simp)])
    generalize inputR fi D b = r at *
    by_cases he : r.2 = 0
    · have ge : (r.2 != 0) = false := by simpa using he
      obtain ⟨k0, k1, k2, k3⟩ := HK.out he
      have E1 := Lib.hid (show varR fi D b L = if r.1.kind ≠ 1 then (7, L) else (0, fun x => if x = kVar ++ b.label then some r.1 else L x) by rw [EV.out, if_neg (by simpa using he)])
      have K0 := Lib.hid k0
      have K1 := Lib.hid k1
      have HE0 := Lib.hid he
      clear k0 k1 he EV
      go_wp2_with fail
      have BV := Lib.hid (below_al (Below.refl w4.heap.size w4) (.cells #[.int .i64 r.1.kind, .int .i64 r.1.num, .string r.1.text, .slice lo 0 lc] 39))
      have NV := Lib.hid (heap_alloc_new w4 (.cells #[.int .i64 r.1.kind, .int .i64 r.1.num, .string r.1.text, .slice lo 0 lc] 39))
      have TY := Lib.hid (vtypeW (w4.alloc (.cells #[.int .i64 r.1.kind, .int .i64 r.1.num, .string r.1.text, .slice lo 0 lc] 39)) r.1 lo 0 lc (by omega))
      refine TY.out.mono ?_
      rintro e w5 ⟨rfl, hb5⟩
      have B5 := Lib.hid (below_tr (below_tr B4.out BV.out) hb5)
      have N5 := Lib.hid ((hb5.block _ (Array.getElem?_eq_some_iff.1 NV.out).1).trans NV.out)
      have v0 := cell_of_row _ _ 0 _ _ _ N5.out
      have v1 := cell_of_row _ _ 1 _ _ _ N5.out
      have v2 := cell_of_row _ _ 2 _ _ _ N5.out
      have v3 := cell_of_row _ _ 3 _ _ _ N5.out
      simp at v0 v1 v2 v3
      obtain ⟨p0, p1, p2, p3, p4, p5⟩ := (SC.out.below B5.out).cells
      clear hb5 TY NV BV
      by_cases h1 : r.1.kind = 1
      · have ET : typeT r.1 = ⟨#[105, 110, 116]⟩ := by unfold typeT; rw [if_pos h1]
        rw [ET]
        have E2 := Lib.hid (show varR fi D b L = (0, fun x => if x = kVar ++ b.label then some r.1 else L x) by rw [E1.out, if_neg (by simpa using h1)])
        obtain ⟨d, hm, hx⟩ := HN.out.below B5.out
        have M5 := Lib.hid hm
        have X5 := Lib.hid hx
        clear ET hm hx h1
        obtain ⟨w6, up, hown6, hgrow6⟩ := World.ownsMap.update (w := w5.drew) M5.out strKeyed Tryz.underlying69 (by unfold maxLen; omega) (Go.WideMaps.keyOf_string_mk (s := (⟨#[118, 97, 114, 46]⟩ : ByteArray) ++ b.label) Tryz.underlying9 (by rw [ByteArray.size_append]; have := HB.out.label; unfold maxLen; omega)) (show heldV (.agg #[.int .i64 r.1.kind, .int .i64 r.1.num, .string r.1.text, .slice lo 0 lc]) = some (_, []) from rfl)
        replace hgrow6 : w5.grownBy w6 (some gn) := ⟨hgrow6.os, hgrow6.tape, hgrow6.output, hgrow6.size, hgrow6.block⟩
        have S6 := Lib.hid (ScopeAt.put (v := r.1) (key := kVar ++ b.label) M5.out X5.out hown6 hgrow6 K1.out (show RowRd w5 0 r.1.kids (.slice lo 0 lc) by rw [K0.out]; exact RowRd.nil _ _ _ _))
        have G6 := Lib.hid (grown_trans (gr_of (x := some gn) B5.out) hgrow6)
        clear hown6 hgrow6
        go_wp2_with fail
        go_region_with fail
        all_goals (
          go_wp2
          go_ret
          rw [E2.out]
          exact ⟨rfl, G6.out, S6.out⟩)
      · have E2 := Lib.hid (show varR fi D b L = (7, L) by rw [E1.out, if_pos h1])
        have HN5 := Lib.hid (HN.out.below B5.out)
        have hk : r.1.kind = 2 ∨ r.1.kind = 3 ∨ r.1.kind = 4 := by omega
        rcases hk with hk | hk | hk
        · have ET : typeT r.1 = ⟨#[115, 116, 114, 105, 110, 103]⟩ := by unfold typeT; rw [if_neg (by omega), if_pos hk]
          rw [ET]
          clear ET hk h1
          go_wp2_with fail
          go_ret
          rw [E2.out]
          refine ⟨rfl, gr_of B5.out, ?_⟩
          show ScopeAt _ 0 gn (cntN 7 nn) L
          rw [cntN_ne (by decide)]
          exact HN5.out
        · have ET : typeT r.1 = ⟨#[98, 111, 111, 108]⟩ := by unfold typeT; rw [if_neg (by omega), if_neg (by omega), if_pos hk]
          rw [ET]
          clear ET hk h1
          go_wp2_with fail
          go_ret
          rw [E2.out]
          refine ⟨rfl, gr_of B5.out, ?_⟩
          show ScopeAt _ 0 gn (cntN 7 nn) L
          rw [cntN_ne (by decide)]
          exact HN5.out
        · have ET : typeT r.1 = ⟨#[108, 105, 115, 116]⟩ := by unfold typeT; rw [if_neg (by omega), if_neg (by omega), if_neg (by omega)]
          rw [ET]
          clear ET hk h1
          go_wp2_with fail
          go_ret
          rw [E2.out]
          refine ⟨rfl, gr_of B5.out, ?_⟩
          show ScopeAt _ 0 gn (cntN 7 nn) L
          rw [cntN_ne (by decide)]
          exact HN5.out
    · have ge : (r.2 != 0) = true := by simpa using he
      have E1 := Lib.hid (show varR fi D b L = (r.2, L) by rw [EV.out, if_pos he])
      clear he EV HK
      go_wp2_with fail
      go_ret
      rw [E1.out]
      refine ⟨rfl, gr_of (below_al B4.out _), ?_⟩
      show ScopeAt _ 0 gn (cntN r.2 nn) L
      rw [cntN_ne (by simpa using ge)]
      exact (HN.out.below B4.out).below (below_al (Below.refl _ _) _)
end
end Go.Proofs.YtndeihmclecmcaaGreatDoor
namespace Go.Proofs.YtndeihmclecmcaaGreatDoor
open Go.RowKit
set_option linter.unusedVariables false
set_option linter.unusedSimpArgs false
/-- So many of the blocks have a variable of their label. -/
def cntV (l : List BlkL) (L : ByteArray → Option VL) : Nat := l.countP fun b => (L (kVar ++ b.label)).isSome
theorem countP_lt {α : Type} {p q : α → Bool} : ∀ {l : List α}, (∀ a, p a = true → q a = true) → (∃ a ∈ l, p a = false ∧ q a = true) → l.countP p < l.countP q := by
  intro l
  induction l with
  | nil => rintro - ⟨a, h, -⟩; cases h
  | cons x l ih =>
    rintro h ⟨a, ha, h1, h2⟩
    rw [List.countP_cons, List.countP_cons]
    have hm : l.countP p ≤ l.countP q := List.countP_mono_left fun a _ => h a
    rcases List.mem_cons.1 ha with rfl | ha
    · rw [h1, h2]; simp; omega
    · have := ih h ⟨a, ha, h1, h2⟩
      by_cases hp : p x = true
      · rw [if_pos hp, if_pos (h x hp)]; omega
      · rw [if_neg hp]; omega
theorem cnt_put {l : List BlkL} {L : ByteArray → Option VL} {b : BlkL} {v : VL} (hb : b ∈ l) (h : (L (kVar ++ b.label)).isSome = false) : cntV l L < cntV l (fun x => if x = kVar ++ b.label then some v else L x) := by
  refine countP_lt (fun a ha => ?_) ⟨b, hb, h, by simp⟩
  dsimp only
  split
  · rfl
  · exact ha
theorem cnt_le (l : List BlkL) (L : ByteArray → Option VL) : cntV l L ≤ l.length := List.countP_le_length
theorem varR_cases (fi : ByteArray → Option VL) (D : List NodeL → VL × Int) (b : BlkL) (L : ByteArray → Option VL) : ((varR fi D b L).1 ≠ 0 ∧ (varR fi D b L).2 = L) ∨ ((varR fi D b L).1 = 0 ∧ (L (kVar ++ b.label)).isSome = false ∧ ∃ v, (varR fi D b L).2 = fun x => if x = kVar ++ b.label then some v else L x) := by
  unfold varR
  by_cases h : (L (kVar ++ b.label)).isSome = true
  · rw [if_pos h]; exact .inl ⟨by simp, rfl⟩
  · rw [if_neg h]
    by_cases h2 : (inputR fi D b).2 ≠ 0
    · rw [if_pos h2]; exact .inl ⟨h2, rfl⟩
    · rw [if_neg h2]
      by_cases h3 : (inputR fi D b).1.kind ≠ 1
      · rw [if_pos h3]; exact .inl ⟨by simp, rfl⟩
      · rw [if_neg h3]; exact .inr ⟨rfl, by simpa using h, _, rfl⟩
/-- What stands while variables are declared. -/
structure VI (w : World) (gn : Nat) (l : List BlkL) (L : ByteArray → Option VL) (W : World) : Prop where
  gr : w.grownBy W (some gn)
  names : ∃ n, n ≤ cntV l L ∧ ScopeAt W 0 gn n L
theorem VI.bel {w W W' : World} {gn : Nat} {l : List BlkL} {L : ByteArray → Option VL} (h : VI w gn l L W) (k : Below W.heap.size W W') : VI w gn l L W' := by
  obtain ⟨n, h1, h2⟩ := h.names
  exact ⟨grown_below h.gr k, n, h1, h2.below k⟩
/-- Inputs that no variable has. -/
def InputsR (fi L : ByteArray → Option VL) (e : Int) : Prop := (e = 0 ∧ ∀ x, (fi x).isSome = true → (L (kVar ++ x)).isSome = true) ∨ (e = 2 ∧ ∃ x, (fi x).isSome = true ∧ (L (kVar ++ x)).isSome = false)
theorem scat_gr {w W : World} {p gi gn : Nat} {ar : Value} {lb pf : ByteArray} {bv : Value} (h : ScAt w p ar lb bv pf gi gn) (k : w.grownBy W (some gn)) (hp : p ≠ gn) : ScAt W p ar lb bv pf gi gn := (k.block p h.lt (by simpa using hp)).trans h
section
variable (w : World)
set_option maxHeartbeats 2000000 in
set_option maxRecDepth 20000 in
theorem pvarEach (p gi gn ni d : Nat) (ar : Value) (lb pf : ByteArray) (bo0 : Option Addr) (bc0 : Nat) (l : List BlkL) (w0 : World) (fi : ByteArray → Option VL) (D : List NodeL → VL × Int) (hsc : ScAt w p ar lb (.slice bo0 l.length bc0) pf gi gn) (hlow : Below w0.heap.size w0 w) (hg : w0.heap.size ≤ gn) (hpn : p ≠ gn) (hin : gi ≠ gn) (hrd : BlksRd (d + 1) w0 (.slice bo0 l.length bc0) l) (hl : l.length ≤ 1000)
    (hf : ScopeAt w 0 gi ni fi) (hfl : ∀ W, w.grownBy W (some gn) → ScopeAt W 0 gi ni fi) (hn : NoneAt w gn) (ht : TabOK w0) (he : ErrVar w0) (hev : 3 < w0.heap.size)
    (hv : ∀ b ∈ l, b.kind = 1 → VarOK b ∧ (∀ ns, attrL b.attrs kDefault = some ns → Worth (fun _ => none) [] ns (D ns)) ∧ ((inputR fi D b).2 = 0 → (inputR fi D b).1.kids = [] ∧ I64 (inputR fi D b).1.num ∧ 1 ≤ (inputR fi D b).1.kind ∧ (inputR fi D b).1.kind ≤ 4)) :
    Calls Tryz.prog 32 #[.pointer (some ⟨p, 0, none⟩), .int .i64 1, .func (.func 33) #[.pointer (some ⟨p, 0, none⟩)] #[]] w fun e w' => e = .returned (.int .i64 (eachR (varR fi D) 1 l (fun _ => none)).1) ∧ VI w gn l (eachR (varR fi D) 1 l (fun _ => none)).2 w' := by
  have low : ∀ W, w.grownBy W (some gn) → Below w0.heap.size w0 W := fun W h => ⟨h.os.trans hlow.os, h.tape.trans hlow.tape, h.output.trans hlow.output, Nat.le_trans hlow.size h.size, fun k hk => (h.block k (Nat.lt_of_lt_of_le hk hlow.size) (by simp; omega)).trans (hlow.block k hk)⟩
  refine peach w (varR fi D) (fun L W => VI w gn l L W) 1 l d p gi gn ar lb pf bo0 bc0 33 FEv w0 hrd (fun s W h => ⟨scat_gr hsc h.gr hpn, low W h.gr⟩) (fun s W W' h k => h.bel k) hl ?_ (fun _ => none) ⟨gr_of (Below.refl _ _), 0, Nat.zero_le _, hn.scope⟩
  intro b hb hk L W ato atc bo bc hI ha hr
  obtain ⟨v1, v2, v3⟩ := hv b hb hk
  obtain ⟨n, h1, h2⟩ := hI.names
  have hc := cnt_le l L
  refine (pvariable W p gi gn ni n ar lb pf _ fi L (scat_gr hsc hI.gr hpn) (hfl W hI.gr) h2 (by omega) hin hpn D b ato atc bo bc (ha.below (low W hI.gr)) v1 v2 v3 (ht.below (low W hI.gr)) (he.below (low W hI.gr) hev)).mono ?_
  rintro e W' ⟨rfl, g1, g2⟩
  refine ⟨rfl, grown_trans hI.gr g1, _, ?_, g2⟩
  rcases varR_cases fi D b L with ⟨e1, e2⟩ | ⟨e1, e2, v, e3⟩
  · rw [cntN_ne e1, e2]; exact h1
  · rw [e1, e3]
    show n + 1 ≤ _
    have := cnt_put (v := v) hb e2
    omega
end
end Go.Proofs.YtndeihmclecmcaaGreatDoor
namespace Go.Proofs.YtndeihmclecmcaaGreatDoor
open Go.RowKit
set_option linter.unusedVariables false
set_option linter.unusedSimpArgs false
theorem scope_gr {w W : World} {g n gn : Nat} {L : ByteArray → Option VL} (h : ScopeAt w 0 g n L) (k : w.grownBy W (some gn)) (hne : g ≠ gn) : ScopeAt W 0 g n L := by
  have hl := h.lt
  obtain ⟨d, ⟨es, clock, hb, r⟩, hx⟩ := h
  refine ⟨d, ⟨es, clock, (k.block g hl (by simpa using hne)).trans hb, r⟩, fun x => ⟨(hx x).1, fun v hv => ?_⟩⟩
  obtain ⟨h1, h2, lv, h3, hk, ao, cap, rfl⟩ := (hx x).2 v hv
  exact ⟨h1, h2, _, h3, hk, ao, cap, rfl⟩
theorem VI.iter {w W W' : World} {gn r : Nat} {l : List BlkL} {L : ByteArray → Option VL} (h : VI w gn l L W) (k : W.grownBy W' (some r)) (hr : w.heap.size ≤ r) (hn : gn < w.heap.size) : VI w gn l L W' := by
  obtain ⟨n, h1, h2⟩ := h.names
  exact ⟨⟨k.os.trans h.gr.os, k.tape.trans h.gr.tape, k.output.trans h.gr.output, Nat.le_trans h.gr.size k.size, fun i hi hne => (k.block i (Nat.lt_of_lt_of_le hi h.gr.size) (by simp; omega)).trans (h.gr.block i hi hne)⟩, n, h1, scope_gr h2 k (by omega)⟩
theorem ranges_below {W W' : World} {b r n cnt : Nat} {d : DataW Value} {left : Lit → Bool} (h : W.ranges Tryz.prog 9 heldV b r n d left cnt) (k : Below W.heap.size W W') : W'.ranges Tryz.prog 9 heldV b r n d left cnt := by
  obtain ⟨es, clock, since, seen, c0, hb, F, hs, hD, hr, rest⟩ := h
  exact ⟨es, clock, since, seen, c0, (k.block b (Array.getElem?_eq_some_iff.1 hb).1).trans hb, F, hs, hD, (k.block r (Array.getElem?_eq_some_iff.1 hr).1).trans hr, rest⟩
theorem key_inv {x : ByteArray} {kl : Lit} (h : keyOf Tryz.prog 9 (.string x) = some kl) : kl = keyLit x ∧ x.size ≤ maxLen := by
  simp [keyOf, Tryz.underlying9, mapKey] at h
  exact ⟨h.2.symm, h.1⟩
theorem same_str {x y : ByteArray} (h : (keyLit x).sameKey (keyLit y) = true) : x = y := by
  unfold keyLit at h
  simp [Lit.sameKey] at h
  exact ByteArray.ext h
section
variable (w : World)
set_option maxHeartbeats 2000000 in
set_option maxRecDepth 20000 in
theorem pvariables (p gi gn ni d : Nat) (ar : Value) (lb pf : ByteArray) (bo0 : Option Addr) (bc0 : Nat) (l : List BlkL) (w0 : World) (fi : ByteArray → Option VL) (D : List NodeL → VL × Int) (hsc : ScAt w p ar lb (.slice bo0 l.length bc0) pf gi gn) (hlow : Below w0.heap.size w0 w) (hg : w0.heap.size ≤ gn) (hpn : p ≠ gn) (hin : gi ≠ gn) (hrd : BlksRd (d + 1) w0 (.slice bo0 l.length bc0) l) (hl : l.length ≤ 1000)
    (hf : ScopeAt w 0 gi ni fi) (hn : NoneAt w gn) (ht : TabOK w0) (he : ErrVar w0) (hev : 3 < w0.heap.size)
    (hv : ∀ b ∈ l, b.kind = 1 → VarOK b ∧ (∀ ns, attrL b.attrs kDefault = some ns → Worth (fun _ => none) [] ns (D ns)) ∧ ((inputR fi D b).2 = 0 → (inputR fi D b).1.kids = [] ∧ I64 (inputR fi D b).1.num ∧ 1 ≤ (inputR fi D b).1.kind ∧ (inputR fi D b).1.kind ≤ 4))
    (hfs : ∀ x, (fi x).isSome = true → x.size ≤ 1000000) :
    Calls Tryz.prog 23 #[.pointer (some ⟨p, 0, none⟩)] w fun e w' => ∃ err, e = .returned (.int .i64 err) ∧ VI w gn l (eachR (varR fi D) 1 l (fun _ => none)).2 w' ∧
      (((eachR (varR fi D) 1 l (fun _ => none)).1 ≠ 0 ∧ err = (eachR (varR fi D) 1 l (fun _ => none)).1) ∨ ((eachR (varR fi D) 1 l (fun _ => none)).1 = 0 ∧ InputsR fi (eachR (varR fi D) 1 l (fun _ => none)).2 err)) := by
  have hgn : gn < w.heap.size := World.ownsMap.lt hn
  have PE := Lib.hid (pvarEach w p gi gn ni d ar lb pf bo0 bc0 l w0 fi D hsc hlow hg hpn hin hrd hl hf (fun W h => scope_gr hf h hin) hn ht he hev hv)
  have SC := Lib.hid hsc
  have HF := Lib.hid hf
  have HS := Lib.hid hfs
  clear hsc hf hfs hrd hn ht he hev hv hlow
  generalize eachR (varR fi D) 1 l (fun _ => none) = r at *
  go_enter Tryz.func23, Tryz.ntmps23
  go_wp2_with fail
  refine PE.out.mono ?_
  rintro e w1 ⟨rfl, h1⟩
  have V1 := Lib.hid h1
  have S1 := Lib.hid (scat_gr SC.out h1.gr hpn)
  obtain ⟨c0, c1, c2, c3, c4, c5⟩ := S1.out.cells
  have F1 := Lib.hid (scope_gr HF.out h1.gr hin)
  have Z1 := Lib.hid h1.gr.size
  clear h1 PE
  by_cases hr : r.1 = 0
  · have ge : (r.1 != 0) = false := by simpa using hr
    have HR0 := Lib.hid hr
    clear hr
    obtain ⟨dd, hm, hx⟩ := F1.out
    have M1 := Lib.hid hm
    have X1 := Lib.hid hx
    clear hm hx
    go_wp2_with (at_range; refine wpList_range_own _ rfl _ 69 rfl 9 39 strKeyed Tryz.underlying69 heldV gi ni dd rfl M1.out ?_; intro w2 hrg hgg hs2)
    have V2 := Lib.hid (V1.out.bel (show Below w1.heap.size w1 w2 from ⟨hgg.os, hgg.tape, hgg.output, hgg.size, fun k hk => hgg.block k hk (by simp)⟩))
    have R2 := Lib.hid hrg
    clear hrg hgg hs2 c0 c1 c2 c3 c4 c5
    go_frame
    go_loopg [] (Maps.size dd) (fun m wr => ∃ left cnt, cnt ≤ m ∧ Hid (wr.ranges Tryz.prog 9 heldV gi w1.heap.size ni dd left cnt) ∧ Hid (VI w gn l r.2 wr) ∧ Hid (∀ x, Maps.has dd (keyLit x) = true → left (keyLit x) = true ∨ (r.2 (kVar ++ x)).isSome = true) ∧ Hid (∀ kl, left kl = true → Maps.has dd kl = true))
    case atStart => exact ⟨Maps.has dd, Maps.size dd, Nat.le_refl _, R2, V2, Lib.hid (fun x h => .inl h), Lib.hid (fun kl h => h)⟩
    case round =>
      obtain ⟨left, cnt, hm, RG, VV, LF, LH⟩ := hrel
      have HM := Lib.hid hm
      clear hm
      have IX : ∀ x, Maps.has dd (keyLit x) = true → (fi x).isSome = true := fun x hh => by
        cases hf : fi x with
        | some v => rfl
        | none => have h1 := ((X1.out x).1 hf).1; rw [hh] at h1; cases h1
      have s4 : (⟨#[118, 97, 114, 46]⟩ : ByteArray).size = 4 := rfl
      go_wp2_with (at_next; refine wpList_next_ranges (α := ByteArray) (β := Value) _ rfl _ rfl 9 strKeyed heldV .string id (fun key kl hk => str_inv hk) (fun v y _ => ⟨v, rfl⟩) gi w1.heap.size ni dd left cnt rfl RG.out ?_ ?_; (intro hz hd); rotate_left; (intro x c kl y w4 cnt' hkey hlk hv hat hrg hlt hgr hsz hen); (obtain ⟨rfl, hxs⟩ := key_inv hkey); (have HX := Lib.hid (IX x (LH.out _ hlk))); (have XS := Lib.hid (HS.out x HX.out)); (have hlb' : 4 + x.size ≤ 9223372036854775807 := by have := XS.out; omega); (have V4 := Lib.hid (VV.out.iter hgr Z1.out hgn)); (have c5 := (scat_gr SC.out V4.out.gr hpn).cells.2.2.2.2.2); rotate_left)
      · have DN := Lib.hid (show ∀ x, (fi x).isSome = true → (r.2 (kVar ++ x)).isSome = true from fun x hx => by
          obtain ⟨v, hv⟩ := Option.isSome_iff_exists.1 hx
          rcases LF.out x ((X1.out x).2 v hv).1 with h | h
          · rw [hd] at h; cases h
          · exact h)
        go_wp2_with fail
        go_ret
        exact ⟨_, rfl, VV.out, .inr ⟨HR0.out, .inl ⟨rfl, DN.out⟩⟩⟩
      · have R4 := Lib.hid hrg
        have LT := Lib.hid hlt
        clear hkey hlk hv hat hrg hlt hgr hsz hxs
        obtain ⟨n, hn1, hn2⟩ := V4.out.names
        have HV := Lib.hid (phave w4 gn n r.2 hn2 (kVar ++ x) (by rw [ByteArray.size_append]; have : kVar.size = 4 := rfl; have := XS.out; unfold maxLen; omega))
        refine HV.out.mono ?_
        rintro e w5 ⟨rfl, hb5⟩
        have R5 := Lib.hid (ranges_below R4.out hb5)
        have V5 := Lib.hid (V4.out.bel hb5)
        clear hn1 hn2 HV hb5 c5
        by_cases hL : (r.2 (kVar ++ x)).isSome = true
        · have LF2 := Lib.hid (show ∀ z, Maps.has dd (keyLit z) = true → (fun q => left q && !q.sameKey (keyLit x)) (keyLit z) = true ∨ (r.2 (kVar ++ z)).isSome = true from fun z hz => by
            rcases LF.out z hz with h | h
            · by_cases hzx : (keyLit z).sameKey (keyLit x) = true
              · obtain rfl := same_str hzx; exact .inr hL
              · exact .inl (by dsimp only; rw [h]; simpa using hzx)
            · exact .inr h)
          have LH2 := Lib.hid (show ∀ kl, (fun q => left q && !q.sameKey (keyLit x)) kl = true → Maps.has dd kl = true from fun kl h => LH.out kl (by dsimp only at h; exact (Bool.and_eq_true_iff.1 h).1))
          rw [hL]
          clear hL LF LH
          go_wp2_with fail
          go_roundg cnt'
          case rel => exact ⟨_, cnt', Nat.le_refl _, R5, V5, LF2, LH2⟩
          case measure => have := HM.out; have := LT.out; omega
        · have hLf : (r.2 (kVar ++ x)).isSome = false := by simpa using hL
          have HLF := Lib.hid hLf
          rw [hLf]
          clear hL hLf
          go_wp2_with fail
          go_ret
          exact ⟨_, rfl, V5.out, .inr ⟨HR0.out, .inr ⟨rfl, x, HX.out, HLF.out⟩⟩⟩
  · have ge : (r.1 != 0) = true := by simpa using hr
    have HR0 := Lib.hid hr
    clear hr
    go_wp2_with fail
    go_ret
    exact ⟨_, rfl, V1.out, .inl ⟨HR0.out, rfl⟩⟩
end
end Go.Proofs.YtndeihmclecmcaaGreatDoor
namespace Go.Proofs.YtndeihmclecmcaaGreatDoor
open Go.RowKit
set_option linter.unusedVariables false
set_option linter.unusedSimpArgs false
theorem WhAt.gr {B P gd gn : Nat} {w W : World} {beg : Nat} {ws : List WantL} (h : WhAt B P gd w beg ws) (k : w.grownBy W (some gn)) (hm : ∃ es c, w.heap[gn]? = some (.map es c)) : WhAt B P gd W beg ws := by
  obtain ⟨es, c, hm⟩ := hm
  obtain ⟨h1, wv, h2, h3⟩ := h
  have hP : P ≠ gn := fun e => by rw [e, hm] at h2; cases h2
  refine ⟨h1, wv, (k.block P (Array.getElem?_eq_some_iff.1 h2).1 (by simpa using hP)).trans h2, h3.1, ?_⟩
  rcases h3.2 with hn | ⟨g, cap, cur, rfl, hbg, hg, r⟩
  · exact .inl hn
  · have hG : g ≠ gn := fun e => by rw [e, hm] at hg; cases hg
    exact .inr ⟨g, cap, cur, rfl, hbg, (k.block g (Array.getElem?_eq_some_iff.1 hg).1 (by simpa using hG)).trans hg, r⟩
theorem fr_gr {B gn : Nat} {w W : World} (k : w.grownBy W (some gn)) (hB : B ≤ gn) (hw : B ≤ w.heap.size) : Fr B (some gn) w W :=
  ⟨k.os, k.tape, k.output, k.size, fun g hg => k.block g (by omega) (by simp; omega), fun g hg hG _ => k.block g hg hG⟩
theorem scope_map {w : World} {g n : Nat} {L : ByteArray → Option VL} (h : ScopeAt w 0 g n L) : ∃ es c, w.heap[g]? = some (.map es c) := by
  obtain ⟨d, ⟨es, clock, hb, r⟩, hx⟩ := h
  exact ⟨es, clock, hb⟩
/-- The functions of an expansion. -/
def FnAt (w : World) (g p : Nat) : Prop := w.heap[g]? = some (.cells #[.func (.func 23) #[.pointer (some ⟨p, 0, none⟩)] #[], .func (.func 24) #[.pointer (some ⟨p, 0, none⟩)] #[], .func (.func 25) #[.pointer (some ⟨p, 0, none⟩)] #[], .func (.func 26) #[.pointer (some ⟨p, 0, none⟩)] #[]] 75 (0, 0))
/-- What the expansion of variables and nodes tells. -/
def VarsTold (w0 : World) (P gd beg : Nat) (l : List BlkL) (fi : ByteArray → Option VL) (D : List NodeL → VL × Int) (V : Vals) (pf : ByteArray) (ws : List WantL) (e : Ending) (w' : World) : Prop :=
  ∃ err, e = .returned (.int .i64 err) ∧ Below w0.heap.size w0 w' ∧
    (((eachR (varR fi D) 1 l (fun _ => none)).1 ≠ 0 ∧ err = (eachR (varR fi D) 1 l (fun _ => none)).1) ∨
     ((eachR (varR fi D) 1 l (fun _ => none)).1 = 0 ∧ err = 2 ∧ InputsR fi (eachR (varR fi D) 1 l (fun _ => none)).2 2) ∨
     ((eachR (varR fi D) 1 l (fun _ => none)).1 = 0 ∧ InputsR fi (eachR (varR fi D) 1 l (fun _ => none)).2 0 ∧ err = (eachR (nodeStep V pf) 3 l ws).1 ∧ WhAt w0.heap.size P gd w' beg (eachR (nodeStep V pf) 3 l ws).2))
section
variable (w : World)
set_option maxHeartbeats 2000000 in
set_option maxRecDepth 20000 in
theorem pexpandV (w0 : World) (P gd beg p gi gn ni nn d : Nat) (ps : List (Nat × ByteArray)) (ar : Value) (lb pf : ByteArray) (bo0 : Option Addr) (bc0 : Nat) (l : List BlkL) (hb : Base w0 w P gd p gi gn nn ps ar lb pf (.slice bo0 l.length bc0) (fun _ => none)) (hng : NoneAt w gn) (hpn : p ≠ gn) (hin : gi ≠ gn) (hps : ∀ q ∈ ps, q.1 ≠ gn) (hrd : BlksRd (d + 1) w0 (.slice bo0 l.length bc0) l) (hl : l.length ≤ 1000) (V : Vals)
    (fi : ByteArray → Option VL) (hf : ScopeAt w 0 gi ni fi) (he : ErrVar w0) (D : List NodeL → VL × Int)
    (hv : ∀ b ∈ l, b.kind = 1 → VarOK b ∧ (∀ ns, attrL b.attrs kDefault = some ns → Worth (fun _ => none) [] ns (D ns)) ∧ ((inputR fi D b).2 = 0 → (inputR fi D b).1.kids = [] ∧ I64 (inputR fi D b).1.num ∧ 1 ≤ (inputR fi D b).1.kind ∧ (inputR fi D b).1.kind ≤ 4))
    (hfs : ∀ x, (fi x).isSome = true → x.size ≤ 1000000)
    (hn : (eachR (varR fi D) 1 l (fun _ => none)).1 = 0 → InputsR fi (eachR (varR fi D) 1 l (fun _ => none)).2 0 → ∀ b ∈ l, b.kind = 3 → NodeOK (eachR (varR fi D) 1 l (fun _ => none)).2 V b)
    (hk : ∀ b ∈ l, b.kind ≠ 2 ∧ b.kind ≠ 4) (ws : List WantL) (hw : WhAt w0.heap.size P gd w beg ws) (hwl : ws.length ≤ 120) :
    Calls Tryz.prog 19 #[.pointer (some ⟨p, 0, none⟩)] w (VarsTold w0 P gd beg l fi D V pf ws) := by
  have BB := Lib.hid hb
  have RD := Lib.hid hrd
  have HN := Lib.hid hn
  have HK := Lib.hid hk
  have HF := Lib.hid hf
  have HV := Lib.hid hv
  have HS := Lib.hid hfs
  have NG := Lib.hid hng
  have HE := Lib.hid he
  have HPS := Lib.hid hps
  have HW := Lib.hid hw
  clear hb hrd hn hk hf hv hfs hng he hps hw
  go_enter Tryz.func19, Tryz.ntmps19
  go_wp2_with fail
  have BA := Lib.hid (below_al (Below.refl w.heap.size w) (.cells #[.func (.func 23) #[.pointer (some ⟨p, 0, none⟩)] #[], .func (.func 24) #[.pointer (some ⟨p, 0, none⟩)] #[], .func (.func 25) #[.pointer (some ⟨p, 0, none⟩)] #[], .func (.func 26) #[.pointer (some ⟨p, 0, none⟩)] #[]] 75))
  have AF := Lib.hid (heap_alloc_new w (.cells #[.func (.func 23) #[.pointer (some ⟨p, 0, none⟩)] #[], .func (.func 24) #[.pointer (some ⟨p, 0, none⟩)] #[], .func (.func 25) #[.pointer (some ⟨p, 0, none⟩)] #[], .func (.func 26) #[.pointer (some ⟨p, 0, none⟩)] #[]] 75))
  generalize w.alloc (.cells #[.func (.func 23) #[.pointer (some ⟨p, 0, none⟩)] #[], .func (.func 24) #[.pointer (some ⟨p, 0, none⟩)] #[], .func (.func 25) #[.pointer (some ⟨p, 0, none⟩)] #[], .func (.func 26) #[.pointer (some ⟨p, 0, none⟩)] #[]] 75) = wa at *
  have La := Lib.hid (BB.out.low.trans (BA.out.mono BB.out.low.size))
  have PV := Lib.hid (fun wr (hb : Below wa.heap.size wa wr) => pvariables wr p gi gn ni d ar lb pf bo0 bc0 l w0 fi D ((BB.out.gr.sc.below BA.out).below hb) (Below.trans La.out (hb.mono La.out.size)) BB.out.gr.own.2.1 hpn hin RD.out hl ((HF.out.below BA.out).below hb) ((NG.out.below BA.out).below hb) BB.out.tab HE.out BB.out.gr.vars HV.out HS.out)
  unfold VarsTold
  generalize hrv : eachR (varR fi D) 1 l (fun _ => none) = rv at *
  have RH := Lib.hid hrv
  clear hrv
  have FE1 := FEpv
  have FE2 := FEpl
  have FE3 := FEpn
  have FE4 := FEpm
  go_loopg [16] 4 (fun m v wr => ∃ j : Nat, v = .int .i64 j ∧ 4 - j ≤ m ∧ j ≤ 4 ∧ Hid (wr.heap[w.heap.size]? = some (.cells #[.func (.func 23) #[.pointer (some ⟨p, 0, none⟩)] #[], .func (.func 24) #[.pointer (some ⟨p, 0, none⟩)] #[], .func (.func 25) #[.pointer (some ⟨p, 0, none⟩)] #[], .func (.func 26) #[.pointer (some ⟨p, 0, none⟩)] #[]] 75 (0, 0))) ∧
    Hid (j = 0 ∧ Below wa.heap.size wa wr ∨ 1 ≤ j ∧ rv.1 = 0 ∧ InputsR fi rv.2 0 ∧ ∃ wb n, Base w0 wb P gd p gi gn n ps ar lb pf (.slice bo0 l.length bc0) rv.2 ∧ FnAt wb w.heap.size p ∧ (j ≤ 2 ∧ Below wb.heap.size wb wr ∧ WhAt w0.heap.size P gd wb beg ws ∨ 3 ≤ j ∧ (eachR (nodeStep V pf) 3 l ws).1 = 0 ∧ NI w0.heap.size P gd beg wb (eachR (nodeStep V pf) 3 l ws).2 wr)))
  case atStart => exact ⟨0, rfl, Nat.le_refl _, Nat.zero_le _, AF, Lib.hid (.inl ⟨rfl, Below.refl _ _⟩)⟩
  case round =>
    obtain ⟨j, rfl, hm, hj, AR, ST⟩ := hrel
    have HM := Lib.hid hm
    have a0 := cell_of_row _ _ 0 _ _ _ AR.out
    have a1 := cell_of_row _ _ 1 _ _ _ AR.out
    have a2 := cell_of_row _ _ 2 _ _ _ AR.out
    have a3 := cell_of_row _ _ 3 _ _ _ AR.out
    simp at a0 a1 a2 a3
    clear hm
    by_cases h0 : j = 0
    · subst h0
      obtain ⟨-, hb⟩ | ⟨h3, -⟩ := ST.out
      · have B := Lib.hid hb
        have PP := Lib.hid (PV.out wr hb)
        clear hb
        go_wp2_with fail
        refine PP.out.mono ?_
        rintro e w1 ⟨err, rfl, hvi, hres⟩
        have BW := Lib.hid (Below.trans La.out (B.out.mono La.out.size))
        have NGr := Lib.hid ((NG.out.below BA.out).below B.out)
        have WR := Lib.hid ((HW.out.below BA.out).below B.out)
        have GR := Lib.hid ((BB.out.gr.fr (Fr.of BA.out BB.out.gr.base) (BB.out.gr.tab.below BA.out)).fr (Fr.of B.out (Nat.le_trans BB.out.gr.base BA.out.size)) ((BB.out.gr.tab.below BA.out).below B.out))
        have FF := Lib.hid (fr_gr hvi.gr GR.out.own.2.1 GR.out.base)
        have W1 := Lib.hid (WR.out.gr hvi.gr (scope_map NGr.out.scope))
        have L1 := Lib.hid (Below.trans BW.out (FF.out.low'))
        obtain ⟨n, hn1, hn2⟩ := hvi.names
        have Bv := Lib.hid (show Base w0 w1 P gd p gi gn n ps ar lb pf (.slice bo0 l.length bc0) rv.2 from ⟨L1.out, BB.out.tab, ⟨scat_gr GR.out.sc hvi.gr hpn, hn2, GR.out.around.fr FF.out (fun q hq => by simpa using HPS.out q hq), GR.out.deep, BB.out.tab.below L1.out, HE.out.below L1.out BB.out.gr.vars, L1.out.size, BB.out.gr.vars, GR.out.own, GR.out.pf⟩⟩)
        have A1 := Lib.hid ((hvi.gr.block w.heap.size (Array.getElem?_eq_some_iff.1 AR.out).1 (fun e => by
          obtain ⟨es, c, hm⟩ := scope_map NGr.out.scope
          have e : w.heap.size = gn := by simpa using e
          rw [← e, AR.out] at hm; cases hm)).trans AR.out)
        have RES := Lib.hid hres
        have HVG := Lib.hid hvi.gr
        clear hvi hres hn1 hn2
        by_cases h0 : err = 0
        · subst h0
          have RZ := Lib.hid (show rv.1 = 0 ∧ InputsR fi rv.2 0 from by
            rcases RES.out with ⟨h1, h2⟩ | h
            · exact absurd h2.symm h1
            · exact h)
          go_wp2_with fail
          go_roundg 3
          case rel => exact ⟨1, rfl, Nat.le_refl _, by omega, A1, Lib.hid (.inr ⟨Nat.le_refl _, RZ.out.1, RZ.out.2, w1, n, Bv.out, A1.out, .inl ⟨by omega, Below.refl _ _, W1.out⟩⟩)⟩
          case measure => have := HM.out; omega
        · have ge : (err != 0) = true := by simpa using h0
          have HZ := Lib.hid h0
          clear h0
          go_wp2_with fail
          go_ret
          refine ⟨err, rfl, L1.out, ?_⟩
          rcases RES.out with h1 | ⟨h1, h2⟩
          · exact .inl h1
          · rcases h2 with ⟨h2, -⟩ | ⟨rfl, h3⟩
            · exact absurd h2 HZ.out
            · exact .inr (.inl ⟨h1, rfl, .inr ⟨rfl, h3⟩⟩)
      · omega
    · obtain ⟨h3, -⟩ | ⟨-, hr1, hr2, wb, n, hbs, hfn, hst⟩ := ST.out
      · exact absurd h3 h0
      have R1 := Lib.hid hr1
      have R2 := Lib.hid hr2
      have Bv := Lib.hid hbs
      have SS := Lib.hid hst
      have HWB := Lib.hid hfn
      have NO := Lib.hid (HN.out hr1 hr2)
      clear hr1 hr2 hbs hst hfn ST
      have h5 : j = 1 ∨ j = 2 ∨ j = 3 ∨ j = 4 := by omega
      clear h0
      rcases h5 with rfl | rfl | rfl | rfl
      · obtain ⟨-, hb, hw⟩ | ⟨h3, -⟩ := SS.out
        · have B := Lib.hid hb
          have W0 := Lib.hid hw
          have S := Lib.hid (Bv.out.gr.sc.below hb)
          have PP := Lib.hid (plocals0 wr p gi gn d ar lb pf bo0 bc0 l w0 S.out (Below.trans Bv.out.low (hb.mono Bv.out.low.size)) RD.out hl (fun b h => (HK.out b h).1))
          clear hb hw
          go_wp2_with fail
          refine PP.out.mono ?_
          rintro e w1 ⟨rfl, hb1⟩
          have B1 := Lib.hid (below_tr B.out hb1)
          have A1 := Lib.hid ((hb1.block _ (Array.getElem?_eq_some_iff.1 AR.out).1).trans AR.out)
          clear hb1
          go_wp2_with fail
          go_roundg 2
          case rel => exact ⟨2, rfl, Nat.le_refl _, by omega, A1, Lib.hid (.inr ⟨by omega, R1.out, R2.out, wb, n, Bv.out, HWB.out, .inl ⟨by omega, B1.out, W0.out⟩⟩)⟩
          case measure => have := HM.out; omega
        · omega
      · obtain ⟨-, hb, hw⟩ | ⟨h3, -⟩ := SS.out
        · have NIr := Lib.hid (NI.bel Bv.out.gr.base ws wb wr ⟨Fr.refl _ _ _, hw, hwl⟩ hb)
          have PP := Lib.hid (pnodes wr w0 wb P gd beg p gi gn n d ps ar lb pf bo0 bc0 l rv.2 Bv.out RD.out hl V NO.out ws NIr.out)
          have NLT := Lib.hid hb.size
          clear hb hw
          go_wp2_with fail
          refine PP.out.mono ?_
          rintro e w1 ⟨rfl, h1⟩
          have A1 := Lib.hid ((h1.1.block _ (Array.getElem?_eq_some_iff.1 HWB.out).1 (by simp) (fun c t f hc => by
            have h := HWB.out
            unfold FnAt at h
            rw [h] at hc
            simp only [Option.some.injEq, Obj.cells.injEq] at hc
            obtain ⟨-, rfl, -⟩ := hc
            exact ⟨by decide, by decide⟩)).trans HWB.out)
          have I1 := Lib.hid h1
          clear h1
          by_cases he : (eachR (nodeStep V pf) 3 l ws).1 = 0
          · have ge : ((eachR (nodeStep V pf) 3 l ws).1 != 0) = false := by simpa using he
            have HE0 := Lib.hid he
            clear he
            go_wp2_with fail
            go_roundg 1
            case rel => exact ⟨3, rfl, Nat.le_refl _, by omega, A1, Lib.hid (.inr ⟨by omega, R1.out, R2.out, wb, n, Bv.out, HWB.out, .inr ⟨by omega, HE0.out, I1.out⟩⟩)⟩
            case measure => have := HM.out; omega
          · have ge : ((eachR (nodeStep V pf) 3 l ws).1 != 0) = true := by simpa using he
            clear he
            go_wp2_with fail
            go_ret
            refine ⟨_, rfl, (Bv.out.at I1.out.1).2, ?_⟩
            have FIN := Lib.hid (show rv.1 = 0 ∧ InputsR fi rv.2 0 ∧ (eachR (nodeStep V pf) 3 l ws).1 = (eachR (nodeStep V pf) 3 l ws).1 ∧ WhAt w0.heap.size P gd w1 beg (eachR (nodeStep V pf) 3 l ws).2 from ⟨R1.out, R2.out, rfl, I1.out.2.1⟩)
            first
              | exact .inr (.inr FIN.out)
              | (rw [RH.out]; exact .inr (.inr FIN.out))
        · omega
      · obtain ⟨h3, -⟩ | ⟨-, he, hn⟩ := SS.out
        · omega
        · have HE0 := Lib.hid he
          have I3 := Lib.hid hn
          have S := Lib.hid (Bv.out.at hn.1)
          have PP := Lib.hid (pmodules0 wr p gi gn d ar lb pf bo0 bc0 l w0 S.out.1.sc S.out.2 RD.out hl (fun b h => (HK.out b h).2))
          clear he hn
          go_wp2_with fail
          refine PP.out.mono ?_
          rintro e w1 ⟨rfl, hb1⟩
          have A1 := Lib.hid ((hb1.block _ (Array.getElem?_eq_some_iff.1 AR.out).1).trans AR.out)
          have I1 := Lib.hid (NI.bel Bv.out.gr.base _ _ _ I3.out hb1)
          clear hb1
          go_wp2_with fail
          go_roundg 0
          case rel => exact ⟨4, rfl, Nat.le_refl _, by omega, A1, Lib.hid (.inr ⟨by omega, R1.out, R2.out, wb, n, Bv.out, HWB.out, .inr ⟨by omega, HE0.out, I1.out⟩⟩)⟩
          case measure => have := HM.out; omega
      · obtain ⟨h3, -⟩ | ⟨-, he, hn⟩ := SS.out
        · omega
        · have HE0 := Lib.hid he
          have I3 := Lib.hid hn
          have S := Lib.hid (Bv.out.at hn.1)
          clear he hn
          go_wp2_with fail
          go_ret
          refine ⟨0, rfl, S.out.2, ?_⟩
          have FIN := Lib.hid (show rv.1 = 0 ∧ InputsR fi rv.2 0 ∧ (0 : Int) = (eachR (nodeStep V pf) 3 l ws).1 ∧ WhAt w0.heap.size P gd wr beg (eachR (nodeStep V pf) 3 l ws).2 from ⟨R1.out, R2.out, HE0.out.symm, I3.out.2.1⟩)
          first
            | exact .inr (.inr FIN.out)
            | (rw [RH.out]; exact .inr (.inr FIN.out))
end
end Go.Proofs.YtndeihmclecmcaaGreatDoor
namespace Go.Proofs.YtndeihmclecmcaaGreatDoor
open Go.RowKit
set_option linter.unusedVariables false
set_option linter.unusedSimpArgs false
/-- What Wants tells of variables and nodes. -/
def WantsVTold (w : World) (l : List BlkL) (fi : ByteArray → Option VL) (D : List NodeL → VL × Int) (V : Vals) (e : Ending) (w' : World) : Prop :=
  ∃ v err, e = .returned (.tuple #[v, .int .i64 err]) ∧ Below w.heap.size w w' ∧ (err ≠ 0 → v = .slice none 0 0) ∧
    (((eachR (varR fi D) 1 l (fun _ => none)).1 ≠ 0 ∧ err = (eachR (varR fi D) 1 l (fun _ => none)).1) ∨
     ((eachR (varR fi D) 1 l (fun _ => none)).1 = 0 ∧ err = 2 ∧ InputsR fi (eachR (varR fi D) 1 l (fun _ => none)).2 2) ∨
     ((eachR (varR fi D) 1 l (fun _ => none)).1 = 0 ∧ InputsR fi (eachR (varR fi D) 1 l (fun _ => none)).2 0 ∧ err = (eachR (nodeStep V ⟨#[]⟩) 3 l []).1 ∧ (err = 0 → w'.ownsRow w.heap.size 50 5 v (eachR (nodeStep V ⟨#[]⟩) 3 l []).2.length (wantsCells (eachR (nodeStep V ⟨#[]⟩) 3 l []).2))))
section
variable (w : World)
set_option maxHeartbeats 2000000 in
set_option maxRecDepth 20000 in
theorem pwantsV (d : Nat) (bv iv : Value) (l : List BlkL) (bs : List (ByteArray × VL)) (hrd : BlksRd (d + 1) w bv l) (hok : BlksOK (d + 1) l) (hbs : BindsRd w 0 iv bs) (hbl : bs.length ≤ 1000) (hbm : ∀ b ∈ bs, mayB 64 b.2 = true) (hbi : ∀ b ∈ bs, I64 b.2.num ∧ b.1.size ≤ 1000000) (ht : TabOK w) (he : ErrVar w) (hk : ∀ b ∈ l, b.kind = 1 ∨ b.kind = 3) (D : List NodeL → VL × Int) (V : Vals)
    (hv : ∀ b ∈ l, b.kind = 1 → VarOK b ∧ (∀ ns, attrL b.attrs kDefault = some ns → Worth (fun _ => none) [] ns (D ns)) ∧ ((inputR (lookL bs) D b).2 = 0 → (inputR (lookL bs) D b).1.kids = [] ∧ I64 (inputR (lookL bs) D b).1.num ∧ 1 ≤ (inputR (lookL bs) D b).1.kind ∧ (inputR (lookL bs) D b).1.kind ≤ 4))
    (hn : (eachR (varR (lookL bs) D) 1 l (fun _ => none)).1 = 0 → InputsR (lookL bs) (eachR (varR (lookL bs) D) 1 l (fun _ => none)).2 0 → ∀ b ∈ l, b.kind = 3 → NodeOK (eachR (varR (lookL bs) D) 1 l (fun _ => none)).2 V b) :
    Calls Tryz.prog 10 #[bv, iv] w (WantsVTold w l (lookL bs) D V) := by
  have RD := Lib.hid hrd
  have OK := Lib.hid hok
  have HT := Lib.hid ht
  have HE := Lib.hid he
  have HK := Lib.hid hk
  have HN := Lib.hid hn
  have HV := Lib.hid hv
  have HB := Lib.hid hbs
  have HM := Lib.hid hbm
  have HI := Lib.hid hbi
  have hl := hok.1
  have HFS := Lib.hid (show ∀ x, (lookL bs x).isSome = true → x.size ≤ 1000000 from fun x hx => by
    obtain ⟨v, hv⟩ := Option.isSome_iff_exists.1 hx
    unfold lookL at hv
    obtain ⟨q, hq, -⟩ := Option.map_eq_some_iff.1 hv
    have h1 := List.mem_of_find?_eq_some hq
    have h2 := List.find?_some hq
    obtain rfl : q.1 = x := by simpa using h2
    exact (hbi q h1).2)
  obtain ⟨bo0, bc0, rfl, -⟩ := hrd
  obtain ⟨io, ic, rfl, -⟩ := hbs
  have hmm := @run_makeMap Tryz.prog
  clear hok ht he hk hn hv hbm hbi
  go_enter Tryz.func10, Tryz.ntmps10
  go_wp2_with fail
  refine (pmay (d + 1) w _ l RD.out OK.out HE.out).mono ?_
  rintro e w1 ⟨rfl, hb1⟩
  have B1 := Lib.hid hb1
  clear hb1
  go_wp2_with fail
  refine (pallMay w1 0 _ bs (HB.out.below B1.out) hbl HM.out).mono ?_
  rintro e w2 ⟨rfl, hb2⟩
  have B2 := Lib.hid (below_tr B1.out hb2)
  clear hb2
  go_wp2_with fail
  refine (pnewWhole0 w2 d _ l (RD.out.below B2.out) hl (fun b hb => ⟨by rcases HK.out b hb with h | h <;> rw [h] <;> decide, (OK.out.2 b hb).2.1⟩)).mono ?_
  rintro e w3 ⟨P, gd, rfl, hb3, hw3, hn3, hg3⟩
  have B3 := Lib.hid (below_tr B2.out hb3)
  have W3 := Lib.hid hw3
  have S3 := Lib.hid hb3.size
  clear hb3 hw3 hn3
  go_wp2_with fail
  refine (pnamesOf w3 _ bs (HB.out.below B3.out) (by omega) (fun b hb => ⟨(HI.out b hb).1, by have := (HI.out b hb).2; omega⟩)).mono ?_
  rintro e w4 ⟨rfl, hb4, ni, -, hn4⟩
  have B4 := Lib.hid (below_tr B3.out hb4)
  have W4 := Lib.hid ((W3.out.lower B2.out.size).below hb4)
  have N4 := Lib.hid hn4
  have S4 := Lib.hid hb4.size
  have T4 := Lib.hid hn4.lt
  clear hb4 hn4
  go_wp2_with fail
  have B5 := Lib.hid (below_al (below_al B4.out (.map #[] 0)) (.cells #[.iface 66 (.pointer (some ⟨P, 0, none⟩)), .string ⟨#[]⟩, .slice bo0 l.length bc0, .string ⟨#[]⟩, .map (some w3.heap.size), .map (some w4.heap.size)] 74))
  have W5 := Lib.hid ((W4.out.below (below_al (Below.refl _ _) (.map #[] 0))).below (below_al (Below.refl _ _) (.cells #[.iface 66 (.pointer (some ⟨P, 0, none⟩)), .string ⟨#[]⟩, .slice bo0 l.length bc0, .string ⟨#[]⟩, .map (some w3.heap.size), .map (some w4.heap.size)] 74)))
  have N5 := Lib.hid ((N4.out.below (below_al (Below.refl _ _) (.map #[] 0))).below (below_al (Below.refl _ _) (.cells #[.iface 66 (.pointer (some ⟨P, 0, none⟩)), .string ⟨#[]⟩, .slice bo0 l.length bc0, .string ⟨#[]⟩, .map (some w3.heap.size), .map (some w4.heap.size)] 74)))
  have NN5 := Lib.hid ((NoneAt.new w4).below (below_al (Below.refl _ _) (.cells #[.iface 66 (.pointer (some ⟨P, 0, none⟩)), .string ⟨#[]⟩, .slice bo0 l.length bc0, .string ⟨#[]⟩, .map (some w3.heap.size), .map (some w4.heap.size)] 74)))
  have C5 := Lib.hid (show ScAt ((w4.alloc (.map #[] 0)).alloc (.cells #[.iface 66 (.pointer (some ⟨P, 0, none⟩)), .string ⟨#[]⟩, .slice bo0 l.length bc0, .string ⟨#[]⟩, .map (some w3.heap.size), .map (some w4.heap.size)] 74)) (w4.heap.size + 1) (.iface 66 (.pointer (some ⟨P, 0, none⟩))) ⟨#[]⟩ (.slice bo0 l.length bc0) ⟨#[]⟩ w3.heap.size w4.heap.size from heap_at (by simp))
  have Z5 := Lib.hid (show w.heap.size ≤ w4.heap.size from B4.out.size)
  generalize (w4.alloc (.map #[] 0)).alloc (.cells #[.iface 66 (.pointer (some ⟨P, 0, none⟩)), .string ⟨#[]⟩, .slice bo0 l.length bc0, .string ⟨#[]⟩, .map (some w3.heap.size), .map (some w4.heap.size)] 74) = w5 at *
  have BB := Lib.hid (show Base w w5 P gd (w4.heap.size + 1) w3.heap.size w4.heap.size 0 [] (.iface 66 (.pointer (some ⟨P, 0, none⟩))) ⟨#[]⟩ ⟨#[]⟩ (.slice bo0 l.length bc0) (fun _ => none) from
    ⟨B5.out, HT.out, C5.out, NN5.out.scope, rfl, by simp, HT.out.below B5.out, HE.out.below B5.out HE.out.lt, B5.out.size, HE.out.lt, ⟨Nat.le_succ_of_le Z5.out, Z5.out, fun q hq => by cases hq⟩, Nat.zero_le _⟩)
  have PE := Lib.hid (pexpandV w5 w P gd 0 (w4.heap.size + 1) w3.heap.size w4.heap.size ni 0 d [] (.iface 66 (.pointer (some ⟨P, 0, none⟩))) ⟨#[]⟩ ⟨#[]⟩ bo0 bc0 l BB.out NN5.out (by omega) (by have := T4.out; omega) (fun q hq => by cases hq) RD.out hl V (lookL bs) N5.out HE.out D HV.out HFS.out HN.out (fun b hb => by rcases HK.out b hb with h | h <;> rw [h] <;> exact ⟨by decide, by decide⟩) [] W5.out (by simp))
  go_wp2_with fail
  refine PE.out.mono ?_
  rintro e w6 ⟨err, rfl, hb6, hres⟩
  have RES := Lib.hid hres
  have B6 := Lib.hid hb6
  clear hb6 hres PE HN HV
  by_cases he : err = 0
  · subst he
    have RZ := Lib.hid (show (eachR (varR (lookL bs) D) 1 l (fun _ => none)).1 = 0 ∧ InputsR (lookL bs) (eachR (varR (lookL bs) D) 1 l (fun _ => none)).2 0 ∧ (0 : Int) = (eachR (nodeStep V ⟨#[]⟩) 3 l []).1 ∧ WhAt w.heap.size P gd w6 0 (eachR (nodeStep V ⟨#[]⟩) 3 l []).2 from by
      rcases RES.out with ⟨h1, h2⟩ | ⟨-, h2, -⟩ | h
      · exact absurd h2.symm h1
      · exact absurd h2 (by decide)
      · exact h)
    obtain ⟨-, wv, hwb, how⟩ := RZ.out.2.2.2
    have p2 := cell_of_row _ _ 2 _ _ _ hwb
    simp at p2
    have OW := Lib.hid how
    obtain ⟨wo, wc, rfl⟩ := own_len how
    clear hwb how RES
    go_wp2_with fail
    refine bodyPost_ret (v := .tuple #[.slice wo (eachR (nodeStep V ⟨#[]⟩) 3 l []).2.length wc, .int .i64 0]) (by simp [results, Tryz.results10, go_sem]) rfl ⟨_, 0, rfl, B6.out, fun h => absurd rfl h, .inr (.inr ⟨RZ.out.1, RZ.out.2.1, RZ.out.2.2.1, fun _ => OW.out⟩)⟩
  · have ge : (err != 0) = true := by simpa using he
    have HZ := Lib.hid he
    clear he
    go_wp2_with fail
    refine bodyPost_ret (v := .tuple #[.slice none 0 0, .int .i64 err]) (by simp [results, Tryz.results10, go_sem]) rfl ⟨_, err, rfl, B6.out, fun _ => rfl, ?_⟩
    rcases RES.out with h | h | ⟨h1, h2, h3, -⟩
    · exact .inl h
    · exact .inr (.inl h)
    · exact .inr (.inr ⟨h1, h2, h3, fun h => absurd h HZ.out⟩)
end
end Go.Proofs.YtndeihmclecmcaaGreatDoor
namespace Go.Proofs.YtndeihmclecmcaaGreatDoor
open Go.RowKit
set_option linter.unusedVariables false
set_option linter.unusedSimpArgs false
def lbV : ByteArray := ⟨#[118]⟩
/-- 'var.v' -/
def kVarV : ByteArray := ⟨#[118, 97, 114, 46, 118]⟩
theorem kVarV_eq : kVar ++ lbV = kVarV := by kernel_rfl
def strI : List NodeL := [⟨2, 0, ⟨#[]⟩, [(false, kInt)], []⟩]
def refV : List NodeL := [⟨4, 0, kVarV, [], []⟩]
def bNode : BlkL := .mk 3 lbA [(kCpu, refV)] []
def bVar (df : Bool) : BlkL := .mk 1 lbV ((kType, strI) :: if df then [(kDefault, numN 5)] else []) []
def dfV : List NodeL → VL × Int := fun _ => (vnum 5, 0)
theorem tree_strI : treeP strI = true := by kernel_rfl
theorem tree_refV : treeP refV = true := by kernel_rfl
theorem few_strI : ∀ n ∈ strI, Few n ∧ n.text.size ≤ 100000 ∧ n.kids.length ≤ 100000 := fun n hn => by
  obtain rfl := List.mem_singleton.1 hn
  refine ⟨⟨by simp, fun p hp => ?_⟩, Nat.zero_le _, Nat.zero_le _⟩
  obtain rfl := List.mem_singleton.1 hp
  show (3 : Nat) ≤ _
  omega
theorem few_refV : ∀ n ∈ refV, Few n ∧ n.text.size ≤ 100000 ∧ n.kids.length ≤ 100000 := fun n hn => by
  obtain rfl := List.mem_singleton.1 hn
  exact ⟨⟨by simp, fun p hp => by cases hp⟩, by show (5 : Nat) ≤ _; omega, Nat.zero_le _⟩
theorem ref_walkW (s : ByteArray) (hs : s.size ≤ maxLen) (L : ByteArray → Option VL) (hL : LeafL L) (x : Int) (hx : L s = some (vnum x)) : Walk TabOK L [(⟨4, 0, s, [], []⟩ : NodeL)] (madeS L) (vnum x, 0) where
  kids := by
    intro n hn
    simp only [List.mem_singleton] at hn
    subst hn
    exact ⟨Nat.zero_le _, fun k hk => by cases hk⟩
  above := ⟨aboveTo_len _ _, fun j hj => by have : j + 1 < 1 := hj; omega⟩
  few := by simp
  some_ := by simp
  plain := by
    intro n hn
    simp only [List.mem_singleton] at hn
    subst hn
    rfl
  made := by
    intro n hn vs r hr
    simp only [List.mem_singleton] at hn
    subst hn
    exact madeS_ok _ L hL _ (by show I64 0; unfold I64; omega) hs vs r hr
  ans := by
    have e : madeS L (⟨4, 0, s, [], []⟩ : NodeL) [] = some (vnum x, 0) := by
      show (if (4 : Int) = 1 then _ else if (4 : Int) = 3 then _ else if (4 : Int) = 4 then some (refR L s) else _) = _
      rw [if_neg (by decide), if_neg (by decide), if_pos rfl]
      unfold refR
      rw [hx]
    show (if (0 : Nat) ≤ 0 then (madeS L (⟨4, 0, s, [], []⟩ : NodeL) []).bind fun r => if r.2 ≠ 0 ∨ ([] : List NodeL) = [] then some r else evR (madeS L) [] ([] ++ [r.1]) else none) = _
    rw [if_pos (Nat.le_refl _), e]
    simp
  leaf := by simp [vnum, VL.kind]
  keep := fun _ _ h k => h.below k
theorem nt_ok : nameP kType = true ∧ nameP kDefault = true ∧ nameP kCpu = true := ⟨by kernel_rfl, by kernel_rfl, by kernel_rfl⟩
theorem td_ne : ¬ kDefault = kType := by decide
theorem var_attrs (df : Bool) : ∀ a ∈ (bVar df).attrs, (a = (kType, strI) ∨ a = (kDefault, numN 5)) := fun a ha => by
  cases df with
  | true =>
    have ha : a ∈ [(kType, strI), (kDefault, numN 5)] := ha
    simpa using ha
  | false =>
    have ha : a ∈ [(kType, strI)] := ha
    exact .inl (by simpa using ha)
theorem few_num5 : ∀ n ∈ numN 5, Few n ∧ n.text.size ≤ 100000 ∧ n.kids.length ≤ 100000 := fun n hn => by
  obtain rfl := List.mem_singleton.1 hn
  exact ⟨⟨by simp, fun p hp => by cases hp⟩, Nat.zero_le _, Nat.zero_le _⟩
theorem bVar_ok (df : Bool) : BlkOK (bVar df) :=
  .plain (.inl rfl) (by kernel_rfl) ⟨by cases df <;> simp [bVar, BlkL.attrs], fun a ha => by rcases var_attrs df a ha with rfl | rfl <;> decide, fun a ha => by rcases var_attrs df a ha with rfl | rfl; exact nt_ok.1; exact nt_ok.2.1,
    by
      cases df with
      | true =>
        intro j a ha z hz
        match j, ha with
        | 0, _ => simp at hz
        | 1, ha =>
          simp [bVar, BlkL.attrs] at ha hz
          subst ha hz
          exact fun e => td_ne e.symm
        | j + 2, ha => simp [bVar, BlkL.attrs] at ha
      | false =>
        intro j a ha z hz
        match j, ha with
        | 0, _ => simp at hz
        | j + 1, ha => simp [bVar, BlkL.attrs] at ha,
    fun a ha => by
      rcases var_attrs df a ha with rfl | rfl
      · exact ⟨tree_strI, by simp [strI], few_strI⟩
      · exact ⟨tree_num 5 (by omega), by simp [numN], few_num5⟩⟩ rfl
theorem bNode_ok : BlkOK bNode :=
  .plain (.inr (.inl rfl)) (by kernel_rfl) ⟨by simp [bNode, BlkL.attrs], fun a ha => by obtain rfl := List.mem_singleton.1 ha; decide, fun a ha => by obtain rfl := List.mem_singleton.1 ha; exact nt_ok.2.2, (fun j a ha z hz => by match j, ha with | 0, _ => simp at hz | j + 1, ha => simp [bNode, BlkL.attrs] at ha), fun a ha => by
    obtain rfl := List.mem_singleton.1 ha
    exact ⟨tree_refV, by simp [refV], few_refV⟩⟩ rfl
theorem both_ok (df : Bool) : BlksOK 1 [bNode, bVar df] := ⟨by simp, fun b hb => by
  simp only [List.mem_cons, List.not_mem_nil, or_false] at hb
  rcases hb with rfl | rfl
  · exact ⟨bNode_ok, by decide, rfl⟩
  · exact ⟨bVar_ok df, by show lbV.size ≤ _; decide, rfl⟩⟩
theorem bVar_var (df : Bool) : VarOK (bVar df) where
  few := by cases df <;> simp [bVar, BlkL.attrs]
  size := fun a ha => by rcases var_attrs df a ha with rfl | rfl <;> decide
  label := by show lbV.size ≤ _; decide
  type := ⟨_, _, by unfold attrL bVar BlkL.attrs; rw [List.find?_cons_of_pos (by simp)]; rfl, rfl, rfl⟩
  only := by cases df <;> kernel_rfl
theorem bVar_def (df : Bool) : attrL (bVar df).attrs kDefault = if df then some (numN 5) else none := by
  cases df with
  | true =>
    show attrL [(kType, strI), (kDefault, numN 5)] kDefault = _
    unfold attrL
    rw [List.find?_cons_of_neg (by simpa using fun e => td_ne e.symm), List.find?_cons_of_pos (by simp)]
    rfl
  | false =>
    show attrL [(kType, strI)] kDefault = _
    unfold attrL
    rw [List.find?_cons_of_neg (by simpa using fun e => td_ne e.symm)]
    rfl
theorem def_worth (df : Bool) : ∀ ns, attrL (bVar df).attrs kDefault = some ns → Worth (fun _ => none) [] ns (dfV ns) := fun ns h => by
  rw [bVar_def] at h
  cases df with
  | true => obtain rfl := Option.some.inj h; exact worth_num 5 (by omega) (.inl rfl)
  | false => cases h
end Go.Proofs.YtndeihmclecmcaaGreatDoor
namespace Go.Proofs.YtndeihmclecmcaaGreatDoor
open Go.RowKit
set_option linter.unusedVariables false
set_option linter.unusedSimpArgs false
def bsI (gv ot : Bool) (n : Int) : List (ByteArray × VL) := (if gv then [(lbV, vnum n)] else []) ++ (if ot then [(lbW, vnum 0)] else [])
def cpuV (gv : Bool) (n : Int) : Int := if gv then n else 5
theorem vw_ne : ¬ lbV = lbW := by decide
theorem wv_ne : ¬ lbW = lbV := by decide
theorem look_v (gv ot : Bool) (n : Int) : lookL (bsI gv ot n) lbV = if gv then some (vnum n) else none := by
  cases gv <;> cases ot <;> simp [bsI, lookL, List.find?, wv_ne]
theorem look_w (gv : Bool) (n : Int) : (lookL (bsI gv true n) lbW).isSome = true := by
  cases gv <;> simp [bsI, lookL, List.find?, vw_ne]
theorem look_only (gv : Bool) (n : Int) (x : ByteArray) (h : (lookL (bsI gv false n) x).isSome = true) : x = lbV := by
  cases gv with
  | true =>
    by_cases hx : lbV = x
    · exact hx.symm
    · simp [bsI, lookL, List.find?, hx] at h
  | false => simp [bsI, lookL] at h
def L1 (c : Int) : ByteArray → Option VL := fun x => if x = kVar ++ lbV then some (vnum c) else none
theorem varR_I (gv df ot : Bool) (n : Int) : varR (lookL (bsI gv ot n)) dfV (bVar df) (fun _ => none) = if gv || df then (0, L1 (cpuV gv n)) else (2, fun _ => none) := by
  have hi : inputR (lookL (bsI gv ot n)) dfV (bVar df) = if gv then (vnum n, 0) else if df then (vnum 5, 0) else (vz, 2) := by
    unfold inputR
    rw [show (bVar df).label = lbV from rfl, look_v, bVar_def]
    cases gv <;> cases df <;> rfl
  unfold varR
  rw [hi, if_neg (by simp)]
  cases gv <;> cases df
  · rw [if_pos (by simp)]; rfl
  · rw [if_neg (by simp), if_neg (by simp [vnum, VL.kind])]; rfl
  · rw [if_neg (by simp), if_neg (by simp [vnum, VL.kind])]; rfl
  · rw [if_neg (by simp), if_neg (by simp [vnum, VL.kind])]; rfl
theorem each_var {fi : ByteArray → Option VL} (df : Bool) : eachR (varR fi dfV) 1 [bNode, bVar df] (fun _ => none) = varR fi dfV (bVar df) (fun _ => none) := by
  rw [eachR_skip (by decide)]
  by_cases h : (varR fi dfV (bVar df) (fun _ => none)).1 = 0
  · rw [eachR_ok (kind := 1) (b := bVar df) (show (bVar df).kind = 1 from rfl) h]
    show ((0 : Int), (varR fi dfV (bVar df) (fun _ => none)).2) = _
    rw [← h]
  · rw [eachR_err (kind := 1) (b := bVar df) (show (bVar df).kind = 1 from rfl) h]
def VI1 (c : Int) : Vals := fun _ _ => (vnum c, 0)
theorem nodes_I (df : Bool) (c : Int) (hc : c ≤ 32767) : eachR (nodeStep (VI1 c) ⟨#[]⟩) 3 [bNode, bVar df] [] = if c < 0 then (1, []) else (0, [⟨⟨#[]⟩ ++ lbA, ⟨#[]⟩, c, 0, 0⟩]) := by
  have hs : nodeStep (VI1 c) ⟨#[]⟩ bNode [] = if c < 0 then (1, []) else (0, [⟨⟨#[]⟩ ++ lbA, ⟨#[]⟩, c, 0, 0⟩]) := by
    have ho : onlyB bNode.attrs nodeNames = true := by
      show (inNamesW kCpu nodeNames && true) = true
      rw [show inNamesW kCpu nodeNames = true by decide]; rfl
    have hat : attrL bNode.attrs kCount = none := by
      show attrL [(kCpu, refV)] kCount = none
      unfold attrL
      rw [List.find?_cons_of_neg (by simpa using ne_cc)]
      rfl
    unfold nodeStep
    rw [if_neg (by rw [ho]; simp)]
    unfold turnsR
    rw [hat]
    show turnNode ⟨#[]⟩ (⟨#[]⟩ ++ lbA) (VI1 c []) [(kCpu, refV)] [] = _
    have e1 : stepAttr ⟨#[]⟩ kCpu (VI1 c [] refV) ⟨⟨#[]⟩ ++ lbA, ⟨#[]⟩, 0, 0, 0⟩ = if c < 0 then (⟨⟨#[]⟩ ++ lbA, ⟨#[]⟩, 0, 0, 0⟩, 1) else (⟨⟨#[]⟩ ++ lbA, ⟨#[]⟩, c, 0, 0⟩, 0) := by
      show (if (0 : Int) ≠ 0 then _ else setAttr ⟨#[]⟩ kCpu (vnum c) ⟨⟨#[]⟩ ++ lbA, ⟨#[]⟩, 0, 0, 0⟩) = _
      rw [if_neg (by simp)]
      unfold setAttr
      rw [if_neg ne_cp, if_pos rfl]
      have e : amountR (vnum c) = if c < 0 then (0, 1) else (c, 0) := by
        show (if (1 : Int) ≠ 1 then ((0 : Int), (7 : Int)) else if c < 0 ∨ 1099511627776 < c then (0, 1) else (c, 0)) = _
        rw [if_neg (by simp)]
        by_cases h : c < 0
        · rw [if_pos (.inl h), if_pos h]
        · rw [if_neg (by omega), if_neg h]
      rw [e]
      split <;> simp_all
    unfold turnNode
    rw [if_neg (by decide)]
    by_cases h : c < 0
    · rw [if_pos h] at e1 ⊢
      have e2 : nodeGo ⟨#[]⟩ (VI1 c []) [(kCpu, refV)] ⟨⟨#[]⟩ ++ lbA, ⟨#[]⟩, 0, 0, 0⟩ = (⟨⟨#[]⟩ ++ lbA, ⟨#[]⟩, 0, 0, 0⟩, 1) := by
        rw [nodeGo_err (by exact ne_cc) (by show (stepAttr ⟨#[]⟩ kCpu (VI1 c [] refV) _).2 ≠ 0; rw [e1]; simp)]
        exact e1
      rw [e2, if_pos (by simp)]
    · rw [if_neg h] at e1 ⊢
      have e2 : nodeGo ⟨#[]⟩ (VI1 c []) [(kCpu, refV)] ⟨⟨#[]⟩ ++ lbA, ⟨#[]⟩, 0, 0, 0⟩ = (⟨⟨#[]⟩ ++ lbA, ⟨#[]⟩, c, 0, 0⟩, 0) := by
        rw [nodeGo_ok (by exact ne_cc) (by show (stepAttr ⟨#[]⟩ kCpu (VI1 c [] refV) _).2 = 0; rw [e1])]
        show nodeGo _ _ [] (stepAttr ⟨#[]⟩ kCpu (VI1 c [] refV) _).1 = _
        rw [e1]
        rfl
      rw [e2, if_neg (by simp), if_neg (by simp)]
      rfl
  by_cases h : c < 0
  · rw [if_pos h] at hs ⊢
    rw [eachR_err (kind := 3) (b := bNode) rfl (by rw [hs]; simp), hs]
  · rw [if_neg h] at hs ⊢
    rw [eachR_ok (kind := 3) (b := bNode) rfl (by rw [hs]), hs, eachR_skip (show (bVar df).kind ≠ 3 by show (1 : Int) ≠ 3; decide)]
    rfl
theorem node_okI (c : Int) (hc : -32768 ≤ c ∧ c ≤ 32767) : NodeOK (L1 c) (VI1 c) bNode where
  few := by show 1 ≤ _; omega
  size := fun a ha => by obtain rfl := List.mem_singleton.1 ha; decide
  label := by decide
  count := fun ns hn => by
    have hat : attrL [(kCpu, refV)] kCount = none := by
      unfold attrL
      rw [List.find?_cons_of_neg (by simpa using ne_cc)]
      rfl
    have hn : attrL [(kCpu, refV)] kCount = some ns := hn
    rw [hat] at hn
    cases hn
  worth := fun hd hh a ha _ => by
    obtain rfl := List.mem_singleton.1 ha
    refine ⟨?_, Nat.zero_le _⟩
    have hask : askedL (L1 c) refV = [(kVarV, vnum c)] := by
      show askNode (L1 c) ⟨4, 0, kVarV, [], []⟩ ++ [] = _
      unfold askNode
      rw [if_pos rfl]
      show askOne (L1 c) kVarV ++ [] ++ [] = _
      unfold askOne L1
      rw [if_pos kVarV_eq.symm]
      rfl
    have hih : ¬ kIndex = kVarV := by decide
    refine { tree := tree_refV, tame := ⟨by simp [refV], fun n hn => by obtain rfl := List.mem_singleton.1 hn; show (5 : Nat) ≤ _; omega, fun n hn => by obtain rfl := List.mem_singleton.1 hn; simp, fun n hn p hp => by obtain rfl := List.mem_singleton.1 hn; cases hp⟩, few := few_refV, asks := by show (askedL (L1 c) refV).length ≤ _; rw [hask]; simp, head := idx_head hh, walk := ?_ }
    show ∃ M, Walk TabOK (lookL (hd ++ askedL (L1 c) refV)) refV M (vnum c, 0)
    rw [hask]
    refine ⟨_, ref_walkW kVarV (by show (5 : Nat) ≤ maxLen; unfold maxLen; omega) _ (fun x v hv => ?_) c ?_⟩
    · unfold lookL at hv
      obtain ⟨p, hp, rfl⟩ := Option.map_eq_some_iff.1 hv
      have hm := List.mem_of_find?_eq_some hp
      rcases List.mem_append.1 hm with h | h
      · rcases hh with rfl | ⟨i, hi, rfl⟩
        · cases h
        · obtain rfl := List.mem_singleton.1 h
          exact ⟨(by show _ ≤ (i : Int) ∧ (i : Int) ≤ _; omega), rfl⟩
      · obtain rfl := List.mem_singleton.1 h
        exact ⟨(by show _ ≤ c ∧ c ≤ _; omega), rfl⟩
    · rcases hh with rfl | ⟨i, hi, rfl⟩
      · simp [lookL, List.find?]
      · simp [lookL, List.find?, idxB, hih]
end Go.Proofs.YtndeihmclecmcaaGreatDoor
namespace Go.Proofs.YtndeihmclecmcaaGreatDoor
open Go.RowKit
set_option linter.unusedVariables false
set_option linter.unusedSimpArgs false
def resI (gv df ot : Bool) (n : Int) : Int := if !(gv || df) || ot then 2 else if cpuV gv n < 0 then 1 else 0
theorem kVarW_ne : ¬ kVar ++ lbW = kVar ++ lbV := by decide
def aCells (c : Int) : List Value := [.string ⟨#[97]⟩, .string ⟨#[]⟩, .int .i64 c, .int .i64 0, .int .i64 0]
/-- What Wants tells of the law's blocks. -/
def InW (w : World) (err c : Int) (e : Ending) (w' : World) : Prop := ∃ v, e = .returned (.tuple #[v, .int .i64 err]) ∧ Below w.heap.size w w' ∧ (err ≠ 0 → v = .slice none 0 0) ∧ (err = 0 → w'.ownsRow w.heap.size 50 5 v 1 (aCells c))
theorem may_I (gv ot : Bool) (n : Int) : ∀ b ∈ bsI gv ot n, mayB 64 b.2 = true := fun b hb => by
  have key : ∀ m : Int, mayB 64 (vnum m) = true := fun m => by
    show (if (1 : Int) = 4 then _ else leafB (vnum m)) = true
    rw [if_neg (by decide)]
    unfold leafB
    rw [if_pos (show (vnum m).kind = 1 from rfl)]
    simp [vnum, VL.text, VL.kids, ByteArray.toList_eq]
  cases gv <;> cases ot <;> simp [bsI] at hb
  · obtain rfl := hb; exact key _
  · obtain rfl := hb; exact key _
  · rcases hb with rfl | rfl <;> exact key _
theorem num_I (gv ot : Bool) (n : Int) (hn : -32768 ≤ n ∧ n ≤ 32767) : ∀ b ∈ bsI gv ot n, I64 b.2.num ∧ b.1.size ≤ 1000000 := fun b hb => by
  have k1 : I64 (vnum n).num ∧ lbV.size ≤ 1000000 := ⟨(by show _ ≤ n ∧ n ≤ _; omega), by decide⟩
  have k2 : I64 (vnum 0).num ∧ lbW.size ≤ 1000000 := ⟨(by show _ ≤ (0 : Int) ∧ (0 : Int) ≤ _; omega), by decide⟩
  cases gv <;> cases ot <;> simp [bsI] at hb
  · obtain rfl := hb; exact k2
  · obtain rfl := hb; exact k1
  · rcases hb with rfl | rfl
    · exact k1
    · exact k2
theorem kinds_I (df : Bool) : ∀ b ∈ [bNode, bVar df], b.kind = 1 ∨ b.kind = 3 := fun b hb => by
  simp only [List.mem_cons, List.not_mem_nil, or_false] at hb
  rcases hb with rfl | rfl
  · exact .inr rfl
  · exact .inl rfl
theorem node_is {df : Bool} {b : BlkL} (hb : b ∈ [bNode, bVar df]) (hk : b.kind = 3) : b = bNode := by
  simp only [List.mem_cons, List.not_mem_nil, or_false] at hb
  rcases hb with rfl | rfl
  · rfl
  · have hk : (1 : Int) = 3 := hk
    exact absurd hk (by decide)
theorem var_is {df : Bool} {b : BlkL} (hb : b ∈ [bNode, bVar df]) (hk : b.kind = 1) : b = bVar df := by
  simp only [List.mem_cons, List.not_mem_nil, or_false] at hb
  rcases hb with rfl | rfl
  · have hk : (3 : Int) = 1 := hk
    exact absurd hk (by decide)
  · rfl
section
variable (w : World)
theorem wants_in (gv df ot : Bool) (n : Int) (hn : -32768 ≤ n ∧ n ≤ 32767) (bv iv : Value) (hrd : BlksRd 1 w bv [bNode, bVar df]) (hbs : BindsRd w 0 iv (bsI gv ot n)) (ht : TabOK w) (he : ErrVar w) :
    Calls Tryz.prog 10 #[bv, iv] w (InW w (resI gv df ot n) (cpuV gv n)) := by
  have hc : -32768 ≤ cpuV gv n ∧ cpuV gv n ≤ 32767 := by unfold cpuV; split <;> omega
  have hev := varR_I gv df ot n
  have hea := each_var (fi := lookL (bsI gv ot n)) df
  rw [hev] at hea
  refine (pwantsV w 0 bv iv _ _ hrd (both_ok df) hbs (by cases gv <;> cases ot <;> simp [bsI]) (may_I gv ot n) (num_I gv ot n hn) ht he (kinds_I df) dfV (VI1 (cpuV gv n)) (fun b hb hk => ?_) (fun h1 h2 b hb hk => ?_)).mono ?_
  · obtain rfl := var_is hb hk
    refine ⟨bVar_var df, def_worth df, fun _ => ?_⟩
    have hi : ∃ m, (-32768 ≤ m ∧ m ≤ 32767) ∧ ((inputR (lookL (bsI gv ot n)) dfV (bVar df)).1 = vnum m) ∨ (inputR (lookL (bsI gv ot n)) dfV (bVar df)).2 = 2 := by
      unfold inputR
      rw [show (bVar df).label = lbV from rfl, look_v, bVar_def]
      cases gv
      · cases df
        · exact ⟨0, .inr rfl⟩
        · exact ⟨5, .inl ⟨by omega, rfl⟩⟩
      · exact ⟨n, .inl ⟨hn, rfl⟩⟩
    obtain ⟨m, ⟨hm, e⟩ | h2⟩ := hi
    · rw [e]
      exact ⟨rfl, (by show _ ≤ m ∧ m ≤ _; omega), by show (1 : Int) ≤ 1; omega, by show (1 : Int) ≤ 4; omega⟩
    · rename_i h0
      rw [h2] at h0
      exact absurd h0 (by decide)
  · obtain rfl := node_is hb hk
    rw [hea] at h1 ⊢
    split at h1
    · rw [if_pos (by assumption)]
      exact node_okI _ hc
    · exact absurd h1 (by decide)
  · rintro e w' ⟨v, err, rfl, hb, hz, hres⟩
    rw [hea, nodes_I df _ hc.2] at hres
    have key : err = resI gv df ot n ∧ (err = 0 → w'.ownsRow w.heap.size 50 5 v 1 (aCells (cpuV gv n))) := by
      unfold resI
      cases hgd : gv || df
      · rw [hgd] at hres
        simp only [Bool.false_eq_true, if_false] at hres
        rcases hres with ⟨-, h2⟩ | ⟨h1, -⟩ | ⟨h1, -⟩
        · rw [h2]; exact ⟨rfl, fun h => absurd h (by decide)⟩
        · exact absurd h1 (by decide)
        · exact absurd h1 (by decide)
      · rw [hgd] at hres
        simp only [if_true] at hres
        rcases hres with ⟨h1, -⟩ | ⟨-, h2, h3⟩ | ⟨-, h2, h3, h4⟩
        · exact absurd rfl h1
        · subst h2
          cases ot with
          | true => exact ⟨rfl, fun h => absurd h (by decide)⟩
          | false =>
            exfalso
            rcases h3 with ⟨h, -⟩ | ⟨-, x, hx, hx2⟩
            · exact absurd h (by decide)
            · obtain rfl := look_only gv n x hx
              simp [L1] at hx2
        · cases ot with
          | true =>
            exfalso
            rcases h2 with ⟨-, h⟩ | ⟨h, -⟩
            · have := h lbW (look_w gv n)
              dsimp only [L1] at this
              rw [if_neg kVarW_ne] at this
              cases this
            · exact absurd h (by decide)
          | false =>
            by_cases hcn : cpuV gv n < 0
            · rw [if_pos hcn] at h3 h4
              refine ⟨by rw [h3]; simp [hcn], fun h => ?_⟩
              rw [h3] at h
              exact absurd h (by decide)
            · rw [if_neg hcn] at h3 h4
              refine ⟨by rw [h3]; simp [hcn], fun h => ?_⟩
              exact h4 h
    exact ⟨v, by rw [key.1], hb, fun h => hz (by rw [key.1]; exact h), fun h => key.2 (by rw [key.1]; exact h)⟩
/-- The second answer: a text as an input. -/
theorem wants_str (df : Bool) (bv iv : Value) (hrd : BlksRd 1 w bv [bNode, bVar df]) (hbs : BindsRd w 0 iv [(lbV, ⟨2, 0, ⟨#[]⟩, []⟩)]) (ht : TabOK w) (he : ErrVar w) :
    Calls Tryz.prog 10 #[bv, iv] w (InW w 7 0) := by
  have hl : lookL [(lbV, (⟨2, 0, ⟨#[]⟩, []⟩ : VL))] lbV = some ⟨2, 0, ⟨#[]⟩, []⟩ := by simp [lookL, List.find?]
  have hin : inputR (lookL [(lbV, (⟨2, 0, ⟨#[]⟩, []⟩ : VL))]) dfV (bVar df) = (⟨2, 0, ⟨#[]⟩, []⟩, 0) := by
    unfold inputR
    rw [show (bVar df).label = lbV from rfl, hl]
  have hev : varR (lookL [(lbV, (⟨2, 0, ⟨#[]⟩, []⟩ : VL))]) dfV (bVar df) (fun _ => none) = (7, fun _ => none) := by
    unfold varR
    rw [hin, if_neg (by simp), if_neg (by simp), if_pos (by show (2 : Int) ≠ 1; decide)]
  have hea := each_var (fi := lookL [(lbV, (⟨2, 0, ⟨#[]⟩, []⟩ : VL))]) df
  rw [hev] at hea
  refine (pwantsV w 0 bv iv _ _ hrd (both_ok df) hbs (by simp) (fun b hb => by obtain rfl := List.mem_singleton.1 hb; rfl) (fun b hb => by obtain rfl := List.mem_singleton.1 hb; exact ⟨(by show _ ≤ (0 : Int) ∧ (0 : Int) ≤ _; omega), by decide⟩) ht he (kinds_I df) dfV (VI1 0) (fun b hb hk => ?_) (fun h1 h2 b hb hk => ?_)).mono ?_
  · obtain rfl := var_is hb hk
    refine ⟨bVar_var df, def_worth df, fun _ => ?_⟩
    rw [hin]
    exact ⟨rfl, (by show _ ≤ (0 : Int) ∧ (0 : Int) ≤ _; omega), by show (1 : Int) ≤ 2; omega, by show (2 : Int) ≤ 4; omega⟩
  · rw [hea] at h1
    exact absurd h1 (by decide)
  · rintro e w' ⟨v, err, rfl, hb, hz, hres⟩
    rw [hea] at hres
    have key : err = 7 := by
      rcases hres with ⟨-, h2⟩ | ⟨h1, -⟩ | ⟨h1, -⟩
      · exact h2
      · exact absurd h1 (by decide)
      · exact absurd h1 (by decide)
    subst key
    exact ⟨v, rfl, hb, hz, fun h => absurd h (by decide)⟩
end
end Go.Proofs.YtndeihmclecmcaaGreatDoor
namespace Go.Proofs.YtndeihmclecmcaaGreatDoor
open Go.RowKit
set_option linter.unusedVariables false
set_option linter.unusedSimpArgs false
section
variable (w : World)
set_option maxRecDepth 20000 in
theorem pstr8 (s : ByteArray) : Calls Tryz.prog 8 #[.string s] w fun e w' => ∃ g h, e = .returned (.slice (some ⟨g, 0, none⟩) 1 1) ∧ Below w.heap.size w w' ∧ w'.heap[h]? = some (.cells #[.bool false, .string s] 63) ∧ w'.heap[g]? = some (.cells #[.int .i64 2, .int .i64 0, .string ⟨#[]⟩, .slice (some ⟨h, 0, none⟩) 1 1, .slice none 0 0] 35) := by
  have B := Lib.hid (below_al (below_al (Below.refl w.heap.size w) (.cells #[.bool false, .string s] 63)) (.cells #[.int .i64 2, .int .i64 0, .string ⟨#[]⟩, .slice (some ⟨w.heap.size, 0, none⟩) 1 1, .slice none 0 0] 35))
  have H1 := Lib.hid (at_lo (o' := .cells #[.int .i64 2, .int .i64 0, .string ⟨#[]⟩, .slice (some ⟨w.heap.size, 0, none⟩) 1 1, .slice none 0 0] 35) (heap_alloc_new w (.cells #[.bool false, .string s] 63)))
  have H2 := Lib.hid (heap_at (w := w.alloc (.cells #[.bool false, .string s] 63)) (O := .cells #[.int .i64 2, .int .i64 0, .string ⟨#[]⟩, .slice (some ⟨w.heap.size, 0, none⟩) 1 1, .slice none 0 0] 35) (g := w.heap.size + 1) (by simp))
  go_enter Tryz.func8, Tryz.ntmps8
  go_wp2_with fail
  go_ret
  exact ⟨_, _, rfl, B.out, H1.out, H2.out⟩
end
end Go.Proofs.YtndeihmclecmcaaGreatDoor
namespace Go.Proofs.YtndeihmclecmcaaGreatDoor
open Go.RowKit
set_option linter.unusedVariables false
set_option linter.unusedSimpArgs false
theorem info_attrI : (Tryz.prog.info? 26).map (fun i => (i.zero, i.size, i.bytes)) = some (some (.agg #[.string ⟨#[]⟩, .slice none 0 0]), 2, 40) := by kernel_rfl
/-- The box of the variable's block. -/
def VBox (w w' : World) (df : Bool) (pv : Nat) : Prop := Below w.heap.size w w' ∧ w.heap.size ≤ pv ∧ ∃ ao c, w'.heap[pv]? = some (.cells #[.int .i64 1, .string ⟨#[118]⟩, .slice ao (bVar df).attrs.length c, .slice none 0 0] 30 (0, 0)) ∧ AttrsRd w' (.slice ao (bVar df).attrs.length c) (bVar df).attrs
def BBox (w' : World) (pb : Nat) : Prop := ∃ ao c, w'.heap[pb]? = some (.cells #[.int .i64 3, .string ⟨#[97]⟩, .slice ao 1 c, .slice none 0 0] 30 (0, 0)) ∧ AttrsRd w' (.slice ao 1 c) bNode.attrs
def InRow (w w' : World) (s : Value) (bs : List (ByteArray × VL)) : Prop := ∃ ps : List BP, w'.ownsRow w.heap.size 41 5 s ps.length (bpsCells ps) ∧ LeafP ps ∧ ps.map (·.1) = bs
theorem VBox.below {w w' w2 : World} {df : Bool} {pv : Nat} (h : VBox w w' df pv) (k : Below w'.heap.size w' w2) : VBox w w2 df pv := by
  obtain ⟨h1, h2, ao, c, h3, h4⟩ := h
  exact ⟨below_tr h1 k, h2, ao, c, (k.block pv (Array.getElem?_eq_some_iff.1 h3).1).trans h3, h4.below k⟩
theorem BBox.below {w' w2 : World} {pb : Nat} (h : BBox w' pb) (k : Below w'.heap.size w' w2) : BBox w2 pb := by
  obtain ⟨ao, c, h3, h4⟩ := h
  exact ⟨ao, c, (k.block pb (Array.getElem?_eq_some_iff.1 h3).1).trans h3, h4.below k⟩
theorem str_rd {w : World} {g h cap : Nat} {s : ByteArray} {t tp : TypeId} (hp : w.heap[h]? = some (.cells #[.bool false, .string s] tp)) (hg : w.heap[g]? = some (.cells #[.int .i64 2, .int .i64 0, .string ⟨#[]⟩, .slice (some ⟨h, 0, none⟩) 1 1, .slice none 0 0] t)) : NodesRd w (.slice (some ⟨g, 0, none⟩) 1 cap) [⟨2, 0, ⟨#[]⟩, [(false, s)], []⟩] :=
  nodes_of_block (ns := [⟨2, 0, ⟨#[]⟩, [(false, s)], []⟩]) hg ⟨.slice (some ⟨h, 0, none⟩) 1 1, .slice none 0 0, _, rfl, ⟨some ⟨h, 0, none⟩, 1, rfl, fun j u hj => by
    have k := fun r => cell_of_row w h r _ tp (0, 0) hp
    match j, hj with
    | 0, hj => simp [partCells] at hj; subst hj; exact ⟨h, 0, rfl, k 0⟩
    | 1, hj => simp [partCells] at hj; subst hj; exact ⟨h, 0, rfl, k 1⟩
    | j + 2, hj => simp [partCells] at hj⟩, places_nil _ _ _, rfl⟩
theorem binds_lit {w : World} {g cap : Nat} {s : ByteArray} {v : VL} {t : TypeId} (h : w.heap[g]? = some (.cells #[.string s, .int .i64 v.kind, .int .i64 v.num, .string v.text, .slice none 0 0] t)) (hk : v.kids = []) : BindsRd w 0 (.slice (some ⟨g, 0, none⟩) 1 cap) [(s, v)] := by
  refine ⟨some ⟨g, 0, none⟩, cap, rfl, fun i b hi => ?_⟩
  have h0 : i = 0 := by have := (List.getElem?_eq_some_iff.1 hi).1; simpa using this
  subst h0
  obtain rfl : (s, v) = b := by simpa using hi
  have k := fun r => cell_of_row w g r _ t (0, 0) h
  have e : v.kids.length = 0 := by rw [hk]; rfl
  exact ⟨g, 0, none, 0, rfl, k 0, k 1, k 2, k 3, by rw [e]; exact k 4, by show RowRd w 0 v.kids (.slice none v.kids.length 0); rw [hk]; exact RowRd.nil _ _ _ _⟩
theorem vbox_put {w w1 w2 w7 w9 : World} {g0 g1 g5 gg cc : Nat} (hz : w.heap.size ≤ w1.heap.size) (hp : w2.heap[g0]? = some (.cells #[.bool false, .string ⟨#[105, 110, 116]⟩] 63)) (hn : w2.heap[g1]? = some (.cells #[.int .i64 2, .int .i64 0, .string ⟨#[]⟩, .slice (some ⟨g0, 0, none⟩) 1 1, .slice none 0 0] 35))
    (hal : w2.heap[w1.heap.size]? = some (.cells #[.string ⟨#[116, 121, 112, 101]⟩, .slice (some ⟨g1, 0, none⟩) 1 1] 26)) (b2 : Below w.heap.size w w2) (b7 : Below w2.heap.size w2 w7) (h5 : w7.heap[g5]? = some (.cells #[.int .i64 1, .int .i64 5, .string ⟨#[]⟩, .slice none 0 0, .slice none 0 0] 35)) {O : Obj}
    (hg : (w7.alloc O).grownBy w9 (some w1.heap.size)) (hown : w9.ownsRow w.heap.size 26 2 (.slice (some ⟨gg, 0, none⟩) 2 cc) 2 [.string ⟨#[116, 121, 112, 101]⟩, .slice (some ⟨g1, 0, none⟩) 1 1, .string ⟨#[100, 101, 102, 97, 117, 108, 116]⟩, .slice (some ⟨g5, 0, none⟩) 1 1])
    (h9 : w9.heap[w1.heap.size + 1]? = some (.cells #[.int .i64 1, .string ⟨#[118]⟩, .slice (some ⟨w1.heap.size, 0, none⟩) 1 1, .slice none 0 0] 30)) :
    VBox w (w9.setCell ⟨w1.heap.size + 1, 2, none⟩ (.slice (some ⟨gg, 0, none⟩) 2 cc)) true (w1.heap.size + 1) := by
  have bw : Below w.heap.size w w9 := below_grown (below_tr b2 b7) hg (fun k hk => by cases hk; exact hz)
  have hs := heap_setCell_same w9 (w1.heap.size + 1) 2 _ _ (.slice (some ⟨gg, 0, none⟩) 2 cc) h9
  have hal7 := (b7.block _ (Array.getElem?_eq_some_iff.1 hal).1).trans hal
  have go : ∀ (k : Nat) (cs : Array Value) (t : TypeId), w7.heap[k]? = some (.cells cs t (0, 0)) → t ≠ 26 → t ≠ 30 → (w9.setCell ⟨w1.heap.size + 1, 2, none⟩ (.slice (some ⟨gg, 0, none⟩) 2 cc)).heap[k]? = some (.cells cs t (0, 0)) := by
    intro k cs t hk ht1 ht2
    have n1 : k ≠ w1.heap.size := by
      rintro rfl
      rw [hal7] at hk
      simp only [Option.some.injEq, Obj.cells.injEq] at hk
      exact ht1 hk.2.1.symm
    have h1 : w9.heap[k]? = some (.cells cs t (0, 0)) := (hg.block k (by have := (Array.getElem?_eq_some_iff.1 hk).1; simp; omega) (by simpa using n1)).trans (at_lo hk)
    have n2 : k ≠ w1.heap.size + 1 := by
      rintro rfl
      rw [h9] at h1
      simp only [Option.some.injEq, Obj.cells.injEq] at h1
      exact ht2 h1.2.1.symm
    exact (heap_setCell_other w9 _ k _ n2).trans h1
  have ng : gg ≠ w1.heap.size + 1 := by
    rintro rfl
    obtain ⟨c, hc⟩ := own_typeW hown rfl
    rw [h9] at hc
    simp only [Option.some.injEq, Obj.cells.injEq] at hc
    exact absurd hc.2.1 (by decide)
  have cl : ∀ j u, [Value.string ⟨#[116, 121, 112, 101]⟩, .slice (some ⟨g1, 0, none⟩) 1 1, .string ⟨#[100, 101, 102, 97, 117, 108, 116]⟩, .slice (some ⟨g5, 0, none⟩) 1 1][j]? = some u → j < 4 → (w9.setCell ⟨w1.heap.size + 1, 2, none⟩ (.slice (some ⟨gg, 0, none⟩) 2 cc)).cell? ⟨gg, j, none⟩ = some u := fun j u hj hl => by
    rw [World.cell?_of_block (a := ⟨gg, j, none⟩) (heap_setCell_other w9 _ gg _ ng)]
    exact (World.ownsRow.cellAt hown j (by omega)).trans hj
  refine ⟨⟨bw.os, bw.tape, bw.output, by simpa [World.setCell] using bw.size, fun k hk => (heap_setCell_other w9 _ k _ (by show k ≠ w1.heap.size + 1; omega)).trans (bw.block k hk)⟩, by omega, _, _, hs, ?_⟩
  refine ⟨some ⟨gg, 0, none⟩, cc, rfl, fun i a hi => ?_⟩
  have h0 := go g0 _ _ ((b7.block _ (Array.getElem?_eq_some_iff.1 hp).1).trans hp) (by decide) (by decide)
  have h1 := go g1 _ _ ((b7.block _ (Array.getElem?_eq_some_iff.1 hn).1).trans hn) (by decide) (by decide)
  have h2 := go g5 _ _ h5 (by decide) (by decide)
  match i, hi with
  | 0, hi =>
    obtain rfl : (kType, strI) = a := by simpa [bVar, BlkL.attrs] using hi
    exact ⟨gg, 0, some ⟨g1, 0, none⟩, 1, rfl, cl 0 _ rfl (by omega), cl 1 _ rfl (by omega), str_rd h0 h1⟩
  | 1, hi =>
    obtain rfl : (kDefault, numN 5) = a := by simpa [bVar, BlkL.attrs] using hi
    exact ⟨gg, 0, some ⟨g5, 0, none⟩, 1, rfl, cl 2 _ rfl (by omega), cl 3 _ rfl (by omega), num_rd h2⟩
  | i + 2, hi => simp [bVar, BlkL.attrs] at hi
theorem blks_two {w : World} {gb bc bac vac : Nat} {df : Bool} {bao vao : Option Addr} {tb : TypeId} (hb : w.heap[gb]? = some (.cells #[.int .i64 3, .string ⟨#[97]⟩, .slice bao 1 bac, .slice none 0 0, .int .i64 1, .string ⟨#[118]⟩, .slice vao (bVar df).attrs.length vac, .slice none 0 0] tb)) (ha : AttrsRd w (.slice bao 1 bac) bNode.attrs) (hv : AttrsRd w (.slice vao (bVar df).attrs.length vac) (bVar df).attrs) :
    BlksRd 1 w (.slice (some ⟨gb, 0, none⟩) 2 bc) [bNode, bVar df] :=
  ⟨some ⟨gb, 0, none⟩, bc, rfl, fun i b hi => by
    have k := fun r => cell_of_row w gb r _ tb (0, 0) hb
    match i, hi with
    | 0, hi =>
      obtain rfl : bNode = b := by simpa using hi
      exact ⟨gb, 0, bao, bac, none, 0, rfl, k 0, k 1, k 2, k 3, ha, rfl, _, _, rfl⟩
    | 1, hi =>
      obtain rfl : bVar df = b := by simpa using hi
      exact ⟨gb, 0, vao, vac, none, 0, rfl, k 4, k 5, k 6, k 7, hv, rfl, _, _, rfl⟩
    | i + 2, hi => simp at hi⟩
section
variable (w : World)
set_option maxHeartbeats 4000000 in
set_option maxRecDepth 20000 in
theorem law_inputs (n : Int) (gv df ot : Bool) (hn : -32768 ≤ n ∧ n ≤ 32767) (ht : TabOK w) (he : ErrVar w) : Calls Tryz.prog 3 #[.int .i16 n, .bool gv, .bool df, .bool ot] w (Made (.bool true) w) := by
  have HT := Lib.hid ht
  have HE := Lib.hid he
  clear ht he
  obtain ⟨i0, hi0, hz0, hz1, hz2⟩ := info_parts info_bindW
  obtain ⟨j0, hj0, hy0, hy1, hy2⟩ := info_parts info_attrI
  go_enter Tryz.func3, Tryz.ntmps3
  go_wp2_with fail
  refine (pstr8 _ _).mono ?_
  rintro e w1 ⟨g1, g0, rfl, hb1, hp1, hn1⟩
  have B1 := Lib.hid hb1
  have P1 := Lib.hid hp1
  have N1 := Lib.hid hn1
  clear hb1 hp1 hn1
  have NV := Lib.hid (heap_at (w := w1.alloc (.cells #[.string ⟨#[116, 121, 112, 101]⟩, .slice (some ⟨g1, 0, none⟩) 1 1] 26)) (O := .cells #[.int .i64 1, .string ⟨#[118]⟩, .slice (some ⟨w1.heap.size, 0, none⟩) 1 1, .slice none 0 0] 30) (g := w1.heap.size + 1) (by simp))
  have OW := Lib.hid ((World.ownsRow_lit (base := w.heap.size) (e := 26) (size := 2) w1 #[.string ⟨#[116, 121, 112, 101]⟩, .slice (some ⟨g1, 0, none⟩) 1 1] 1 B1.out.size (by unfold maxLen; omega) rfl).alloc (.cells #[.int .i64 1, .string ⟨#[118]⟩, .slice (some ⟨w1.heap.size, 0, none⟩) 1 1, .slice none 0 0] 30))
  have AL := Lib.hid (at_lo (o' := .cells #[.int .i64 1, .string ⟨#[118]⟩, .slice (some ⟨w1.heap.size, 0, none⟩) 1 1, .slice none 0 0] 30) (heap_alloc_new w1 (.cells #[.string ⟨#[116, 121, 112, 101]⟩, .slice (some ⟨g1, 0, none⟩) 1 1] 26)))
  have B2 := Lib.hid (below_al (below_al B1.out (.cells #[.string ⟨#[116, 121, 112, 101]⟩, .slice (some ⟨g1, 0, none⟩) 1 1] 26)) (.cells #[.int .i64 1, .string ⟨#[118]⟩, .slice (some ⟨w1.heap.size, 0, none⟩) 1 1, .slice none 0 0] 30))
  have ST := Lib.hid (str_rd (cap := 1) (at_lo (o' := .cells #[.int .i64 1, .string ⟨#[118]⟩, .slice (some ⟨w1.heap.size, 0, none⟩) 1 1, .slice none 0 0] 30) (at_lo (o' := .cells #[.string ⟨#[116, 121, 112, 101]⟩, .slice (some ⟨g1, 0, none⟩) 1 1] 26) P1.out)) (at_lo (o' := .cells #[.int .i64 1, .string ⟨#[118]⟩, .slice (some ⟨w1.heap.size, 0, none⟩) 1 1, .slice none 0 0] 30) (at_lo (o' := .cells #[.string ⟨#[116, 121, 112, 101]⟩, .slice (some ⟨g1, 0, none⟩) 1 1] 26) N1.out)))
  have SZ := Lib.hid (show ((w1.alloc (.cells #[.string ⟨#[116, 121, 112, 101]⟩, .slice (some ⟨g1, 0, none⟩) 1 1] 26)).alloc (.cells #[.int .i64 1, .string ⟨#[118]⟩, .slice (some ⟨w1.heap.size, 0, none⟩) 1 1, .slice none 0 0] 30)).heap.size = w1.heap.size + 2 by simp)
  have ZB := Lib.hid B1.out.size
  have PP2 := Lib.hid (at_lo (o' := .cells #[.int .i64 1, .string ⟨#[118]⟩, .slice (some ⟨w1.heap.size, 0, none⟩) 1 1, .slice none 0 0] 30) (at_lo (o' := .cells #[.string ⟨#[116, 121, 112, 101]⟩, .slice (some ⟨g1, 0, none⟩) 1 1] 26) P1.out))
  have NN2 := Lib.hid (at_lo (o' := .cells #[.int .i64 1, .string ⟨#[118]⟩, .slice (some ⟨w1.heap.size, 0, none⟩) 1 1, .slice none 0 0] 30) (at_lo (o' := .cells #[.string ⟨#[116, 121, 112, 101]⟩, .slice (some ⟨g1, 0, none⟩) 1 1] 26) N1.out))
  go_upto_if 22 with fail
  generalize (w1.alloc (.cells #[.string ⟨#[116, 121, 112, 101]⟩, .slice (some ⟨g1, 0, none⟩) 1 1] 26)).alloc (.cells #[.int .i64 1, .string ⟨#[118]⟩, .slice (some ⟨w1.heap.size, 0, none⟩) 1 1, .slice none 0 0] 30) = w2 at *
  go_cut [] from 22 (fun w' => VBox w w' df (w1.heap.size + 1))
  case first =>
    cases df with
    | false =>
      go_wp2
      go_meet
      case rel => exact ⟨B2.out, by have := ZB.out; omega, _, _, NV.out, attrs_one (ns := strI) AL.out ST.out⟩
    | true =>
      have PN := Lib.hid (fun W => pnum8 W 5)
      have v2 := cell_of_row _ _ 2 _ _ _ NV.out
      simp at v2
      go_upto_region 3 with fail
      go_region_law (first
        | (go_simp; go_at_call 9; refine (PN.out _).mono ?_; rintro e w7 ⟨g5, rfl, hb7, hg7⟩; have hb8 : Below w2.heap.size w2 w7 := ⟨hb7.os, hb7.tape, hb7.output, hb7.size, hb7.block⟩; have B8 := Lib.hid hb8; have G7 := Lib.hid hg7; have O8 := Lib.hid (own_below OW.out hb8); have v2a := hold hb8 v2; have v2b : (w7.alloc (.cells #[.string ⟨#[100, 101, 102, 97, 117, 108, 116]⟩, .slice (some ⟨g5, 0, none⟩) 1 1] 26)).cell? ⟨w1.heap.size + 1, 2, none⟩ = some (.slice (some ⟨w1.heap.size, 0, none⟩) 1 1) := hold (below_al (Below.refl _ _) _) v2a; clear hb7 hb8 hg7)
        | (refine step_append_lies _ (by rfl) _ _ _ (by rfl) w.heap.size 26 j0 _ 2 40 Tryz.underlying27 hj0 hy0 hy1 hy2 rfl (by omega) (.slice (some ⟨w1.heap.size, 0, none⟩) 1 1) 1 [.string ⟨#[116, 121, 112, 101]⟩, .slice (some ⟨g1, 0, none⟩) 1 1] (by rfl) (by exact (World.ownsRow.alloc O8.out _)) ⟨w7.heap.size, 0, none⟩ 1 1 [.string ⟨#[100, 101, 102, 97, 117, 108, 116]⟩, .slice (some ⟨g5, 0, none⟩) 1 1] (by rfl) (by rfl) (by exact news_new w7 #[.string ⟨#[100, 101, 102, 97, 117, 108, 116]⟩, .slice (some ⟨g5, 0, none⟩) 1 1] 26) (by simp [Value.oneCell']) (by omega) (by unfold maxLen; omega) (by omega) (by have := B8.out.size; have := B2.out.size; simp; omega) (w7.heap.size + 1) (by simp) ?_; intro gg cc w9 hown hgrow hat hlt; have H9 := Lib.hid ((hgrow.block (w1.heap.size + 1) (by have := B8.out.size; have := SZ.out; simp; omega) (by simp [Value.ownBlock])).trans (at_lo ((B8.out.block _ (Array.getElem?_eq_some_iff.1 NV.out).1).trans NV.out))); have c9 := cell_of_row _ _ 2 _ _ _ H9.out; have f9 := frozen_of_row _ _ 2 _ _ H9.out; simp at c9))
      all_goals (
        have REL := Lib.hid (vbox_put ZB.out PP2.out NN2.out AL.out B2.out B8.out G7.out hgrow hown H9.out)
        clear hgrow hown hat hlt
        go_wp2
        go_meet
        case rel => exact REL.out)
  case rest =>
    have VB := Lib.hid hcut
    clear hcut
    go_upto_if 35 with fail
    have B3 := Lib.hid (below_al (below_al (below_al (Below.refl wc.heap.size wc) (.cells #[.int .i64 4, .int .i64 0, .string ⟨#[118, 97, 114, 46, 118]⟩, .slice none 0 0, .slice none 0 0] 35)) (.cells #[.string ⟨#[99, 112, 117]⟩, .slice (some ⟨wc.heap.size, 0, none⟩) 1 1] 26)) (.cells #[.int .i64 3, .string ⟨#[97]⟩, .slice (some ⟨wc.heap.size + 1, 0, none⟩) 1 1, .slice none 0 0] 30))
    have BB := Lib.hid (show BBox (((wc.alloc (.cells #[.int .i64 4, .int .i64 0, .string ⟨#[118, 97, 114, 46, 118]⟩, .slice none 0 0, .slice none 0 0] 35)).alloc (.cells #[.string ⟨#[99, 112, 117]⟩, .slice (some ⟨wc.heap.size, 0, none⟩) 1 1] 26)).alloc (.cells #[.int .i64 3, .string ⟨#[97]⟩, .slice (some ⟨wc.heap.size + 1, 0, none⟩) 1 1, .slice none 0 0] 30)) (wc.heap.size + 1 + 1) from ⟨_, _, heap_at (by simp), attrs_one (ns := refV) (at_lo (heap_at (by simp))) (nodes_of_block (ns := refV) (at_lo (at_lo (heap_alloc_new wc _))) ⟨.slice none 0 0, .slice none 0 0, _, rfl, parts_nil _ _ _, places_nil _ _ _, rfl⟩)⟩)
    generalize ((wc.alloc (.cells #[.int .i64 4, .int .i64 0, .string ⟨#[118, 97, 114, 46, 118]⟩, .slice none 0 0, .slice none 0 0] 35)).alloc (.cells #[.string ⟨#[99, 112, 117]⟩, .slice (some ⟨wc.heap.size, 0, none⟩) 1 1] 26)).alloc (.cells #[.int .i64 3, .string ⟨#[97]⟩, .slice (some ⟨wc.heap.size + 1, 0, none⟩) 1 1, .slice none 0 0] 30) = w3 at *
    have VW := Lib.hid (VB.out.below B3.out)
    clear B3 VB
    go_cut [11] from 35 (fun s w' => Below w3.heap.size w3 w' ∧ InRow w3 w' s (bsI gv false n))
    case first =>
      cases gv with
      | false =>
        go_wp2
        go_meet
        case rel => exact ⟨Below.refl _ _, [], own_none _ _ _ _, LeafP.nil, rfl⟩
      | true =>
        go_wp2_with (at_builtin; refine wpList_append_own _ rfl _ _ 36 rfl w3.heap.size 41 i0 _ 5 72 Tryz.underlying36 hi0 hz0 hz1 hz2 rfl (by decide) (.slice none 0 0) 0 [] rfl (own_none _ _ _ _) ⟨w3.heap.size, 0, none⟩ 1 1 [.string ⟨#[118]⟩, .int .i64 1, .int .i64 n, .string ⟨#[]⟩, .slice none 0 0] rfl rfl (by exact news_new w3 #[.string ⟨#[118]⟩, .int .i64 1, .int .i64 n, .string ⟨#[]⟩, .slice none 0 0] 41) (by simp [Value.oneCell']) (by unfold maxLen; omega) (by omega) (by simp) ?_; intro v6 w6 hown6 hgrow6 _)
        have BW := Lib.hid (show Below w3.heap.size w3 w6 from below_grown (Below.refl _ _) hgrow6 (fun k hk => by cases hk))
        go_meet
        case rel => exact ⟨BW.out, [((lbV, vnum n), .slice none 0 0)], hown6, (fun p hp => by obtain rfl := List.mem_singleton.1 hp; exact ⟨rfl, none, 0, rfl⟩), rfl⟩
    case rest =>
      obtain ⟨hb, ps, hown, hlf, hps⟩ := hcut
      have BC := Lib.hid hb
      have OW2 := Lib.hid hown
      have LF := Lib.hid hlf
      have PS := Lib.hid hps
      have PL := Lib.hid (show ps.length ≤ 2 by
        have e : ps.length = (bsI gv false n).length := by rw [← hps]; simp
        rw [e]
        cases gv <;> simp [bsI])
      obtain ⟨so, sc, rfl⟩ := own_len hown
      clear hb hown hlf hps
      go_upto_if 43 with fail
      go_cut [11] from 43 (fun s w' => Below w3.heap.size w3 w' ∧ InRow w3 w' s (bsI gv ot n))
      case first =>
        cases ot with
        | false =>
          go_wp2
          go_meet
          case rel => exact ⟨BC.out, ps, OW2.out, LF.out, PS.out⟩
        | true =>
          go_wp2_with (at_builtin; refine wpList_append_own _ rfl _ _ 36 rfl w3.heap.size 41 i0 _ 5 72 Tryz.underlying36 hi0 hz0 hz1 hz2 rfl (by decide) (.slice so ps.length sc) ps.length (bpsCells ps) rfl (World.ownsRow.alloc OW2.out _) ⟨wc.heap.size, 0, none⟩ 1 1 [.string ⟨#[119]⟩, .int .i64 1, .int .i64 0, .string ⟨#[]⟩, .slice none 0 0] rfl rfl (by exact news_new wc #[.string ⟨#[119]⟩, .int .i64 1, .int .i64 0, .string ⟨#[]⟩, .slice none 0 0] 41) (by simp [Value.oneCell']) (by have := PL.out; unfold maxLen; omega) (by have := PL.out; omega) (by have := BC.out.size; simp; omega) ?_; intro v6 w6 hown6 hgrow6 _)
          have BW := Lib.hid (show Below w3.heap.size w3 w6 from below_grown BC.out hgrow6 (fun k hk => (World.ownsRow.lt OW2.out k hk).1))
          go_meet
          case rel => exact ⟨BW.out, ps ++ [((lbW, vnum 0), .slice none 0 0)], (by rw [bps_app, List.length_append]; exact hown6), LF.out.app (fun p hp => by obtain rfl := List.mem_singleton.1 hp; exact ⟨rfl, none, 0, rfl⟩), (by rw [List.map_append, PS.out]; cases gv <;> rfl)⟩
      case rest =>
        obtain ⟨hb, qs, hown, hlf, hqs⟩ := hcut
        have BD := Lib.hid (binds_of_own hown hlf)
        rw [hqs] at BD
        have QL := Lib.hid (show qs.length = (bsI gv ot n).length by rw [← hqs]; simp)
        obtain ⟨so2, sc2, rfl⟩ := own_len hown
        obtain ⟨lw, -, vao, vac, hv3, hva⟩ := VW.out
        obtain ⟨bao, bac, hb3, hba⟩ := BB.out
        have Bc := Lib.hid (below_tr lw hb)
        have HV := Lib.hid ((hb.block _ (Array.getElem?_eq_some_iff.1 hv3).1).trans hv3)
        have HB := Lib.hid ((hb.block _ (Array.getElem?_eq_some_iff.1 hb3).1).trans hb3)
        have VA := Lib.hid (hva.below hb)
        have BA := Lib.hid (hba.below hb)
        have v0 := cell_of_row _ _ 0 _ _ _ HV.out
        have v1 := cell_of_row _ _ 1 _ _ _ HV.out
        have v2 := cell_of_row _ _ 2 _ _ _ HV.out
        have v3 := cell_of_row _ _ 3 _ _ _ HV.out
        have b0 := cell_of_row _ _ 0 _ _ _ HB.out
        have b1 := cell_of_row _ _ 1 _ _ _ HB.out
        have b2 := cell_of_row _ _ 2 _ _ _ HB.out
        have b3 := cell_of_row _ _ 3 _ _ _ HB.out
        simp at v0 v1 v2 v3 b0 b1 b2 b3
        clear hb hown hlf hqs lw hv3 hva hb3 hba VW BB BC OW2 LF PS PL
        go_wp2_with fail
        have B5 := Lib.hid (below_al (Below.refl wc.heap.size wc) (.cells #[.int .i64 3, .string ⟨#[97]⟩, .slice bao 1 bac, .slice none 0 0, .int .i64 1, .string ⟨#[118]⟩, .slice vao (bVar df).attrs.length vac, .slice none 0 0] 30))
        have PW := Lib.hid (wants_in (wc.alloc (.cells #[.int .i64 3, .string ⟨#[97]⟩, .slice bao 1 bac, .slice none 0 0, .int .i64 1, .string ⟨#[118]⟩, .slice vao (bVar df).attrs.length vac, .slice none 0 0] 30)) gv df ot n hn _ _ (blks_two (bc := 2) (heap_alloc_new wc (.cells #[.int .i64 3, .string ⟨#[97]⟩, .slice bao 1 bac, .slice none 0 0, .int .i64 1, .string ⟨#[118]⟩, .slice vao (bVar df).attrs.length vac, .slice none 0 0] 30)) (BA.out.below B5.out) (VA.out.below B5.out)) (BD.out.below B5.out) (HT.out.below (below_tr Bc.out B5.out)) (HE.out.below (below_tr Bc.out B5.out) HE.out.lt))
        refine PW.out.mono ?_
        rintro e w6 ⟨lv, rfl, hb6, hz6, ho6⟩
        have B6a := Lib.hid (below_tr B5.out hb6)
        have B6 := Lib.hid (below_tr Bc.out B6a.out)
        have Z6 := Lib.hid hz6
        have O6 := Lib.hid ho6
        have HV6 := Lib.hid ((B6a.out.block _ (Array.getElem?_eq_some_iff.1 HV.out).1).trans HV.out)
        have HB6 := Lib.hid ((B6a.out.block _ (Array.getElem?_eq_some_iff.1 HB.out).1).trans HB.out)
        have VA6 := Lib.hid (VA.out.below B6a.out)
        have BA6 := Lib.hid (BA.out.below B6a.out)
        clear v0 v1 v2 v3 b0 b1 b2 b3 hb6 hz6 ho6 PW HV HB VA BA BD
        have v0 := cell_of_row _ _ 0 _ _ _ HV6.out
        have v1 := cell_of_row _ _ 1 _ _ _ HV6.out
        have v2 := cell_of_row _ _ 2 _ _ _ HV6.out
        have v3 := cell_of_row _ _ 3 _ _ _ HV6.out
        have b0 := cell_of_row _ _ 0 _ _ _ HB6.out
        have b1 := cell_of_row _ _ 1 _ _ _ HB6.out
        have b2 := cell_of_row _ _ 2 _ _ _ HB6.out
        have b3 := cell_of_row _ _ 3 _ _ _ HB6.out
        simp at v0 v1 v2 v3 b0 b1 b2 b3
        go_wp2_with fail
        have B7 := Lib.hid (below_al (below_al (Below.refl w6.heap.size w6) (.cells #[.int .i64 3, .string ⟨#[97]⟩, .slice bao 1 bac, .slice none 0 0, .int .i64 1, .string ⟨#[118]⟩, .slice vao (bVar df).attrs.length vac, .slice none 0 0] 30)) (.cells #[.string ⟨#[118]⟩, .int .i64 2, .int .i64 0, .string ⟨#[]⟩, .slice none 0 0] 41))
        have PW2 := Lib.hid (wants_str ((w6.alloc (.cells #[.int .i64 3, .string ⟨#[97]⟩, .slice bao 1 bac, .slice none 0 0, .int .i64 1, .string ⟨#[118]⟩, .slice vao (bVar df).attrs.length vac, .slice none 0 0] 30)).alloc (.cells #[.string ⟨#[118]⟩, .int .i64 2, .int .i64 0, .string ⟨#[]⟩, .slice none 0 0] 41)) df _ (.slice (some ⟨w6.heap.size + 1, 0, none⟩) 1 1) (blks_two (bc := 2) (at_lo (heap_alloc_new w6 (.cells #[.int .i64 3, .string ⟨#[97]⟩, .slice bao 1 bac, .slice none 0 0, .int .i64 1, .string ⟨#[118]⟩, .slice vao (bVar df).attrs.length vac, .slice none 0 0] 30))) (BA6.out.below B7.out) (VA6.out.below B7.out)) (binds_lit (s := lbV) (v := ⟨2, 0, ⟨#[]⟩, []⟩) (heap_at (by simp)) rfl) (HT.out.below (below_tr B6.out B7.out)) (HE.out.below (below_tr B6.out B7.out) HE.out.lt))
        refine PW2.out.mono ?_
        rintro e w8 ⟨lv2, rfl, hb8, hz8, -⟩
        obtain rfl := hz8 (by decide)
        have B8a := Lib.hid (below_tr B7.out hb8)
        have B8 := Lib.hid (below_tr B6.out B8a.out)
        clear hb8 hz8 PW2 v0 v1 v2 v3 b0 b1 b2 b3 HV6 HB6 VA6 BA6
        cases gv with
        | false =>
          cases df with
          | false =>
            cases ot with
            | false =>
              replace Z6 := Lib.hid (show (2 : Int) ≠ 0 → lv = .slice none 0 0 from Z6.out)
              rw [show resI false false false n = 2 from rfl]
              obtain rfl := Z6.out (by decide)
              go_wp2_with fail
              refine (lnum _ _).mono ?_
              rintro e w9 ⟨rfl, rfl⟩
              go_wp2_with fail
              refine (lnum _ _).mono ?_
              rintro e w9 ⟨rfl, rfl⟩
              go_wp2_with fail
              refine (law_awake8 _ (HT.out.below B8.out) (HE.out.below B8.out HE.out.lt)).mono ?_
              rintro e w10 ⟨rfl, hb10⟩
              have B10 := Lib.hid (below_tr B8.out hb10)
              clear hb10
              go_wp2_with fail
              go_ret
              exact ⟨rfl, B10.out⟩
            | true =>
              replace Z6 := Lib.hid (show (2 : Int) ≠ 0 → lv = .slice none 0 0 from Z6.out)
              rw [show resI false false true n = 2 from rfl]
              obtain rfl := Z6.out (by decide)
              go_wp2_with fail
              refine (lnum _ _).mono ?_
              rintro e w9 ⟨rfl, rfl⟩
              go_wp2_with fail
              refine (lnum _ _).mono ?_
              rintro e w9 ⟨rfl, rfl⟩
              go_wp2_with fail
              refine (law_awake8 _ (HT.out.below B8.out) (HE.out.below B8.out HE.out.lt)).mono ?_
              rintro e w10 ⟨rfl, hb10⟩
              have B10 := Lib.hid (below_tr B8.out hb10)
              clear hb10
              go_wp2_with fail
              go_ret
              exact ⟨rfl, B10.out⟩
          | true =>
            cases ot with
            | false =>
              replace O6 := Lib.hid (show (0 : Int) = 0 → w6.ownsRow _ 50 5 lv 1 (aCells 5) from O6.out)
              rw [show resI false true false n = 0 from rfl]
              obtain ⟨gw, cw, rfl, -⟩ := want_row (O6.out rfl) (by decide)
              have k0 : w8.cell? ⟨gw, 0, none⟩ = some (.string ⟨#[97]⟩) := hold B8a.out ((World.ownsRow.cellAt (O6.out rfl) 0 (by decide)).trans rfl)
              have k1 : w8.cell? ⟨gw, 1, none⟩ = some (.string ⟨#[]⟩) := hold B8a.out ((World.ownsRow.cellAt (O6.out rfl) 1 (by decide)).trans rfl)
              have k2 : w8.cell? ⟨gw, 2, none⟩ = some (.int .i64 5) := hold B8a.out ((World.ownsRow.cellAt (O6.out rfl) 2 (by decide)).trans rfl)
              have k3 : w8.cell? ⟨gw, 3, none⟩ = some (.int .i64 0) := hold B8a.out ((World.ownsRow.cellAt (O6.out rfl) 3 (by decide)).trans rfl)
              have k4 : w8.cell? ⟨gw, 4, none⟩ = some (.int .i64 0) := hold B8a.out ((World.ownsRow.cellAt (O6.out rfl) 4 (by decide)).trans rfl)
              go_wp2_with fail
              refine (lnum _ _).mono ?_
              rintro e w9 ⟨rfl, rfl⟩
              go_wp2_with fail
              refine (lnum _ _).mono ?_
              rintro e w9 ⟨rfl, rfl⟩
              go_wp2_with fail
              refine (law_awake8 _ (HT.out.below B8.out) (HE.out.below B8.out HE.out.lt)).mono ?_
              rintro e w10 ⟨rfl, hb10⟩
              have B10 := Lib.hid (below_tr B8.out hb10)
              clear hb10
              go_wp2_with fail
              go_ret
              exact ⟨rfl, B10.out⟩
            | true =>
              replace Z6 := Lib.hid (show (2 : Int) ≠ 0 → lv = .slice none 0 0 from Z6.out)
              rw [show resI false true true n = 2 from rfl]
              obtain rfl := Z6.out (by decide)
              go_wp2_with fail
              refine (lnum _ _).mono ?_
              rintro e w9 ⟨rfl, rfl⟩
              go_wp2_with fail
              refine (lnum _ _).mono ?_
              rintro e w9 ⟨rfl, rfl⟩
              go_wp2_with fail
              refine (law_awake8 _ (HT.out.below B8.out) (HE.out.below B8.out HE.out.lt)).mono ?_
              rintro e w10 ⟨rfl, hb10⟩
              have B10 := Lib.hid (below_tr B8.out hb10)
              clear hb10
              go_wp2_with fail
              go_ret
              exact ⟨rfl, B10.out⟩
        | true =>
          cases df with
          | false =>
            cases ot with
            | false =>
              by_cases hneg : n < 0
              · have ER : resI true false false n = 1 := by unfold resI cpuV; simp [hneg]
                rw [ER]
                have Z1 := Z6.out
                rw [ER] at Z1
                obtain rfl := Z1 (by decide)
                clear Z1 ER O6 Z6
                go_wp2_with fail
                refine (lnum _ _).mono ?_
                rintro e w9 ⟨rfl, rfl⟩
                go_wp2_with fail
                refine (lnum _ _).mono ?_
                rintro e w9 ⟨rfl, rfl⟩
                go_wp2_with fail
                refine (law_awake8 _ (HT.out.below B8.out) (HE.out.below B8.out HE.out.lt)).mono ?_
                rintro e w10 ⟨rfl, hb10⟩
                have B10 := Lib.hid (below_tr B8.out hb10)
                clear hb10
                go_wp2_with fail
                go_ret
                exact ⟨rfl, B10.out⟩
              · have ER : resI true false false n = 0 := by unfold resI cpuV; simp [hneg]
                rw [ER]
                have O1 := O6.out
                rw [ER] at O1
                replace O6 := Lib.hid (show (0 : Int) = 0 → w6.ownsRow _ 50 5 lv 1 (aCells n) from O1)
                clear O1 ER Z6
                obtain ⟨gw, cw, rfl, -⟩ := want_row (O6.out rfl) (by decide)
                have k0 : w8.cell? ⟨gw, 0, none⟩ = some (.string ⟨#[97]⟩) := hold B8a.out ((World.ownsRow.cellAt (O6.out rfl) 0 (by decide)).trans rfl)
                have k1 : w8.cell? ⟨gw, 1, none⟩ = some (.string ⟨#[]⟩) := hold B8a.out ((World.ownsRow.cellAt (O6.out rfl) 1 (by decide)).trans rfl)
                have k2 : w8.cell? ⟨gw, 2, none⟩ = some (.int .i64 n) := hold B8a.out ((World.ownsRow.cellAt (O6.out rfl) 2 (by decide)).trans rfl)
                have k3 : w8.cell? ⟨gw, 3, none⟩ = some (.int .i64 0) := hold B8a.out ((World.ownsRow.cellAt (O6.out rfl) 3 (by decide)).trans rfl)
                have k4 : w8.cell? ⟨gw, 4, none⟩ = some (.int .i64 0) := hold B8a.out ((World.ownsRow.cellAt (O6.out rfl) 4 (by decide)).trans rfl)
                go_wp2_with fail
                refine (lnum _ _).mono ?_
                rintro e w9 ⟨rfl, rfl⟩
                go_wp2_with fail
                refine (lnum _ _).mono ?_
                rintro e w9 ⟨rfl, rfl⟩
                go_wp2_with fail
                refine (law_awake8 _ (HT.out.below B8.out) (HE.out.below B8.out HE.out.lt)).mono ?_
                rintro e w10 ⟨rfl, hb10⟩
                have B10 := Lib.hid (below_tr B8.out hb10)
                clear hb10
                go_wp2_with fail
                go_ret
                exact ⟨rfl, B10.out⟩
            | true =>
              replace Z6 := Lib.hid (show (2 : Int) ≠ 0 → lv = .slice none 0 0 from Z6.out)
              rw [show resI true false true n = 2 from rfl]
              obtain rfl := Z6.out (by decide)
              go_wp2_with fail
              refine (lnum _ _).mono ?_
              rintro e w9 ⟨rfl, rfl⟩
              go_wp2_with fail
              refine (lnum _ _).mono ?_
              rintro e w9 ⟨rfl, rfl⟩
              go_wp2_with fail
              refine (law_awake8 _ (HT.out.below B8.out) (HE.out.below B8.out HE.out.lt)).mono ?_
              rintro e w10 ⟨rfl, hb10⟩
              have B10 := Lib.hid (below_tr B8.out hb10)
              clear hb10
              go_wp2_with fail
              go_ret
              exact ⟨rfl, B10.out⟩
          | true =>
            cases ot with
            | false =>
              by_cases hneg : n < 0
              · have ER : resI true true false n = 1 := by unfold resI cpuV; simp [hneg]
                rw [ER]
                have Z1 := Z6.out
                rw [ER] at Z1
                obtain rfl := Z1 (by decide)
                clear Z1 ER O6 Z6
                go_wp2_with fail
                refine (lnum _ _).mono ?_
                rintro e w9 ⟨rfl, rfl⟩
                go_wp2_with fail
                refine (lnum _ _).mono ?_
                rintro e w9 ⟨rfl, rfl⟩
                go_wp2_with fail
                refine (law_awake8 _ (HT.out.below B8.out) (HE.out.below B8.out HE.out.lt)).mono ?_
                rintro e w10 ⟨rfl, hb10⟩
                have B10 := Lib.hid (below_tr B8.out hb10)
                clear hb10
                go_wp2_with fail
                go_ret
                exact ⟨rfl, B10.out⟩
              · have ER : resI true true false n = 0 := by unfold resI cpuV; simp [hneg]
                rw [ER]
                have O1 := O6.out
                rw [ER] at O1
                replace O6 := Lib.hid (show (0 : Int) = 0 → w6.ownsRow _ 50 5 lv 1 (aCells n) from O1)
                clear O1 ER Z6
                obtain ⟨gw, cw, rfl, -⟩ := want_row (O6.out rfl) (by decide)
                have k0 : w8.cell? ⟨gw, 0, none⟩ = some (.string ⟨#[97]⟩) := hold B8a.out ((World.ownsRow.cellAt (O6.out rfl) 0 (by decide)).trans rfl)
                have k1 : w8.cell? ⟨gw, 1, none⟩ = some (.string ⟨#[]⟩) := hold B8a.out ((World.ownsRow.cellAt (O6.out rfl) 1 (by decide)).trans rfl)
                have k2 : w8.cell? ⟨gw, 2, none⟩ = some (.int .i64 n) := hold B8a.out ((World.ownsRow.cellAt (O6.out rfl) 2 (by decide)).trans rfl)
                have k3 : w8.cell? ⟨gw, 3, none⟩ = some (.int .i64 0) := hold B8a.out ((World.ownsRow.cellAt (O6.out rfl) 3 (by decide)).trans rfl)
                have k4 : w8.cell? ⟨gw, 4, none⟩ = some (.int .i64 0) := hold B8a.out ((World.ownsRow.cellAt (O6.out rfl) 4 (by decide)).trans rfl)
                go_wp2_with fail
                refine (lnum _ _).mono ?_
                rintro e w9 ⟨rfl, rfl⟩
                go_wp2_with fail
                refine (lnum _ _).mono ?_
                rintro e w9 ⟨rfl, rfl⟩
                go_wp2_with fail
                refine (law_awake8 _ (HT.out.below B8.out) (HE.out.below B8.out HE.out.lt)).mono ?_
                rintro e w10 ⟨rfl, hb10⟩
                have B10 := Lib.hid (below_tr B8.out hb10)
                clear hb10
                go_wp2_with fail
                go_ret
                exact ⟨rfl, B10.out⟩
            | true =>
              replace Z6 := Lib.hid (show (2 : Int) ≠ 0 → lv = .slice none 0 0 from Z6.out)
              rw [show resI true true true n = 2 from rfl]
              obtain rfl := Z6.out (by decide)
              go_wp2_with fail
              refine (lnum _ _).mono ?_
              rintro e w9 ⟨rfl, rfl⟩
              go_wp2_with fail
              refine (lnum _ _).mono ?_
              rintro e w9 ⟨rfl, rfl⟩
              go_wp2_with fail
              refine (law_awake8 _ (HT.out.below B8.out) (HE.out.below B8.out HE.out.lt)).mono ?_
              rintro e w10 ⟨rfl, hb10⟩
              have B10 := Lib.hid (below_tr B8.out hb10)
              clear hb10
              go_wp2_with fail
              go_ret
              exact ⟨rfl, B10.out⟩
end
end Go.Proofs.YtndeihmclecmcaaGreatDoor
