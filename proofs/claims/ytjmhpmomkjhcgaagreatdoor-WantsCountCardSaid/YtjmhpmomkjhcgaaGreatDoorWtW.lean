/- The law of counts. -/
import Derived.Test.YtjmhpmomkjhcgaaGreatDoorWtV
namespace Go.Proofs.YtjmhpmomkjhcgaaGreatDoor
open Go.RowKit
set_option linter.unusedVariables false
set_option linter.unusedSimpArgs false
section
variable (w : World)
set_option maxRecDepth 20000 in
theorem pnum8 (n : Int) : Calls Tryz.prog 9 #[.int .i64 n] w fun e w' => ∃ g, e = .returned (.slice (some ⟨g, 0, none⟩) 1 1) ∧ Below w.heap.size w w' ∧ w'.heap[g]? = some (.cells #[.int .i64 1, .int .i64 n, .string ⟨#[]⟩, .slice none 0 0, .slice none 0 0] 29) := by
  have B := Lib.hid (below_al (Below.refl w.heap.size w) (.cells #[.int .i64 1, .int .i64 n, .string ⟨#[]⟩, .slice none 0 0, .slice none 0 0] 29))
  have H := Lib.hid (heap_alloc_new w (.cells #[.int .i64 1, .int .i64 n, .string ⟨#[]⟩, .slice none 0 0, .slice none 0 0] 29))
  go_enter Tryz.func9, Tryz.ntmps9
  go_wp2_with fail
  go_ret
  exact ⟨_, rfl, B.out, H.out⟩
end
theorem num_rd {w : World} {g cap : Nat} {m : Int} {t : TypeId} (h : w.heap[g]? = some (.cells #[.int .i64 1, .int .i64 m, .string ⟨#[]⟩, .slice none 0 0, .slice none 0 0] t)) : NodesRd w (.slice (some ⟨g, 0, none⟩) 1 cap) (numN m) :=
  nodes_of_block (ns := numN m) h ⟨.slice none 0 0, .slice none 0 0, _, rfl, parts_nil _ _ _, places_nil _ _ _, rfl⟩
theorem neg_rd {w : World} {g k cap kc : Nat} {m : Int} {t tk : TypeId} (hk : w.heap[k]? = some (.cells #[.int .i64 0] tk)) (h : w.heap[g]? = some (.cells #[.int .i64 1, .int .i64 m, .string ⟨#[]⟩, .slice none 0 0, .slice none 0 0, .int .i64 9, .int .i64 0, .string ⟨#[]⟩, .slice none 0 0, .slice (some ⟨k, 0, none⟩) 1 kc] t)) : NodesRd w (.slice (some ⟨g, 0, none⟩) 2 cap) (negN m) :=
  nodes_of_block (ns := negN m) h ⟨.slice none 0 0, .slice none 0 0, _, rfl, parts_nil _ _ _, places_nil _ _ _, .slice none 0 0, .slice (some ⟨k, 0, none⟩) 1 kc, _, rfl, parts_nil _ _ _, places_of_block (ks := [0]) hk, rfl⟩
theorem add_rd {w : World} {g k cap kc : Nat} {m : Int} {t tk : TypeId} (hk : w.heap[k]? = some (.cells #[.int .i64 0, .int .i64 1] tk)) (h : w.heap[g]? = some (.cells #[.int .i64 1, .int .i64 m, .string ⟨#[]⟩, .slice none 0 0, .slice none 0 0, .int .i64 4, .int .i64 0, .string kIndex, .slice none 0 0, .slice none 0 0, .int .i64 19, .int .i64 0, .string ⟨#[]⟩, .slice none 0 0, .slice (some ⟨k, 0, none⟩) 2 kc] t)) : NodesRd w (.slice (some ⟨g, 0, none⟩) 3 cap) (addN m) :=
  nodes_of_block (ns := addN m) h ⟨.slice none 0 0, .slice none 0 0, _, rfl, parts_nil _ _ _, places_nil _ _ _, .slice none 0 0, .slice none 0 0, _, rfl, parts_nil _ _ _, places_nil _ _ _, .slice none 0 0, .slice (some ⟨k, 0, none⟩) 2 kc, _, rfl, parts_nil _ _ _, places_of_block (ks := [0, 1]) hk, rfl⟩
/-- A block of one node, its attributes in a block of their own. -/
theorem blks_one {w : World} {gb ga bc ac : Nat} {lb : ByteArray} {al : List (ByteArray × List NodeL)} {ta tb : TypeId} {xs : List Value} (hb : w.heap[gb]? = some (.cells #[.int .i64 3, .string lb, .slice (some ⟨ga, 0, none⟩) al.length ac, .slice none 0 0] tb)) (ha : AttrsRd w (.slice (some ⟨ga, 0, none⟩) al.length ac) al) :
    BlksRd 1 w (.slice (some ⟨gb, 0, none⟩) 1 bc) [lawB lb al] :=
  ⟨some ⟨gb, 0, none⟩, bc, rfl, fun i b hi => by
    have h0 : i = 0 := by have := (List.getElem?_eq_some_iff.1 hi).1; simpa using this
    subst h0
    obtain rfl : lawB lb al = b := by simpa using hi
    have k := fun r => cell_of_row w gb r _ tb (0, 0) hb
    exact ⟨gb, 0, some ⟨ga, 0, none⟩, ac, none, 0, rfl, k 0, k 1, k 2, k 3, ha, rfl, _, _, rfl⟩⟩
theorem attrs_one {w : World} {ga ac : Nat} {x : ByteArray} {ns : List NodeL} {g : Nat} {ta : TypeId} (h : w.heap[ga]? = some (.cells #[.string x, .slice (some ⟨g, 0, none⟩) ns.length ns.length] ta)) (hn : NodesRd w (.slice (some ⟨g, 0, none⟩) ns.length ns.length) ns) :
    AttrsRd w (.slice (some ⟨ga, 0, none⟩) 1 ac) [(x, ns)] :=
  ⟨some ⟨ga, 0, none⟩, ac, rfl, fun i a hi => by
    have h0 : i = 0 := by have := (List.getElem?_eq_some_iff.1 hi).1; simpa using this
    subst h0
    obtain rfl : (x, ns) = a := by simpa using hi
    have k := fun r => cell_of_row w ga r _ ta (0, 0) h
    exact ⟨ga, 0, some ⟨g, 0, none⟩, ns.length, rfl, k 0, k 1, hn⟩⟩
theorem attrs_two {w : World} {ga ac : Nat} {x y : ByteArray} {ns ms : List NodeL} {g g' : Nat} {ta : TypeId} (h : w.heap[ga]? = some (.cells #[.string x, .slice (some ⟨g, 0, none⟩) ns.length ns.length, .string y, .slice (some ⟨g', 0, none⟩) ms.length ms.length] ta)) (hn : NodesRd w (.slice (some ⟨g, 0, none⟩) ns.length ns.length) ns) (hm : NodesRd w (.slice (some ⟨g', 0, none⟩) ms.length ms.length) ms) :
    AttrsRd w (.slice (some ⟨ga, 0, none⟩) 2 ac) [(x, ns), (y, ms)] :=
  ⟨some ⟨ga, 0, none⟩, ac, rfl, fun i a hi => by
    have k := fun r => cell_of_row w ga r _ ta (0, 0) h
    match i, hi with
    | 0, hi =>
      obtain rfl : (x, ns) = a := by simpa using hi
      exact ⟨ga, 0, some ⟨g, 0, none⟩, ns.length, rfl, k 0, k 1, hn⟩
    | 1, hi =>
      obtain rfl : (y, ms) = a := by simpa using hi
      exact ⟨ga, 0, some ⟨g', 0, none⟩, ms.length, rfl, k 2, k 3, hm⟩
    | i + 2, hi => simp at hi⟩
/-- What the answer's row is. -/
theorem want_row {w : World} {B n : Nat} {v : Value} {xs : List Value} (h : w.ownsRow B 46 5 v n xs) (hl : 0 < n) : ∃ g cap, v = .slice (some ⟨g, 0, none⟩) n cap ∧ B ≤ g := by
  rcases h.2 with ⟨rfl, h0⟩ | ⟨g, cap, cur, rfl, hbg, hg, r⟩
  · omega
  · exact ⟨g, cap, rfl, hbg⟩
theorem wantsCells_at : ∀ (l : List WantL) (i : Nat) (x : WantL), l[i]? = some x → ∀ r, r < 5 → (wantsCells l)[i * 5 + r]? = (wantCells x)[r]? := by
  intro l
  induction l with
  | nil => intro i p h; simp at h
  | cons a l ih =>
    intro i p h r hr
    show (wantCells a ++ wantsCells l)[i * 5 + r]? = _
    cases i with
    | zero =>
      simp at h; subst h
      rw [List.getElem?_append_left (by show 0 * 5 + r < 5; omega)]
      congr 1; omega
    | succ i =>
      rw [List.getElem?_append_right (by show 5 ≤ (i + 1) * 5 + r; omega), ← ih i p (by simpa using h) r hr]
      congr 1
      show (i + 1) * 5 + r - 5 = _
      omega
theorem name_w (i : Nat) : nameI (⟨#[]⟩ ++ lbW) i = ⟨#[119, 45]⟩ ++ itoaB (i : Int) := by
  unfold nameI
  rw [show (⟨#[]⟩ : ByteArray) ++ lbW ++ ⟨#[45]⟩ = ⟨#[119, 45]⟩ by kernel_rfl]
section
variable (w : World)
set_option maxHeartbeats 4000000 in
set_option maxRecDepth 20000 in
theorem law_awake8 (ht : TabOK w) (he : ErrVar w) : Calls Tryz.prog 13 #[] w (Made (.bool true) w) := by
  have HT := Lib.hid ht
  have HE := Lib.hid he
  clear ht he
  go_enter Tryz.func13, Tryz.ntmps13
  go_wp2_with fail
  refine (pnum8 _ _).mono ?_
  rintro e w1 ⟨g, rfl, hb1, hg1⟩
  go_wp2_with fail
  have z0 : ((w1.alloc (.cells #[.string ⟨#[99, 111, 117, 110, 116]⟩, .slice (some ⟨g, 0, none⟩) 1 1] 31)).alloc (.cells #[.int .i64 3, .string ⟨#[97]⟩, .slice (some ⟨w1.heap.size, 0, none⟩) 1 1, .slice none 0 0] 35)).heap[w1.heap.size]? = some (.cells #[.string ⟨#[99, 111, 117, 110, 116]⟩, .slice (some ⟨g, 0, none⟩) 1 1] 31) := (Below.block (below_al (Below.refl _ _) _) w1.heap.size (by simp)).trans (heap_alloc_new w1 _)
  have z1 : ((w1.alloc (.cells #[.string ⟨#[99, 111, 117, 110, 116]⟩, .slice (some ⟨g, 0, none⟩) 1 1] 31)).alloc (.cells #[.int .i64 3, .string ⟨#[97]⟩, .slice (some ⟨w1.heap.size, 0, none⟩) 1 1, .slice none 0 0] 35)).heap[w1.heap.size + 1]? = some (.cells #[.int .i64 3, .string ⟨#[97]⟩, .slice (some ⟨w1.heap.size, 0, none⟩) 1 1, .slice none 0 0] 35) := heap_at (by simp)
  have z2 : Below w1.heap.size w1 ((w1.alloc (.cells #[.string ⟨#[99, 111, 117, 110, 116]⟩, .slice (some ⟨g, 0, none⟩) 1 1] 31)).alloc (.cells #[.int .i64 3, .string ⟨#[97]⟩, .slice (some ⟨w1.heap.size, 0, none⟩) 1 1, .slice none 0 0] 35)) := below_al (below_al (Below.refl _ _) _) _
  generalize (w1.alloc (.cells #[.string ⟨#[99, 111, 117, 110, 116]⟩, .slice (some ⟨g, 0, none⟩) 1 1] 31)).alloc (.cells #[.int .i64 3, .string ⟨#[97]⟩, .slice (some ⟨w1.heap.size, 0, none⟩) 1 1, .slice none 0 0] 35) = w2 at *
  have B2 := Lib.hid (below_tr hb1 z2)
  have N2 := Lib.hid (num_rd (cap := 1) ((z2.block g (Array.getElem?_eq_some_iff.1 hg1).1).trans hg1))
  have R2 := Lib.hid (blks_one (bc := 1) (lb := lbA) (al := [(kCount, numN 2)]) (ta := 35) (xs := []) z1 (attrs_one (ac := 1) z0 N2.out))
  have HL : ∀ a ∈ [(kCount, numN 2)], (a.1 = kCpu ∨ a.1 = kCount) ∧ LawEx a.2 := fun a ha => by
    obtain rfl := List.mem_singleton.1 ha
    exact ⟨.inr rfl, 2, by omega, .inl rfl⟩
  have PW := Lib.hid (pwants0 w2 0 _ _ R2.out (blks_ok (by simp) (by decide) (by decide) (once1 _) HL) (HT.out.below B2.out) (HE.out.below B2.out HE.out.lt) (fun b hb => by obtain rfl := List.mem_singleton.1 hb; rfl) lawV (fun b hb => by obtain rfl := List.mem_singleton.1 hb; exact node_ok (by simp) (by decide) HL))
  rw [res_awake] at PW
  clear z0 z1 z2 HL N2 R2 hb1 hg1
  refine PW.out.mono ?_
  rintro e w3 ⟨v, rfl, hb3, ho, -⟩
  have HO := ho rfl
  obtain ⟨gw, cw, rfl, -⟩ := want_row HO (by simp)
  have k0 : w3.cell? ⟨gw, 0, none⟩ = some (.string ⟨#[97, 45, 48]⟩) := (World.ownsRow.cellAt HO 0 (by simp)).trans (by kernel_rfl)
  have k5 : w3.cell? ⟨gw, 5, none⟩ = some (.string ⟨#[97, 45, 49]⟩) := (World.ownsRow.cellAt HO 5 (by simp)).trans (by kernel_rfl)
  have B3 := Lib.hid (below_tr B2.out hb3)
  clear ho HO hb3 PW
  go_wp2_with fail
  refine (lnum _ _).mono ?_
  rintro e w4 ⟨rfl, rfl⟩
  go_wp2_with fail
  go_ret
  exact ⟨rfl, B3.out⟩
set_option maxRecDepth 20000 in
theorem pmap3 (b : Bool) (x y : Int) : Calls Tryz.prog 12 #[.bool b, .int .i64 x, .int .i64 y] w (Made (.int .i64 (if b then x else y)) w) := by
  cases b with
  | true =>
    go_enter Tryz.func12, Tryz.ntmps12
    go_wp2_with fail
    go_ret
    exact ⟨rfl, Below.refl _ _⟩
  | false =>
    go_enter Tryz.func12, Tryz.ntmps12
    go_wp2_with fail
    go_ret
    exact ⟨rfl, Below.refl _ _⟩
end
theorem at_lo {w : World} {o o' : Obj} {k : Nat} (h : w.heap[k]? = some o) : (w.alloc o').heap[k]? = some o :=
  (Below.block (below_al (Below.refl _ _) _) k (Array.getElem?_eq_some_iff.1 h).1).trans h
/-- The law's world with its block, the count a number. -/
def posW (w1 : World) (c : Int) (g : Nat) : World :=
  ((((w1.alloc (.cells #[.int .i64 0, .int .i64 1] 3)).alloc
    (.cells #[.int .i64 1, .int .i64 c, .string ⟨#[]⟩, .slice none 0 0, .slice none 0 0, .int .i64 4, .int .i64 0, .string ⟨#[99, 111, 117, 110, 116, 46, 105, 110, 100, 101, 120]⟩, .slice none 0 0, .slice none 0 0, .int .i64 19, .int .i64 0, .string ⟨#[]⟩, .slice none 0 0, .slice (some ⟨w1.heap.size, 0, none⟩) 2 2] 29)).alloc
    (.cells #[.string ⟨#[99, 112, 117]⟩, .slice (some ⟨w1.heap.size + 1, 0, none⟩) 3 3, .string ⟨#[99, 111, 117, 110, 116]⟩, .slice (some ⟨g, 0, none⟩) 1 1] 31)).alloc
    (.cells #[.int .i64 3, .string ⟨#[119]⟩, .slice (some ⟨w1.heap.size + 1 + 1, 0, none⟩) 2 2, .slice none 0 0] 35)).alloc
    (.cells #[.int .i64 3, .string ⟨#[119]⟩, .slice (some ⟨w1.heap.size + 1 + 1, 0, none⟩) 2 2, .slice none 0 0] 35)
theorem pos_rd {w1 : World} {c m : Int} {g : Nat} (hg : w1.heap[g]? = some (.cells #[.int .i64 1, .int .i64 m, .string ⟨#[]⟩, .slice none 0 0, .slice none 0 0] 29)) :
    BlksRd 1 (posW w1 c g) (.slice (some ⟨w1.heap.size + 1 + 1 + 1 + 1, 0, none⟩) 1 1) [lawB lbW [(kCpu, addN c), (kCount, numN m)]] ∧ Below w1.heap.size w1 (posW w1 c g) :=
  ⟨blks_one (ta := 35) (xs := []) (heap_at (by simp)) (attrs_two (ns := addN c) (ms := numN m) (ac := 2) (at_lo (at_lo (heap_at (by simp)))) (add_rd (at_lo (at_lo (at_lo (at_lo (heap_alloc_new w1 _))))) (at_lo (at_lo (at_lo (heap_at (by simp)))))) (num_rd (at_lo (at_lo (at_lo (at_lo (at_lo hg))))))),
    below_al (below_al (below_al (below_al (below_al (Below.refl _ _) _) _) _) _) _⟩
/-- So with a count below nought. -/
def negW (w1 : World) (c m : Int) : World :=
  ((((((w1.alloc (.cells #[.int .i64 0] 3)).alloc
    (.cells #[.int .i64 1, .int .i64 m, .string ⟨#[]⟩, .slice none 0 0, .slice none 0 0, .int .i64 9, .int .i64 0, .string ⟨#[]⟩, .slice none 0 0, .slice (some ⟨w1.heap.size, 0, none⟩) 1 1] 29)).alloc
    (.cells #[.int .i64 0, .int .i64 1] 3)).alloc
    (.cells #[.int .i64 1, .int .i64 c, .string ⟨#[]⟩, .slice none 0 0, .slice none 0 0, .int .i64 4, .int .i64 0, .string ⟨#[99, 111, 117, 110, 116, 46, 105, 110, 100, 101, 120]⟩, .slice none 0 0, .slice none 0 0, .int .i64 19, .int .i64 0, .string ⟨#[]⟩, .slice none 0 0, .slice (some ⟨w1.heap.size + 1 + 1, 0, none⟩) 2 2] 29)).alloc
    (.cells #[.string ⟨#[99, 112, 117]⟩, .slice (some ⟨w1.heap.size + 1 + 1 + 1, 0, none⟩) 3 3, .string ⟨#[99, 111, 117, 110, 116]⟩, .slice (some ⟨w1.heap.size + 1, 0, none⟩) 2 2] 31)).alloc
    (.cells #[.int .i64 3, .string ⟨#[119]⟩, .slice (some ⟨w1.heap.size + 1 + 1 + 1 + 1, 0, none⟩) 2 2, .slice none 0 0] 35)).alloc
    (.cells #[.int .i64 3, .string ⟨#[119]⟩, .slice (some ⟨w1.heap.size + 1 + 1 + 1 + 1, 0, none⟩) 2 2, .slice none 0 0] 35)
theorem neg_rdW {w1 : World} {c m : Int} :
    BlksRd 1 (negW w1 c m) (.slice (some ⟨w1.heap.size + 1 + 1 + 1 + 1 + 1 + 1, 0, none⟩) 1 1) [lawB lbW [(kCpu, addN c), (kCount, negN m)]] ∧ Below w1.heap.size w1 (negW w1 c m) :=
  ⟨blks_one (ta := 35) (xs := []) (heap_at (by simp)) (attrs_two (ns := addN c) (ms := negN m) (ac := 2) (at_lo (at_lo (heap_at (by simp)))) (add_rd (at_lo (at_lo (at_lo (at_lo (heap_at (by simp)))))) (at_lo (at_lo (at_lo (heap_at (by simp)))))) (neg_rd (at_lo (at_lo (at_lo (at_lo (at_lo (at_lo (heap_alloc_new w1 _))))))) (at_lo (at_lo (at_lo (at_lo (at_lo (heap_at (by simp))))))))),
    below_al (below_al (below_al (below_al (below_al (below_al (below_al (Below.refl _ _) _) _) _) _) _) _) _⟩
theorem law_ok {c : Int} {ex : List NodeL} (hc : 0 ≤ c ∧ c ≤ 65535) (hx : LawEx ex) : ∀ a ∈ [(kCpu, addN c), (kCount, ex)], (a.1 = kCpu ∨ a.1 = kCount) ∧ LawEx a.2 := fun a ha => by
  simp only [List.mem_cons, List.not_mem_nil, or_false] at ha
  rcases ha with rfl | rfl
  · exact ⟨.inl rfl, c, by omega, .inr (.inr rfl)⟩
  · exact ⟨.inr rfl, hx⟩
section
variable (w : World)
/-- Wants of the law's block. -/
theorem wants_law {c : Int} {ex : List NodeL} (hc : 0 ≤ c ∧ c ≤ 65535) (hx : LawEx ex) {v : Value} (hr : BlksRd 1 w v [lawB lbW [(kCpu, addN c), (kCount, ex)]]) (ht : TabOK w) (he : ErrVar w) :
    Calls Tryz.prog 10 #[v, .slice none 0 0] w (WantsTold w (wants0 lawV [lawB lbW [(kCpu, addN c), (kCount, ex)]])) :=
  pwants0 w 0 _ _ hr (blks_ok (by simp) (by decide) (by decide) (once2 _ _) (law_ok hc hx)) ht he (fun b hb => by obtain rfl := List.mem_singleton.1 hb; rfl) lawV (fun b hb => by obtain rfl := List.mem_singleton.1 hb; exact node_ok (by simp) (by decide) (law_ok hc hx))
set_option maxHeartbeats 4000000 in
set_option maxRecDepth 20000 in
theorem law_count (n : Int) (c : Nat) (hn : -128 ≤ n ∧ n ≤ 127) (hc : c < 65536) (ht : TabOK w) (he : ErrVar w) : Calls Tryz.prog 3 #[.int .i8 n, .int .u16 (c : Int)] w (Made (.bool true) w) := by
  have HT := Lib.hid ht
  have HE := Lib.hid he
  clear ht he
  go_enter Tryz.func3, Tryz.ntmps3
  go_wp2_with fail
  refine (pnum8 _ _).mono ?_
  rintro e w1 ⟨g, rfl, hb1, hg1⟩
  by_cases k0 : n < 0
  · have G1 := Lib.hid hg1
    have B1 := Lib.hid hb1
    clear hg1 hb1
    go_wp2_with fail
    show Calls Tryz.prog 10 #[.slice (some ⟨w1.heap.size + 1 + 1 + 1 + 1 + 1 + 1, 0, none⟩) 1 1, .slice none 0 0] (negW w1 (c : Int) (-n)) _
    obtain ⟨hr, hb⟩ := @neg_rdW w1 (c : Int) (-n)
    have R2 := Lib.hid hr
    have B2 := Lib.hid (below_tr B1.out hb)
    clear hr hb
    generalize negW w1 (c : Int) (-n) = w2 at *
    have PW := Lib.hid (wants_law w2 (c := (c : Int)) (by omega) ⟨-n, by omega, .inr (.inl rfl)⟩ R2.out (HT.out.below B2.out) (HE.out.below B2.out HE.out.lt))
    rw [res_neg (c : Int) (-n) (by omega)] at PW
    refine PW.out.mono ?_
    rintro e w3 ⟨v, rfl, hb3, -, hv⟩
    have hv := hv (by simp)
    subst hv
    have B3 := Lib.hid (below_tr B2.out hb3)
    clear PW hb3
    go_wp2_with fail
    refine (lnum _ _).mono ?_
    rintro e w4 ⟨rfl, rfl⟩
    go_wp2_with fail
    refine (pmap3 _ _ _ _).mono ?_
    rintro e w4 ⟨rfl, hb4⟩
    have B4 := Lib.hid (below_tr B3.out hb4)
    clear hb4
    go_wp2_with fail
    refine (law_awake8 _ (HT.out.below B4.out) (HE.out.below B4.out HE.out.lt)).mono ?_
    rintro e w5 ⟨rfl, hb5⟩
    have B5 := Lib.hid (below_tr B4.out hb5)
    clear hb5
    go_wp2_with fail
    go_ret
    exact ⟨rfl, B5.out⟩
  · obtain ⟨k, rfl⟩ : ∃ k : Nat, n = (k : Int) := ⟨n.toNat, by omega⟩
    have i0 : (0 : Int) ≤ (k : Int) := by omega
    rw [show max (k : Int) 0 = (k : Int) by omega] at *
    have G1 := Lib.hid hg1
    have B1 := Lib.hid hb1
    clear hg1 hb1
    go_wp2_with fail
    show Calls Tryz.prog 10 #[.slice (some ⟨w1.heap.size + 1 + 1 + 1 + 1, 0, none⟩) 1 1, .slice none 0 0] (posW w1 (c : Int) g) _
    obtain ⟨hr, hb⟩ := pos_rd (c := (c : Int)) G1.out
    have R2 := Lib.hid hr
    have B2 := Lib.hid (below_tr B1.out hb)
    clear hr hb
    generalize posW w1 (c : Int) g = w2 at *
    have PW := Lib.hid (wants_law w2 (c := (c : Int)) (by omega) ⟨(k : Int), by omega, .inl rfl⟩ R2.out (HT.out.below B2.out) (HE.out.below B2.out HE.out.lt))
    by_cases k1 : 20 < k
    · have i1 : (20 : Int) < (k : Int) := by omega
      rw [res_many (c : Int) (k : Int) (by omega)] at PW
      refine PW.out.mono ?_
      rintro e w3 ⟨v, rfl, hb3, -, hv⟩
      have hv := hv (by simp)
      subst hv
      have B3 := Lib.hid (below_tr B2.out hb3)
      clear PW hb3
      go_wp2_with fail
      refine (lnum _ _).mono ?_
      rintro e w4 ⟨rfl, rfl⟩
      go_wp2_with fail
      refine (pmap3 _ _ _ _).mono ?_
      rintro e w4 ⟨rfl, hb4⟩
      have B4 := Lib.hid (below_tr B3.out hb4)
      clear hb4
      go_wp2_with fail
      refine (law_awake8 _ (HT.out.below B4.out) (HE.out.below B4.out HE.out.lt)).mono ?_
      rintro e w5 ⟨rfl, hb5⟩
      have B5 := Lib.hid (below_tr B4.out hb5)
      clear hb5
      go_wp2_with fail
      go_ret
      exact ⟨rfl, B5.out⟩
    · have i1 : ¬ (20 : Int) < (k : Int) := by omega
      have i2 : (k : Int) ≤ 20 := by omega
      rw [res_few (c : Int) (by omega) k (by omega)] at PW
      refine PW.out.mono ?_
      rintro e w3 ⟨v, rfl, hb3, ho, -⟩
      have ho := ho rfl
      have hln : ((List.range k).map fun i => (⟨nameI (⟨#[]⟩ ++ lbW) i, ⟨#[]⟩, (c : Int) + (i : Int), 0, 0⟩ : WantL)).length = k := by simp
      have B3 := Lib.hid (below_tr B2.out hb3)
      clear PW hb3
      dsimp only at ho
      rw [hln] at ho
      obtain ⟨vo, vc, rfl⟩ := own_len ho
      have O3 := Lib.hid ho
      clear ho
      go_wp2_with fail
      refine (lnum _ _).mono ?_
      rintro e w4 ⟨rfl, rfl⟩
      go_wp2_with fail
      go_loopg [10] k (fun m iv wx => ∃ i : Nat, iv = .int .i64 i ∧ k - i ≤ m ∧ i ≤ k ∧ Hid (Below w3.heap.size w3 wx))
      case atStart => exact ⟨0, rfl, Nat.le_refl _, Nat.zero_le _, Lib.hid (Below.refl _ _)⟩
      case round =>
        obtain ⟨i, rfl, hm, hi, B5⟩ := hrel
        have HM := Lib.hid hm
        clear hm
        by_cases hik : i < k
        · obtain ⟨gw, cw, ev, -⟩ := want_row O3.out (by omega)
          cases ev
          have hx : ((List.range k).map fun i => (⟨nameI (⟨#[]⟩ ++ lbW) i, ⟨#[]⟩, (c : Int) + (i : Int), 0, 0⟩ : WantL))[i]? = some ⟨⟨#[119, 45]⟩ ++ itoaB (i : Int), ⟨#[]⟩, (c : Int) + (i : Int), 0, 0⟩ := by
            rw [List.getElem?_map, List.getElem?_range hik, ← name_w]
            rfl
          have hcell := fun r (hr : r < 5) => (World.ownsRow.cellAt (own_below O3.out B5.out) (i * 5 + r) (by omega)).trans (wantsCells_at _ i _ hx r hr)
          have D0 := Lib.hid (fun W => rdigs W (i : Int) (by show _ ≤ (i : Int) ∧ (i : Int) ≤ _; omega))
          have k0 : wr.cell? ⟨gw, i * 5, none⟩ = some (.string (⟨#[119, 45]⟩ ++ itoaB (i : Int))) := hcell 0 (by omega)
          have k1 : wr.cell? ⟨gw, i * 5 + 1, none⟩ = some (.string ⟨#[]⟩) := hcell 1 (by omega)
          have k2 : wr.cell? ⟨gw, i * 5 + 2, none⟩ = some (.int .i64 ((c : Int) + (i : Int))) := hcell 2 (by omega)
          have k3 : wr.cell? ⟨gw, i * 5 + 3, none⟩ = some (.int .i64 0) := hcell 3 (by omega)
          have k4 : wr.cell? ⟨gw, i * 5 + 4, none⟩ = some (.int .i64 0) := hcell 4 (by omega)
          have hd0 : (itoaB (i : Int)).size ≤ 2 := itoa_size (by omega)
          replace D0 := Lib.hid (show ∀ W, Calls Tryz.prog 14 #[.int .i64 (i : Int)] W (Made (.string (itoaB (i : Int))) W) from D0.out)
          clear hx hcell
          generalize itoaB (i : Int) = d0 at *
          have hs1 : (⟨#[119, 45]⟩ : ByteArray).size = 2 := rfl
          have hss : 2 + d0.size ≤ 9223372036854775807 := by omega
          have hss2 : ¬ 9223372036854775807 < 2 + d0.size := by omega
          have i0' : (0 : Int) ≤ (i : Int) := by omega
          have i1' : (i : Int) < (k : Int) := by omega
          have q1 : IntKind.i64.wrap (c : Int) = (c : Int) := by rw [IntKind.wrap_i64]; omega
          have q2 : IntKind.i64.wrap ((c : Int) + (i : Int)) = (c : Int) + (i : Int) := by rw [IntKind.wrap_i64]; omega
          have K0 := Lib.hid k0
          have K1 := Lib.hid k1
          have K2 := Lib.hid k2
          have K3 := Lib.hid k3
          have K4 := Lib.hid k4
          clear ho hln O3 G1 R2 B1 B2
          go_wp2_with fail
          go_region_held3 (fun w' => w'.cell? ⟨gw, i * 5, none⟩ = some (.string (⟨#[119, 45]⟩ ++ d0)) ∧ w'.cell? ⟨gw, i * 5 + 1, none⟩ = some (.string ⟨#[]⟩) ∧ w'.cell? ⟨gw, i * 5 + 2, none⟩ = some (.int .i64 ((c : Int) + (i : Int))) ∧ w'.cell? ⟨gw, i * 5 + 3, none⟩ = some (.int .i64 0) ∧ w'.cell? ⟨gw, i * 5 + 4, none⟩ = some (.int .i64 0)) (first | exact ⟨hold B8.out K0.out, hold B8.out K1.out, hold B8.out K2.out, hold B8.out K3.out, hold B8.out K4.out⟩ | go_keep) ((go_at_call 14; (with_reducible refine (D0.out _).mono ?_); rintro e w7 ⟨rfl, hb7⟩; have hb8 : Below wr.heap.size wr w7 := ⟨hb7.os, hb7.tape, hb7.output, hb7.size, hb7.block⟩; have B8 := Lib.hid hb8; clear hb7 hb8))
          all_goals go_wp2
          all_goals go_roundg (k - (i + 1))
          all_goals first
            | (case rel => exact ⟨i + 1, rfl, Nat.le_refl _, hik, Lib.hid (below_tr B5.out B8.out)⟩)
            | (case measure => have := HM.out; omega)
        · have hz : i = k := by omega
          subst hz
          go_wp2_with fail
          have B6 := Lib.hid (below_tr B3.out B5.out)
          refine (law_awake8 _ (HT.out.below B6.out) (HE.out.below B6.out HE.out.lt)).mono ?_
          rintro e w7 ⟨rfl, hb7⟩
          have B7 := Lib.hid (below_tr B6.out hb7)
          clear hb7
          go_wp2_with fail
          go_ret
          exact ⟨rfl, B7.out⟩
end
end Go.Proofs.YtjmhpmomkjhcgaaGreatDoor
