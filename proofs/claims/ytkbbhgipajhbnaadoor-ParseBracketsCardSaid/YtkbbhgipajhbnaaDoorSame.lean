/- The document's sameness of numbers and of nodes: alike, as they read. -/
import Derived.Test.YtkbbhgipajhbnaaDoorLexU
import Derived.Test.YtkbbhgipajhbnaaDoorParR0
import Derived.Deep.DeepCutAuto
import Derived.Deep.RegionHeld3
namespace Go.Proofs.YtkbbhgipajhbnaaDoor
open Go.RowKit
set_option linter.unusedVariables false
set_option linter.unusedSimpArgs false
section
variable (w : World)
set_option maxRecDepth 20000 in
theorem ints_any (va vb : Value) (xs : List Int) (ha : IntsRd w va xs) (hb : IntsRd w vb xs) (hl : xs.length ≤ 200000) :
    Calls Tryd.prog 17 #[va, vb] w (Quiet (.bool true) w) := by
  by_cases h0 : 0 < xs.length
  · obtain ⟨g, o, cap, rfl, hc⟩ := ha.cell h0
    obtain ⟨g2, o2, cap2, rfl, hc2⟩ := hb.cell h0
    have HC := Lib.hid hc
    have HC2 := Lib.hid hc2
    clear ha hb hc hc2
    go_enter Tryd.func17, Tryd.ntmps17
    go_wp2_with fail
    go_loopg [5] xs.length (fun m v wr => ∃ j n : Nat, v = .int .i64 j ∧ xs.length - j ≤ m ∧ j ≤ xs.length ∧ wr = w.drewN n)
    case atStart => exact ⟨0, 0, rfl, Nat.le_refl _, Nat.zero_le _, rfl⟩
    case round =>
      obtain ⟨j, n, rfl, hm, hj, rfl⟩ := hrel
      have HM := Lib.hid hm
      clear hm
      by_cases h : j < xs.length
      · have c1 := HC.out j h
        have d1 := HC2.out j h
        generalize xs[j] = x at *
        go_wp2_with fail
        go_quiet (fail)
        go_wp2
        go_roundg (xs.length - (j + 1))
        case rel => exact ⟨j + 1, _, rfl, Nat.le_refl _, h, rfl⟩
        case measure => have := HM.out; omega
      · go_wp2_with fail
        go_ret
        exact ⟨rfl, _, rfl⟩
  · obtain ⟨ao, cap, rfl⟩ := ha.len
    obtain ⟨ao2, cap2, rfl⟩ := hb.len
    have h0 : xs.length = 0 := by omega
    rw [h0]
    clear ha hb
    go_enter Tryd.func17, Tryd.ntmps17
    go_wp2_with fail
    go_loopg [5] 0 (fun m v wr => v = .int .i64 0 ∧ wr = w)
    case atStart => exact ⟨rfl, rfl⟩
    case round =>
      obtain ⟨rfl, rfl⟩ := hrel
      go_wp2_with fail
      go_ret
      exact ⟨rfl, 0, rfl⟩
def NodeBlk (w : World) (g : Nat) (n : NodeL) (pv kv : Value) : Prop := w.heap[g]? = some (.cells #[.int .i64 n.kind, .int .i64 n.num, .string n.text, pv, kv] 41 (0, 0))
theorem NodeBlk.cells {w : World} {g : Nat} {n : NodeL} {pv kv : Value} (h : NodeBlk w g n pv kv) :
    w.cell? ⟨g, 0, none⟩ = some (.int .i64 n.kind) ∧ w.cell? ⟨g, 1, none⟩ = some (.int .i64 n.num) ∧ w.cell? ⟨g, 2, none⟩ = some (.string n.text) ∧ w.cell? ⟨g, 3, none⟩ = some pv ∧ w.cell? ⟨g, 4, none⟩ = some kv :=
  ⟨cell_of_row w g 0 _ _ _ h, cell_of_row w g 1 _ _ _ h, cell_of_row w g 2 _ _ _ h, cell_of_row w g 3 _ _ _ h, cell_of_row w g 4 _ _ _ h⟩
theorem two_newS (W : World) (O1 O2 : Obj) : ((W.alloc O1).alloc O2).drew.heap[W.heap.size]? = some O1 ∧ ((W.alloc O1).alloc O2).drew.heap[W.heap.size + 1]? = some O2 ∧ Below W.heap.size W ((W.alloc O1).alloc O2).drew := by
  have h1 := heap_alloc_new W O1
  have h2 := heap_alloc_new (W.alloc O1) O2
  have hs : (W.alloc O1).heap.size = W.heap.size + 1 := by simp
  have hb : Below (W.alloc O1).heap.size (W.alloc O1) ((W.alloc O1).alloc O2) := (Below.refl _ _).alloc (Nat.le_refl _) _
  have hw : Below W.heap.size W ((W.alloc O1).alloc O2) := ((Below.refl _ _).alloc (Nat.le_refl _) _).alloc (by simp) _
  refine ⟨(hb.block W.heap.size (by omega)).trans h1, ?_, ⟨hw.os, hw.tape, hw.output, hw.size, hw.block⟩⟩
  rw [← hs]; exact h2
def SameRel (w : World) (n m : Nat) (iv : Value) (wr : World) : Prop := ∃ i : Nat, iv = .int .i64 i ∧ n - i ≤ m ∧ i ≤ n ∧ Below w.heap.size w wr
set_option maxHeartbeats 4000000 in
set_option maxRecDepth 20000 in
theorem sameNodes_any (va vb : Value) (ns : List NodeL) (ha : NodesRd w va ns) (hb : NodesRd w vb ns) (hl : ns.length ≤ 100000) (hq : ∀ n ∈ ns, n.parts.length ≤ 9000 ∧ n.kids.length ≤ 200000) :
    Calls Tryd.prog 11 #[va, vb] w (Made (.bool true) w) := by
  have HA := Lib.hid ha
  have HB := Lib.hid hb
  have HQ := Lib.hid hq
  obtain ⟨ao, cap, rfl, -⟩ := ha.at
  obtain ⟨ao2, cap2, rfl, -⟩ := hb.at
  clear ha hb hq
  go_enter Tryd.func11, Tryd.ntmps11
  go_wp2_with fail
  go_loopg [5] ns.length (fun m iv wr => SameRel w ns.length m iv wr)
  case atStart => exact ⟨0, rfl, Nat.le_refl _, Nat.zero_le _, Below.refl _ _⟩
  case round =>
    obtain ⟨i, rfl, hm, hi, hb⟩ := hrel
    have HM := Lib.hid hm
    have BR := Lib.hid hb
    clear hm hb
    by_cases hil : i < ns.length
    · obtain ⟨n, hn⟩ : ∃ n, ns[i]? = some n := ⟨_, List.getElem?_eq_getElem hil⟩
      obtain ⟨q1, q2⟩ := HQ.out n (List.mem_of_getElem? hn)
      obtain ⟨ao3, cap3, e3, hat⟩ := (HA.out.below BR.out).at
      simp only [Value.slice.injEq, true_and] at e3
      obtain ⟨rfl, rfl⟩ := e3
      obtain ⟨g, o, pv, kv, rfl, hpv, hkv, c0, c1, c2, c3, c4⟩ := hat i n hn
      obtain ⟨ao3, cap3, e3, hat2⟩ := (HB.out.below BR.out).at
      simp only [Value.slice.injEq, true_and] at e3
      obtain ⟨rfl, rfl⟩ := e3
      obtain ⟨g2, o2, pv2, kv2, rfl, hpv2, hkv2, d0, d1, d2, d3, d4⟩ := hat2 i n hn
      have PA := Lib.hid hpv
      have PB := Lib.hid hpv2
      have KA := Lib.hid hkv
      have KB := Lib.hid hkv2
      obtain ⟨pao, pcap, rfl⟩ := hpv.len
      obtain ⟨pao2, pcap2, rfl⟩ := hpv2.len
      obtain ⟨kao, kcap, rfl⟩ := hkv.len
      obtain ⟨kao2, kcap2, rfl⟩ := hkv2.len
      clear hat hat2 hn hpv hpv2 hkv hkv2
      go_upto_region 6 with fail
      go_cut [6, 7] (fun s6 s7 wx => ∃ b6 b7 : Nat, s6 = .pointer (some ⟨b6, 0, none⟩) ∧ s7 = .pointer (some ⟨b7, 0, none⟩) ∧ Below wr.heap.size wr wx ∧ NodeBlk wx b6 n (.slice pao n.parts.length pcap) (.slice kao n.kids.length kcap) ∧ NodeBlk wx b7 n (.slice pao2 n.parts.length pcap2) (.slice kao2 n.kids.length kcap2))
      case first =>
        go_region_held3 (fun w' => w'.cell? ⟨g, o + i * 5, none⟩ = some (.int .i64 n.kind) ∧ w'.cell? ⟨g, o + i * 5 + 1, none⟩ = some (.int .i64 n.num) ∧ w'.cell? ⟨g, o + i * 5 + 2, none⟩ = some (.string n.text) ∧ w'.cell? ⟨g, o + i * 5 + 3, none⟩ = some (.slice pao n.parts.length pcap) ∧ w'.cell? ⟨g, o + i * 5 + 4, none⟩ = some (.slice kao n.kids.length kcap) ∧ w'.cell? ⟨g2, o2 + i * 5, none⟩ = some (.int .i64 n.kind) ∧ w'.cell? ⟨g2, o2 + i * 5 + 1, none⟩ = some (.int .i64 n.num) ∧ w'.cell? ⟨g2, o2 + i * 5 + 2, none⟩ = some (.string n.text) ∧ w'.cell? ⟨g2, o2 + i * 5 + 3, none⟩ = some (.slice pao2 n.parts.length pcap2) ∧ w'.cell? ⟨g2, o2 + i * 5 + 4, none⟩ = some (.slice kao2 n.kids.length kcap2)) (go_keep) (fail)
        all_goals go_wp2
        all_goals go_meet
        all_goals (case rel =>
          first
            | exact ⟨_, _, rfl, rfl, (two_newS wr _ _).2.2, (two_newS wr _ _).1, (two_newS wr _ _).2.1⟩
            | exact ⟨_, _, rfl, rfl, (two_newS wr _ _).2.2, (two_newS wr _ _).2.1, (two_newS wr _ _).1⟩)
      case rest =>
        obtain ⟨b6, b7, rfl, rfl, hbx, n6, n7⟩ := hcut
        have BX := Lib.hid hbx
        obtain ⟨e0, e1, e2, e3, e4⟩ := n6.cells
        obtain ⟨f0, f1, f2, f3, f4⟩ := n7.cells
        have PA2 := Lib.hid (Rds.below PA.out hbx)
        have PB2 := Lib.hid (Rds.below PB.out hbx)
        have KA2 := Lib.hid (KA.out.below hbx)
        have KB2 := Lib.hid (KB.out.below hbx)
        clear hbx n6 n7 c0 c1 c2 c3 c4 d0 d1 d2 d3 d4
        go_wp2_with fail
        refine (sameParts_any _ _ _ n.parts PA2.out PB2.out q1).mono ?_
        rintro e w3 ⟨rfl, k, rfl⟩
        go_wp2_with fail
        refine (ints_any _ _ _ n.kids (KA2.out.below (below_drawn _ k)) (KB2.out.below (below_drawn _ k)) q2).mono ?_
        rintro e w4 ⟨rfl, k2, rfl⟩
        go_wp2_with fail
        go_roundg (ns.length - (i + 1))
        case rel => exact ⟨i + 1, rfl, Nat.le_refl _, hil, below_drewN (BR.out.trans (BX.out.mono BR.out.size)) (k + k2)⟩
        case measure => have := HM.out; omega
    · go_wp2_with fail
      go_ret
      exact ⟨rfl, BR.out⟩
end
end Go.Proofs.YtkbbhgipajhbnaaDoor
