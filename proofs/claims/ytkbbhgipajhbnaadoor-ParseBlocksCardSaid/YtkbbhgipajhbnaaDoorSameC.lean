import Derived.Test.YtkbbhgipajhbnaaDoorLexU
import Derived.Test.YtkbbhgipajhbnaaDoorParR0
import Derived.Deep.DeepCutAuto
import Derived.Deep.RegionHeld3
import Derived.Test.YtkbbhgipajhbnaaDoorParP
import Derived.Test.YtkbbhgipajhbnaaDoorLexI0
import Derived.ProofKit
import Derived.ChangeSlices
import Derived.ChangeOld
import Derived.OpenShut
import Derived.ShutString
import Derived.LaidMore
/- The document's sameness of numbers and of nodes: alike, as they read. -/
namespace Go.Proofs.YtkbbhgipajhbnaaDoor
open Go.RowKit
set_option linter.unusedVariables false
set_option linter.unusedSimpArgs false
section
variable (w : World)
set_option maxRecDepth 20000 in
theorem ints_any (va vb : Value) (xs : List Int) (ha : IntsRd w va xs) (hb : IntsRd w vb xs) (hl : xs.length ≤ 200000) :
    Calls Tryd.prog 17 #[va, vb] w (Quiet (.bool true) w) := by
  by_cases h0 : 0 < xs.length
  · obtain ⟨g, o, cap, rfl, hc⟩ := ha.cell h0
    obtain ⟨g2, o2, cap2, rfl, hc2⟩ := hb.cell h0
    have HC := Lib.hid hc
    have HC2 := Lib.hid hc2
    clear ha hb hc hc2
    go_enter Tryd.func17, Tryd.ntmps17
    go_wp2_with fail
    go_loopg [5] xs.length (fun m v wr => ∃ j n : Nat, v = .int .i64 j ∧ xs.length - j ≤ m ∧ j ≤ xs.length ∧ wr = w.drewN n)
    case atStart => exact ⟨0, 0, rfl, Nat.le_refl _, Nat.zero_le _, rfl⟩
    case round =>
      obtain ⟨j, n, rfl, hm, hj, rfl⟩ := hrel
      have HM := Lib.hid hm
      clear hm
      by_cases h : j < xs.length
      · have c1 := HC.out j h
        have d1 := HC2.out j h
        generalize xs[j] = x at *
        go_wp2_with fail
        go_quiet (fail)
        go_wp2
        go_roundg (xs.length - (j + 1))
        case rel => exact ⟨j + 1, _, rfl, Nat.le_refl _, h, rfl⟩
        case measure => have := HM.out; omega
      · go_wp2_with fail
        go_ret
        exact ⟨rfl, _, rfl⟩
  · obtain ⟨ao, cap, rfl⟩ := ha.len
    obtain ⟨ao2, cap2, rfl⟩ := hb.len
    have h0 : xs.length = 0 := by omega
    rw [h0]
    clear ha hb
    go_enter Tryd.func17, Tryd.ntmps17
    go_wp2_with fail
    go_loopg [5] 0 (fun m v wr => v = .int .i64 0 ∧ wr = w)
    case atStart => exact ⟨rfl, rfl⟩
    case round =>
      obtain ⟨rfl, rfl⟩ := hrel
      go_wp2_with fail
      go_ret
      exact ⟨rfl, 0, rfl⟩
def NodeBlk (w : World) (g : Nat) (n : NodeL) (pv kv : Value) : Prop := w.heap[g]? = some (.cells #[.int .i64 n.kind, .int .i64 n.num, .string n.text, pv, kv] 41 (0, 0))
theorem NodeBlk.cells {w : World} {g : Nat} {n : NodeL} {pv kv : Value} (h : NodeBlk w g n pv kv) :
    w.cell? ⟨g, 0, none⟩ = some (.int .i64 n.kind) ∧ w.cell? ⟨g, 1, none⟩ = some (.int .i64 n.num) ∧ w.cell? ⟨g, 2, none⟩ = some (.string n.text) ∧ w.cell? ⟨g, 3, none⟩ = some pv ∧ w.cell? ⟨g, 4, none⟩ = some kv :=
  ⟨cell_of_row w g 0 _ _ _ h, cell_of_row w g 1 _ _ _ h, cell_of_row w g 2 _ _ _ h, cell_of_row w g 3 _ _ _ h, cell_of_row w g 4 _ _ _ h⟩
theorem two_newS (W : World) (O1 O2 : Obj) : ((W.alloc O1).alloc O2).drew.heap[W.heap.size]? = some O1 ∧ ((W.alloc O1).alloc O2).drew.heap[W.heap.size + 1]? = some O2 ∧ Below W.heap.size W ((W.alloc O1).alloc O2).drew := by
  have h1 := heap_alloc_new W O1
  have h2 := heap_alloc_new (W.alloc O1) O2
  have hs : (W.alloc O1).heap.size = W.heap.size + 1 := by simp
  have hb : Below (W.alloc O1).heap.size (W.alloc O1) ((W.alloc O1).alloc O2) := (Below.refl _ _).alloc (Nat.le_refl _) _
  have hw : Below W.heap.size W ((W.alloc O1).alloc O2) := ((Below.refl _ _).alloc (Nat.le_refl _) _).alloc (by simp) _
  refine ⟨(hb.block W.heap.size (by omega)).trans h1, ?_, ⟨hw.os, hw.tape, hw.output, hw.size, hw.block⟩⟩
  rw [← hs]; exact h2
def SameRel (w : World) (n m : Nat) (iv : Value) (wr : World) : Prop := ∃ i : Nat, iv = .int .i64 i ∧ n - i ≤ m ∧ i ≤ n ∧ Below w.heap.size w wr
set_option maxHeartbeats 4000000 in
set_option maxRecDepth 20000 in
theorem sameNodes_any (va vb : Value) (ns : List NodeL) (ha : NodesRd w va ns) (hb : NodesRd w vb ns) (hl : ns.length ≤ 100000) (hq : ∀ n ∈ ns, n.parts.length ≤ 9000 ∧ n.kids.length ≤ 200000) :
    Calls Tryd.prog 11 #[va, vb] w (Made (.bool true) w) := by
  have HA := Lib.hid ha
  have HB := Lib.hid hb
  have HQ := Lib.hid hq
  obtain ⟨ao, cap, rfl, -⟩ := ha.at
  obtain ⟨ao2, cap2, rfl, -⟩ := hb.at
  clear ha hb hq
  go_enter Tryd.func11, Tryd.ntmps11
  go_wp2_with fail
  go_loopg [5] ns.length (fun m iv wr => SameRel w ns.length m iv wr)
  case atStart => exact ⟨0, rfl, Nat.le_refl _, Nat.zero_le _, Below.refl _ _⟩
  case round =>
    obtain ⟨i, rfl, hm, hi, hb⟩ := hrel
    have HM := Lib.hid hm
    have BR := Lib.hid hb
    clear hm hb
    by_cases hil : i < ns.length
    · obtain ⟨n, hn⟩ : ∃ n, ns[i]? = some n := ⟨_, List.getElem?_eq_getElem hil⟩
      obtain ⟨q1, q2⟩ := HQ.out n (List.mem_of_getElem? hn)
      obtain ⟨ao3, cap3, e3, hat⟩ := (HA.out.below BR.out).at
      simp only [Value.slice.injEq, true_and] at e3
      obtain ⟨rfl, rfl⟩ := e3
      obtain ⟨g, o, pv, kv, rfl, hpv, hkv, c0, c1, c2, c3, c4⟩ := hat i n hn
      obtain ⟨ao3, cap3, e3, hat2⟩ := (HB.out.below BR.out).at
      simp only [Value.slice.injEq, true_and] at e3
      obtain ⟨rfl, rfl⟩ := e3
      obtain ⟨g2, o2, pv2, kv2, rfl, hpv2, hkv2, d0, d1, d2, d3, d4⟩ := hat2 i n hn
      have PA := Lib.hid hpv
      have PB := Lib.hid hpv2
      have KA := Lib.hid hkv
      have KB := Lib.hid hkv2
      obtain ⟨pao, pcap, rfl⟩ := hpv.len
      obtain ⟨pao2, pcap2, rfl⟩ := hpv2.len
      obtain ⟨kao, kcap, rfl⟩ := hkv.len
      obtain ⟨kao2, kcap2, rfl⟩ := hkv2.len
      clear hat hat2 hn hpv hpv2 hkv hkv2
      go_upto_region 6 with fail
      go_cut [6, 7] (fun s6 s7 wx => ∃ b6 b7 : Nat, s6 = .pointer (some ⟨b6, 0, none⟩) ∧ s7 = .pointer (some ⟨b7, 0, none⟩) ∧ Below wr.heap.size wr wx ∧ NodeBlk wx b6 n (.slice pao n.parts.length pcap) (.slice kao n.kids.length kcap) ∧ NodeBlk wx b7 n (.slice pao2 n.parts.length pcap2) (.slice kao2 n.kids.length kcap2))
      case first =>
        go_region_held3 (fun w' => w'.cell? ⟨g, o + i * 5, none⟩ = some (.int .i64 n.kind) ∧ w'.cell? ⟨g, o + i * 5 + 1, none⟩ = some (.int .i64 n.num) ∧ w'.cell? ⟨g, o + i * 5 + 2, none⟩ = some (.string n.text) ∧ w'.cell? ⟨g, o + i * 5 + 3, none⟩ = some (.slice pao n.parts.length pcap) ∧ w'.cell? ⟨g, o + i * 5 + 4, none⟩ = some (.slice kao n.kids.length kcap) ∧ w'.cell? ⟨g2, o2 + i * 5, none⟩ = some (.int .i64 n.kind) ∧ w'.cell? ⟨g2, o2 + i * 5 + 1, none⟩ = some (.int .i64 n.num) ∧ w'.cell? ⟨g2, o2 + i * 5 + 2, none⟩ = some (.string n.text) ∧ w'.cell? ⟨g2, o2 + i * 5 + 3, none⟩ = some (.slice pao2 n.parts.length pcap2) ∧ w'.cell? ⟨g2, o2 + i * 5 + 4, none⟩ = some (.slice kao2 n.kids.length kcap2)) (go_keep) (fail)
        all_goals go_wp2
        all_goals go_meet
        all_goals (case rel =>
          first
            | exact ⟨_, _, rfl, rfl, (two_newS wr _ _).2.2, (two_newS wr _ _).1, (two_newS wr _ _).2.1⟩
            | exact ⟨_, _, rfl, rfl, (two_newS wr _ _).2.2, (two_newS wr _ _).2.1, (two_newS wr _ _).1⟩)
      case rest =>
        obtain ⟨b6, b7, rfl, rfl, hbx, n6, n7⟩ := hcut
        have BX := Lib.hid hbx
        obtain ⟨e0, e1, e2, e3, e4⟩ := n6.cells
        obtain ⟨f0, f1, f2, f3, f4⟩ := n7.cells
        have PA2 := Lib.hid (Rds.below PA.out hbx)
        have PB2 := Lib.hid (Rds.below PB.out hbx)
        have KA2 := Lib.hid (KA.out.below hbx)
        have KB2 := Lib.hid (KB.out.below hbx)
        clear hbx n6 n7 c0 c1 c2 c3 c4 d0 d1 d2 d3 d4
        go_wp2_with fail
        refine (sameParts_any _ _ _ n.parts PA2.out PB2.out q1).mono ?_
        rintro e w3 ⟨rfl, k, rfl⟩
        go_wp2_with fail
        refine (ints_any _ _ _ n.kids (KA2.out.below (below_drawn _ k)) (KB2.out.below (below_drawn _ k)) q2).mono ?_
        rintro e w4 ⟨rfl, k2, rfl⟩
        go_wp2_with fail
        go_roundg (ns.length - (i + 1))
        case rel => exact ⟨i + 1, rfl, Nat.le_refl _, hil, below_drewN (BR.out.trans (BX.out.mono BR.out.size)) (k + k2)⟩
        case measure => have := HM.out; omega
    · go_wp2_with fail
      go_ret
      exact ⟨rfl, BR.out⟩
end
end Go.Proofs.YtkbbhgipajhbnaaDoor

/- The document's sameness of blocks: alike, as they read. -/
namespace Go.Proofs.YtkbbhgipajhbnaaDoor
open Go.RowKit
set_option linter.unusedVariables false
set_option linter.unusedSimpArgs false
def ARowRd (w : World) : List AttrL → List Value → Prop
  | [], xs => xs = []
  | a :: al, xs => ∃ nv rest, xs = [.string a.name, nv] ++ rest ∧ NodesRd w nv a.expr ∧ ARowRd w al rest
def AttrsRd (w : World) (v : Value) (l : List AttrL) : Prop := ∃ xs, Rds w v l.length xs ∧ ARowRd w l xs
def BRowRd (w : World) (Q : Value → List BlockL → Prop) : List BlockL → List Value → Prop
  | [], xs => xs = []
  | b :: bs, xs => ∃ av bv rest, xs = [.int .i64 b.kind, .string b.label, av, bv] ++ rest ∧ AttrsRd w av b.attrs ∧ Q bv b.blocks ∧ BRowRd w Q bs rest
/-- Blocks, at most so many levels of them. -/
def BlocksRd : Nat → World → Value → List BlockL → Prop
  | 0, w, v, l => l = [] ∧ ∃ ao cap, v = .slice ao 0 cap
  | d + 1, w, v, l => ∃ xs, Rds w v l.length xs ∧ BRowRd w (BlocksRd d w) l xs
theorem ARowRd.below {w w' : World} (hb : Below w.heap.size w w') : ∀ {l : List AttrL} {xs : List Value}, ARowRd w l xs → ARowRd w' l xs := by
  intro l
  induction l with
  | nil => intro xs h; exact h
  | cons a l ih => intro xs h; obtain ⟨nv, rest, rfl, h1, h2⟩ := h; exact ⟨nv, rest, rfl, h1.below hb, ih h2⟩
theorem AttrsRd.below {w w' : World} {v : Value} {l : List AttrL} (h : AttrsRd w v l) (hb : Below w.heap.size w w') : AttrsRd w' v l := by
  obtain ⟨xs, h1, h2⟩ := h; exact ⟨xs, h1.below hb, h2.below hb⟩
theorem BRowRd.imp {w w' : World} (hb : Below w.heap.size w w') {Q Q' : Value → List BlockL → Prop} (hq : ∀ v l, Q v l → Q' v l) : ∀ {l : List BlockL} {xs : List Value}, BRowRd w Q l xs → BRowRd w' Q' l xs := by
  intro l
  induction l with
  | nil => intro xs h; exact h
  | cons a l ih => intro xs h; obtain ⟨av, bv, rest, rfl, h1, h2, h3⟩ := h; exact ⟨av, bv, rest, rfl, h1.below hb, hq _ _ h2, ih h3⟩
theorem BlocksRd.below {w w' : World} (hb : Below w.heap.size w w') : ∀ {d : Nat} {v : Value} {l : List BlockL}, BlocksRd d w v l → BlocksRd d w' v l := by
  intro d
  induction d with
  | zero => intro v l h; exact h
  | succ d ih => intro v l h; obtain ⟨xs, h1, h2⟩ := h; exact ⟨xs, h1.below hb, BRowRd.imp hb (fun v l h => ih h) h2⟩
theorem AttrsRd.at {w : World} {v : Value} {l : List AttrL} (h : AttrsRd w v l) : ∃ ao cap, v = .slice ao l.length cap ∧ ∀ i a, l[i]? = some a → ∃ g o nv, ao = some ⟨g, o, none⟩ ∧ NodesRd w nv a.expr ∧ w.cell? ⟨g, o + i * 2, none⟩ = some (.string a.name) ∧ w.cell? ⟨g, o + i * 2 + 1, none⟩ = some nv := by
  obtain ⟨xs, ⟨ao, cap, rfl, hc⟩, hr⟩ := h
  refine ⟨ao, cap, rfl, fun i a hi => ?_⟩
  have key : ∀ (l : List AttrL) (xs : List Value) (i : Nat), ARowRd w l xs → l[i]? = some a → ∃ nv, NodesRd w nv a.expr ∧ xs[i * 2]? = some (.string a.name) ∧ xs[i * 2 + 1]? = some nv := by
    intro l
    induction l with
    | nil => intro xs i _ h; simp at h
    | cons b l ih =>
      intro xs i hr hi
      obtain ⟨nv, rest, rfl, h1, h2⟩ := hr
      cases i with
      | zero => simp at hi; subst hi; exact ⟨nv, h1, rfl, rfl⟩
      | succ i =>
        obtain ⟨nv', h3, h4, h5⟩ := ih rest i h2 (by simpa using hi)
        refine ⟨nv', h3, ?_, ?_⟩
        · rw [show (i + 1) * 2 = i * 2 + 2 by omega]; simpa using h4
        · rw [show (i + 1) * 2 + 1 = i * 2 + 1 + 2 by omega]; simpa using h5
  obtain ⟨nv, h1, h2, h3⟩ := key l xs i hr hi
  obtain ⟨g, o, e, c0⟩ := hc _ _ h2
  obtain ⟨g', o', e', c1⟩ := hc _ _ h3
  rw [e] at e'
  simp at e'
  obtain ⟨rfl, rfl⟩ := e'
  exact ⟨g, o, nv, e, h1, c0, by rw [Nat.add_assoc]; exact c1⟩
theorem BlocksRd.at {d : Nat} {w : World} {v : Value} {l : List BlockL} (h : BlocksRd (d + 1) w v l) : ∃ ao cap, v = .slice ao l.length cap ∧ ∀ i b, l[i]? = some b → ∃ g o av bv, ao = some ⟨g, o, none⟩ ∧ AttrsRd w av b.attrs ∧ BlocksRd d w bv b.blocks ∧ w.cell? ⟨g, o + i * 4, none⟩ = some (.int .i64 b.kind) ∧ w.cell? ⟨g, o + i * 4 + 1, none⟩ = some (.string b.label) ∧ w.cell? ⟨g, o + i * 4 + 2, none⟩ = some av ∧ w.cell? ⟨g, o + i * 4 + 3, none⟩ = some bv := by
  obtain ⟨xs, ⟨ao, cap, rfl, hc⟩, hr⟩ := h
  refine ⟨ao, cap, rfl, fun i b hi => ?_⟩
  have key : ∀ (l : List BlockL) (xs : List Value) (i : Nat), BRowRd w (BlocksRd d w) l xs → l[i]? = some b → ∃ av bv, AttrsRd w av b.attrs ∧ BlocksRd d w bv b.blocks ∧ xs[i * 4]? = some (.int .i64 b.kind) ∧ xs[i * 4 + 1]? = some (.string b.label) ∧ xs[i * 4 + 2]? = some av ∧ xs[i * 4 + 3]? = some bv := by
    intro l
    induction l with
    | nil => intro xs i _ h; simp at h
    | cons c l ih =>
      intro xs i hr hi
      obtain ⟨av, bv, rest, rfl, h1, h2, h3⟩ := hr
      cases i with
      | zero => simp at hi; subst hi; exact ⟨av, bv, h1, h2, rfl, rfl, rfl, rfl⟩
      | succ i =>
        obtain ⟨av', bv', k1, k2, k3, k4, k5, k6⟩ := ih rest i h3 (by simpa using hi)
        refine ⟨av', bv', k1, k2, ?_, ?_, ?_, ?_⟩
        · rw [show (i + 1) * 4 = i * 4 + 4 by omega]; simpa using k3
        · rw [show (i + 1) * 4 + 1 = i * 4 + 1 + 4 by omega]; simpa using k4
        · rw [show (i + 1) * 4 + 2 = i * 4 + 2 + 4 by omega]; simpa using k5
        · rw [show (i + 1) * 4 + 3 = i * 4 + 3 + 4 by omega]; simpa using k6
  obtain ⟨av, bv, h1, h2, h3, h4, h5, h6⟩ := key l xs i hr hi
  obtain ⟨g, o, e, c0⟩ := hc _ _ h3
  have same : ∀ j u, xs[i * 4 + j]? = some u → w.cell? ⟨g, o + i * 4 + j, none⟩ = some u := fun j u hu => by
    obtain ⟨g', o', e', c1⟩ := hc _ _ hu
    rw [e] at e'
    simp at e'
    obtain ⟨rfl, rfl⟩ := e'
    rw [Nat.add_assoc]; exact c1
  exact ⟨g, o, av, bv, e, h1, h2, c0, same 1 _ h4, same 2 _ h5, same 3 _ h6⟩
/-- What was told reads so. -/
theorem AttrRow.rd {C : Ctx} {w : World} {b : Nat} (h0 : Below C.w0.heap.size C.w0 w) : ∀ {l : List AttrL} {xs : List Value}, AttrRow C w b l xs → ARowRd w l xs := by
  intro l
  induction l with
  | nil => intro xs h; exact h
  | cons a l ih => intro xs h; obtain ⟨nv, rest, rfl, h1, h2⟩ := h; exact ⟨nv, rest, rfl, h1.rd h0, ih h2⟩
theorem AttrsIn.rd {C : Ctx} {w : World} {b : Nat} {v : Value} {l : List AttrL} (h : AttrsIn C w b v l) (h0 : Below C.w0.heap.size C.w0 w) : AttrsRd w v l := by
  obtain ⟨xs, o, r⟩ := h; exact ⟨xs, Rds.of_own o, AttrRow.rd h0 r⟩
theorem BRow.rd {C : Ctx} {w : World} {b : Nat} (h0 : Below C.w0.heap.size C.w0 w) {Q Q' : Value → List BlockL → Prop} (hq : ∀ v l, Q v l → Q' v l) : ∀ {l : List BlockL} {xs : List Value}, BRow C w b Q l xs → BRowRd w Q' l xs := by
  intro l
  induction l with
  | nil => intro xs h; exact h
  | cons a l ih => intro xs h; obtain ⟨av, bv, rest, rfl, h1, h2, h3⟩ := h; exact ⟨av, bv, rest, rfl, h1.rd h0, hq _ _ h2, ih h3⟩
theorem Parsed.rd {w : World} {v : Value} {bs : List BlockL} (h : Parsed w v bs) : BlocksRd 2 w v bs := by
  rcases h with ⟨rfl, rfl⟩ | ⟨C, b, ⟨xs, o, r⟩, h0⟩
  · exact ⟨[], ⟨none, 0, rfl, fun j u h => by simp at h⟩, rfl⟩
  · refine ⟨xs, Rds.of_own o, BRow.rd h0 (fun v l hq => ?_) r⟩
    obtain ⟨⟨ys, o1, r1⟩, -⟩ := hq
    exact ⟨ys, Rds.of_own o1, BRow.rd h0 (fun v l hq => ⟨hq.2, none, 0, hq.1⟩) r1⟩
def AttrB (l : List AttrL) : Prop := l.length ≤ 100000 ∧ ∀ a ∈ l, a.expr.length ≤ 100000 ∧ ∀ n ∈ a.expr, n.parts.length ≤ 9000 ∧ n.kids.length ≤ 200000
def BlkB : Nat → List BlockL → Prop
  | 0, _ => True
  | d + 1, bs => bs.length ≤ 100000 ∧ ∀ b ∈ bs, AttrB b.attrs ∧ BlkB d b.blocks
def SBRel (w : World) (n m : Nat) (iv : Value) (wr : World) : Prop := ∃ i : Nat, iv = .int .i64 i ∧ n - i ≤ m ∧ i ≤ n ∧ Below w.heap.size w wr
set_option maxHeartbeats 4000000 in
set_option maxRecDepth 20000 in
theorem sameBlocks_any : ∀ d w va vb bs, BlocksRd d w va bs → BlocksRd d w vb bs → BlkB d bs → Calls Tryd.prog 9 #[va, vb] w (Made (.bool true) w) := by
  intro d
  induction d with
  | zero =>
    intro w va vb bs ha hb _
    obtain ⟨rfl, ao, cap, rfl⟩ := ha
    obtain ⟨-, ao2, cap2, rfl⟩ := hb
    go_enter Tryd.func9, Tryd.ntmps9
    go_wp2_with fail
    go_loopg [5] 0 (fun m v wr => v = .int .i64 0 ∧ wr = w)
    case atStart => exact ⟨rfl, rfl⟩
    case round =>
      obtain ⟨rfl, rfl⟩ := hrel
      go_wp2_with fail
      go_ret
      exact ⟨rfl, Below.refl _ _⟩
  | succ d ih =>
    intro w va vb bs ha hb hbd
    have HA := Lib.hid ha
    have HB := Lib.hid hb
    have IH := Lib.hid ih
    obtain ⟨hbl, hbq⟩ := hbd
    have HQ := Lib.hid hbq
    obtain ⟨ao, cap, rfl, -⟩ := ha.at
    obtain ⟨ao2, cap2, rfl, -⟩ := hb.at
    clear ha hb ih hbq
    go_enter Tryd.func9, Tryd.ntmps9
    go_wp2_with fail
    go_loopg [5] bs.length (fun m iv wr => SBRel w bs.length m iv wr)
    case atStart => exact ⟨0, rfl, Nat.le_refl _, Nat.zero_le _, Below.refl _ _⟩
    case round =>
      obtain ⟨i, rfl, hm, hi, hb⟩ := hrel
      have HM := Lib.hid hm
      have BR := Lib.hid hb
      clear hm hb
      by_cases hil : i < bs.length
      · obtain ⟨b, hb⟩ : ∃ b, bs[i]? = some b := ⟨_, List.getElem?_eq_getElem hil⟩
        obtain ⟨q1, q2⟩ := HQ.out b (List.mem_of_getElem? hb)
        obtain ⟨ql, qa⟩ := q1
        have QA := Lib.hid qa
        have Q2 := Lib.hid q2
        obtain ⟨ao3, cap3, e3, hat⟩ := (HA.out.below BR.out).at
        simp only [Value.slice.injEq, true_and] at e3
        obtain ⟨rfl, rfl⟩ := e3
        obtain ⟨g, o, av, bv, rfl, ha1, hb1, c0, c1, c2, c3⟩ := hat i b hb
        obtain ⟨ao3, cap3, e3, hat2⟩ := (HB.out.below BR.out).at
        simp only [Value.slice.injEq, true_and] at e3
        obtain ⟨rfl, rfl⟩ := e3
        obtain ⟨g2, o2, av2, bv2, rfl, ha2, hb2, d0, d1, d2, d3⟩ := hat2 i b hb
        have A1 := Lib.hid ha1
        have A2 := Lib.hid ha2
        have SB := Lib.hid (fun W (hw : Below wr.heap.size wr W) => IH.out W bv bv2 b.blocks (hb1.below hw) (hb2.below hw) Q2.out)
        obtain ⟨aao, acap, rfl, -⟩ := ha1.at
        obtain ⟨aao2, acap2, rfl, -⟩ := ha2.at
        clear hat hat2 hb ha1 ha2 hb1 hb2 q2 qa
        go_upto_region 6 with fail
        go_cut [70] (fun s70 wx => s70 = .bool false ∧ Below wr.heap.size wr wx)
        case first =>
          go_region_held3 (fun w' => w'.cell? ⟨g, o + i * 4, none⟩ = some (.int .i64 b.kind) ∧ w'.cell? ⟨g, o + i * 4 + 1, none⟩ = some (.string b.label) ∧ w'.cell? ⟨g, o + i * 4 + 2, none⟩ = some (.slice aao b.attrs.length acap) ∧ w'.cell? ⟨g, o + i * 4 + 3, none⟩ = some bv ∧ w'.cell? ⟨g2, o2 + i * 4, none⟩ = some (.int .i64 b.kind) ∧ w'.cell? ⟨g2, o2 + i * 4 + 1, none⟩ = some (.string b.label) ∧ w'.cell? ⟨g2, o2 + i * 4 + 2, none⟩ = some (.slice aao2 b.attrs.length acap2) ∧ w'.cell? ⟨g2, o2 + i * 4 + 3, none⟩ = some bv2) (first | exact ⟨HK.out _ _ c0, HK.out _ _ c1, HK.out _ _ c2, HK.out _ _ c3, HK.out _ _ d0, HK.out _ _ d1, HK.out _ _ d2, HK.out _ _ d3⟩ | go_keep) (first
            | (go_at_call 9; (with_reducible refine (SB.out _ ?_).mono ?_); exact below_drewN (Below.refl _ _) _; rintro e w' ⟨rfl, hbx⟩; have HBx := Lib.hid (show Below wr.heap.size wr w' from ⟨hbx.os, hbx.tape, hbx.output, hbx.size, hbx.block⟩); have HK := Lib.hid (fun (p : Addr) (u : Value) (hu : wr.cell? p = some u) => (HBx.out.cell (p := p) (World.block_lt_of_cell? _ _ hu)).trans hu); clear hbx))
          all_goals go_wp2
          all_goals go_meet
          all_goals (case rel => exact ⟨rfl, HBx.out⟩)
        case rest =>
          obtain ⟨rfl, hbx⟩ := hcut
          have BX := Lib.hid hbx
          have A1x := Lib.hid (A1.out.below hbx)
          have A2x := Lib.hid (A2.out.below hbx)
          replace c2 := (hbx.cell (p := ⟨g, o + i * 4 + 2, none⟩) (World.block_lt_of_cell? _ _ c2)).trans c2
          replace d2 := (hbx.cell (p := ⟨g2, o2 + i * 4 + 2, none⟩) (World.block_lt_of_cell? _ _ d2)).trans d2
          have C2 := Lib.hid c2
          have D2 := Lib.hid d2
          clear hbx c0 c1 c2 c3 d0 d1 d2 d3
          generalize wc = wa at *
          go_wp2_with fail
          go_loopg [6] b.attrs.length (fun m kv wz => SBRel wa b.attrs.length m kv wz)
          case atStart => exact ⟨0, rfl, Nat.le_refl _, Nat.zero_le _, Below.refl _ _⟩
          case round =>
            obtain ⟨k, rfl, hm, hk, hb⟩ := hrel
            have HMk := Lib.hid hm
            have BK := Lib.hid hb
            clear hm hb
            have c2 := (BK.out.cell (p := ⟨g, o + i * 4 + 2, none⟩) (World.block_lt_of_cell? _ _ C2.out)).trans C2.out
            have d2 := (BK.out.cell (p := ⟨g2, o2 + i * 4 + 2, none⟩) (World.block_lt_of_cell? _ _ D2.out)).trans D2.out
            by_cases hkl : k < b.attrs.length
            · obtain ⟨a, ha⟩ : ∃ a, b.attrs[k]? = some a := ⟨_, List.getElem?_eq_getElem hkl⟩
              obtain ⟨z1, z2⟩ := QA.out a (List.mem_of_getElem? ha)
              have Z2 := Lib.hid z2
              obtain ⟨ao3, cap3, e3, hat⟩ := (A1x.out.below BK.out).at
              simp only [Value.slice.injEq, true_and] at e3
              obtain ⟨rfl, rfl⟩ := e3
              obtain ⟨ga, oa, nv, rfl, hn1, a0, a1⟩ := hat k a ha
              obtain ⟨ao3, cap3, e3, hat2⟩ := (A2x.out.below BK.out).at
              simp only [Value.slice.injEq, true_and] at e3
              obtain ⟨rfl, rfl⟩ := e3
              obtain ⟨gb, ob, nv2, rfl, hn2, b0, b1⟩ := hat2 k a ha
              have SN := Lib.hid (fun W (hw : Below wr.heap.size wr W) => sameNodes_any W nv nv2 a.expr (hn1.below hw) (hn2.below hw) z1 Z2.out)
              clear hat hat2 ha hn1 hn2 z2
              go_upto_region 11 with fail
              go_cut [121] (fun s121 wx => s121 = .bool false ∧ Below wr.heap.size wr wx)
              case first =>
                go_region_held3 (fun w' => w'.cell? ⟨g, o + i * 4 + 2, none⟩ = some (.slice (some ⟨ga, oa, none⟩) b.attrs.length acap) ∧ w'.cell? ⟨g2, o2 + i * 4 + 2, none⟩ = some (.slice (some ⟨gb, ob, none⟩) b.attrs.length acap2) ∧ w'.cell? ⟨ga, oa + k * 2, none⟩ = some (.string a.name) ∧ w'.cell? ⟨ga, oa + k * 2 + 1, none⟩ = some nv ∧ w'.cell? ⟨gb, ob + k * 2, none⟩ = some (.string a.name) ∧ w'.cell? ⟨gb, ob + k * 2 + 1, none⟩ = some nv2) (first | exact ⟨HK.out _ _ c2, HK.out _ _ d2, HK.out _ _ a0, HK.out _ _ a1, HK.out _ _ b0, HK.out _ _ b1⟩ | go_keep) (first
                  | (go_at_call 11; (with_reducible refine (SN.out _ ?_).mono ?_); exact below_drewN (Below.refl _ _) _; rintro e w' ⟨rfl, hbx⟩; have HBx := Lib.hid (show Below wr.heap.size wr w' from ⟨hbx.os, hbx.tape, hbx.output, hbx.size, hbx.block⟩); have HK := Lib.hid (fun (p : Addr) (u : Value) (hu : wr.cell? p = some u) => (HBx.out.cell (p := p) (World.block_lt_of_cell? _ _ hu)).trans hu); clear hbx))
                all_goals go_wp2
                all_goals go_meet
                all_goals (case rel => exact ⟨rfl, HBx.out⟩)
              case rest =>
                obtain ⟨rfl, hbx⟩ := hcut
                have BX2 := Lib.hid hbx
                clear hbx a0 a1 b0 b1 c2 d2
                go_wp2_with fail
                go_roundg (b.attrs.length - (k + 1))
                case rel => exact ⟨k + 1, rfl, Nat.le_refl _, hkl, BK.out.trans (BX2.out.mono BK.out.size)⟩
                case measure => have := HMk.out; omega
            · go_wp2_with fail
              go_roundg (bs.length - (i + 1))
              case rel => exact ⟨i + 1, rfl, Nat.le_refl _, hil, (BR.out.trans (BX.out.mono BR.out.size)).trans (BK.out.mono (BR.out.trans (BX.out.mono BR.out.size)).size)⟩
              case measure => have := HM.out; omega
      · go_wp2_with fail
        go_ret
        exact ⟨rfl, BR.out⟩
end Go.Proofs.YtkbbhgipajhbnaaDoor

/- Slices of bytes that came in. -/
namespace Go.Proofs.YtkbbhgipajhbnaaDoor
open Go.ChangeShapes Go.WideShapes Go.ChangeAt Go.RowKit
set_option linter.unusedVariables false
def BytesRd (w : World) (v : Value) (xs : List Nat) : Prop := Rds w v xs.length (xs.map fun x : Nat => Value.int .u8 (x : Int))
theorem cells5 : Tryd.prog.cellsOf 5 = 1 := by kernel_rfl
set_option maxRecDepth 100000 in
/-- A slice of bytes that came in. -/
theorem open_u8s {H : Type} {enc : TypeId × Value → H} {W : World} {base : Nat} {v : Value} {d : DataW H} {p : List MemPlace} (hval : Value.okWide Tryd.prog W .any base 22 v) (h : DataW.Trod enc Tryd.prog W 0 (fun _ => true) true 22 v d p) :
    ∃ xs : List Nat, BytesRd W v xs ∧ (∀ x ∈ xs, x < 256) ∧ xs.length ≤ maxLen := by
  obtain ⟨a0, len, cap, rfl⟩ := okWide_slice Tryd.underlying22 hval
  obtain ⟨fuel, hf⟩ := h
  rcases open_ints Tryd.underlying22 Tryd.underlying5 cells5 hf with ⟨hcs, hx⟩ | ⟨a, len', cap', zs, hcs, _, hl, hm, hz, hx, hcell, hwz⟩
  · simp [Value.cells] at hcs
    obtain ⟨rfl, rfl, rfl⟩ := hcs
    exact ⟨[], ⟨none, 0, rfl, fun j u h => by simp at h⟩, (fun x h => by cases h), Nat.zero_le _⟩
  · simp [Value.cells] at hcs
    obtain ⟨rfl, rfl, rfl⟩ := hcs
    simp only [if_true] at hz
    have hnat : ∀ n ∈ zs, 0 ≤ n ∧ n ≤ 255 := fun n hn => by
      have := hwz n hn
      simp only [Lit.wf, Bool.and_eq_true, decide_eq_true_eq] at this
      exact this
    refine ⟨(zs.take len).map Int.toNat, ?_, fun x hx => ?_, by simp; omega⟩
    · have hln : ((zs.take len).map Int.toNat).length = len := by simp; omega
      refine ⟨some a, cap, by rw [hln], fun j u hj => ?_⟩
      rw [List.getElem?_map, List.getElem?_map] at hj
      obtain ⟨m, hm1, rfl⟩ := Option.map_eq_some_iff.1 hj
      obtain ⟨n, hn1, rfl⟩ := Option.map_eq_some_iff.1 hm1
      have hjl : j < len := by
        have := (List.getElem?_eq_some_iff.1 hn1).1
        simp at this; omega
      obtain ⟨ab, ao, spot⟩ := a
      have hspot : spot = none := by simpa [Addr.add] using World.cell?_spot (hcell 0 (by omega))
      subst hspot
      refine ⟨ab, ao, rfl, ?_⟩
      have hcj := hcell j (by omega)
      rw [Addr.add_lit] at hcj
      rw [hcj]
      have hzj : zs[j]? = some n := by rw [List.getElem?_take] at hn1; simpa [hjl] using hn1
      have hn0 := hnat n (List.mem_of_getElem? hzj)
      rw [List.getD_eq_getElem?_getD, hzj]
      show some (Value.int .u8 n) = some (Value.int .u8 ((n.toNat : Nat) : Int))
      rw [Int.toNat_of_nonneg hn0.1]
    · obtain ⟨n, hn, rfl⟩ := List.mem_map.1 hx
      have := hnat n (List.mem_of_mem_take hn)
      omega

end Go.Proofs.YtkbbhgipajhbnaaDoor
