/- Package eval: which place is asked next, where nothing is chosen. -/
import Derived.Test.YtndeihmclecmcaaGreatDoorEvC
namespace Go.Proofs.YtndeihmclecmcaaGreatDoor
open Go.RowKit
set_option linter.unusedVariables false
set_option linter.unusedSimpArgs false
def setKids (acc : List Int) (kids : List Int) (i : Nat) : List Int := kids.foldl (fun acc k => acc.set k.toNat (i : Int)) acc
def aboveTo (ns : List NodeL) : Nat → List Int
  | 0 => List.replicate ns.length 0
  | j + 1 => match ns[j]? with | some m => setKids (aboveTo ns j) m.kids j | none => aboveTo ns j
theorem setKids_len (kids : List Int) (i : Nat) : ∀ acc, (setKids acc kids i).length = acc.length := by
  induction kids with
  | nil => intro acc; rfl
  | cons k ks ih => intro acc; show (setKids (acc.set k.toNat i) ks i).length = _; rw [ih]; simp
theorem aboveTo_len (ns : List NodeL) : ∀ j, (aboveTo ns j).length = ns.length := by
  intro j
  induction j with
  | zero => simp [aboveTo]
  | succ j ih =>
    unfold aboveTo
    split
    · rw [setKids_len, ih]
    · exact ih
theorem setKids_snoc (acc kids : List Int) (k : Int) (i : Nat) : setKids acc (kids ++ [k]) i = (setKids acc kids i).set k.toNat i := by simp [setKids]
theorem kidCells_set (acc : List Int) (k : Nat) (i : Int) : (kidCells acc).set k (.int .i64 i) = kidCells (acc.set k i) := by unfold kidCells; rw [List.map_set]
theorem kidCells_repl (n : Nat) : List.replicate n (Value.int .i64 0) = kidCells (List.replicate n 0) := by simp [kidCells]
/-- Of each kid it is known where it stands. -/
def KidsOK (ns : List NodeL) : Prop := ∀ n ∈ ns, n.kids.length ≤ 100000 ∧ ∀ k ∈ n.kids, 0 ≤ k ∧ k < ns.length
def NewRel (w : World) (b g ga : Nat) (nv : Value) (ns : List NodeL) (acc : List Int) (wr : World) : Prop :=
  AskB wr b g nv (.slice (some ⟨ga, 0, none⟩) ns.length ns.length) (.slice none 0 0) ∧ wr.ownsRow w.heap.size 3 1 (.slice (some ⟨ga, 0, none⟩) ns.length ns.length) ns.length (kidCells acc) ∧ Below w.heap.size w wr
theorem NewRel.al {w wr : World} {b g ga : Nat} {nv : Value} {ns : List NodeL} {acc : List Int} (h : NewRel w b g ga nv ns acc wr) (O : Obj) : NewRel w b g ga nv ns acc (wr.alloc O) :=
  ⟨h.1.below (below_al (Below.refl _ _) _), World.ownsRow.alloc h.2.1 _, below_al h.2.2 _⟩
theorem NewRel.set {w wr : World} {b g ga : Nat} {nv : Value} {ns : List NodeL} {acc : List Int} (h : NewRel w b g ga nv ns acc wr) (hne : b ≠ ga) (hga : w.heap.size ≤ ga) (k : Nat) (i : Int) : NewRel w b g ga nv ns (acc.set k i) (wr.setCell ⟨ga, k, none⟩ (.int .i64 i)) := by
  obtain ⟨h1, h2⟩ := World.ownsRow.stored h.2.1 k (.int .i64 i)
  rw [kidCells_set] at h1
  refine ⟨?_, h1, h.2.2.setCell hga _⟩
  exact (h2.block b (Array.getElem?_eq_some_iff.1 h.1).1 (by simpa using hne)).trans h.1
section
variable (w : World)
set_option maxHeartbeats 2000000 in
set_option maxRecDepth 20000 in
theorem pnewAsker (g : Nat) (nv : Value) (ns : List NodeL) (h : NodesRd w nv ns) (hk : KidsOK ns) (hl : ns.length ≤ 100000) :
    Calls Tryz.prog 71 #[.map (some g), nv] w fun e w' => ∃ b ga, e = .returned (.pointer (some ⟨b, 0, none⟩)) ∧ w.heap.size ≤ b ∧ NewRel w b g ga nv ns (aboveTo ns ns.length) w' := by
  have H := Lib.hid h
  have HK := Lib.hid hk
  obtain ⟨ao, cap, rfl, -⟩ := h.at
  obtain ⟨i0, hi0, hz0, hz1, hz2⟩ := info_parts info_int
  obtain ⟨w1, hrun, hown, hgrow⟩ := run_make_full (P := Tryz.prog) w w.heap.size 33 3 i0 (.int .i64 0) 1 Tryz.underlying33 hi0 hz0 hz1 .i64 .i64 ns.length (by rw [hz2]; omega) (by unfold maxLen; omega) (Nat.le_refl _)
  have hown1 : w1.ownsRow w.heap.size 3 1 (.slice (some ⟨w.heap.size, 0, none⟩) ns.length ns.length) ns.length (kidCells (aboveTo ns 0)) := by
    have e : (madeCells (Value.int IntKind.i64 0).cells (ns.length * 1)).toList = kidCells (aboveTo ns 0) := by
      rw [Nat.mul_one]
      exact (toList_madeCells_one _ _).trans (kidCells_repl _)
    rw [← e]
    exact hown
  have hlt1 : w.heap.size < w1.heap.size := World.ownsRow.lt hown1 _ rfl |>.2
  have BW := Below.grown (Below.refl w.heap.size w) hgrow (Nat.le_refl _) (fun k hk => by cases hk)
  have N0 := Lib.hid (show NewRel w w1.heap.size g w.heap.size (.slice ao ns.length cap) ns (aboveTo ns 0) (w1.alloc (.cells #[.map (some g), .slice ao ns.length cap, .slice (some ⟨w.heap.size, 0, none⟩) ns.length ns.length, .slice none 0 0] 178)) from
    ⟨heap_alloc_new w1 _, World.ownsRow.alloc hown1 _, below_al BW _⟩)
  have LT := Lib.hid (show w1.heap.size ≠ w.heap.size by omega)
  have GE := Lib.hid (show w.heap.size ≤ w1.heap.size by omega)
  clear h hk hown hown1 hgrow BW
  go_enter Tryz.func71, Tryz.ntmps71
  go_wp2_with fail
  generalize w1.alloc (.cells #[.map (some g), .slice ao ns.length cap, .slice (some ⟨w.heap.size, 0, none⟩) ns.length ns.length, .slice none 0 0] 178) = w2 at *
  generalize w1.heap.size = b at *
  clear hrun
  go_loopg [19] ns.length (fun m v wr => ∃ j : Nat, v = .int .i64 j ∧ ns.length - j ≤ m ∧ j ≤ ns.length ∧ NewRel w b g w.heap.size (.slice ao ns.length cap) ns (aboveTo ns j) wr)
  case atStart => exact ⟨0, rfl, Nat.le_refl _, Nat.zero_le _, N0.out⟩
  case round =>
    obtain ⟨j, rfl, hm, hj, hn⟩ := hrel
    have HM := Lib.hid hm
    have HN := Lib.hid hn
    clear hm hn
    by_cases hjl : j < ns.length
    · obtain ⟨n, hnn⟩ : ∃ n, ns[j]? = some n := ⟨_, List.getElem?_eq_getElem hjl⟩
      obtain ⟨hKl, hKr⟩ := HK.out n (List.mem_of_getElem? hnn)
      have KR := Lib.hid hKr
      have NX := Lib.hid (show aboveTo ns (j + 1) = setKids (aboveTo ns j) n.kids j by rw [aboveTo, hnn])
      obtain ⟨ao2, cap2, e2, hat⟩ := H.out.at
      simp at e2
      obtain ⟨rfl, rfl⟩ := e2
      obtain ⟨g3, o, pv, kv, rfl, hpv, hkv, c0, c1, c2, c3, c4⟩ := hat j n hnn
      obtain ⟨pao, pcap, rfl⟩ : ∃ pao pcap, pv = .slice pao n.parts.length pcap := by obtain ⟨a, b, e, -⟩ := hpv; exact ⟨a, b, e⟩
      obtain ⟨kao, kcap, rfl⟩ := hkv.len
      have KV := Lib.hid hkv
      replace c0 := hold HN.out.2.2 c0
      replace c1 := hold HN.out.2.2 c1
      replace c2 := hold HN.out.2.2 c2
      replace c3 := hold HN.out.2.2 c3
      replace c4 := hold HN.out.2.2 c4
      have NA := Lib.hid (HN.out.al (.cells #[.int .i64 n.kind, .int .i64 n.num, .string n.text, .slice pao n.parts.length pcap, .slice kao n.kids.length kcap] 35))
      clear hat hnn hKr hpv hkv
      go_wp2_with fail
      generalize wr.alloc (.cells #[.int .i64 n.kind, .int .i64 n.num, .string n.text, .slice pao n.parts.length pcap, .slice kao n.kids.length kcap] 35) = wa at *
      go_loopg [27] n.kids.length (fun m v wx => ∃ q : Nat, v = .int .i64 q ∧ n.kids.length - q ≤ m ∧ q ≤ n.kids.length ∧ NewRel w b g w.heap.size (.slice (some ⟨g3, o, none⟩) ns.length cap) ns (setKids (aboveTo ns j) (n.kids.take q) j) wx)
      case atStart => exact ⟨0, rfl, Nat.le_refl _, Nat.zero_le _, NA.out⟩
      case round =>
        obtain ⟨q, rfl, hm2, hq, hn2⟩ := hrel
        have HM2 := Lib.hid hm2
        have HN2 := Lib.hid hn2
        clear hm2 hn2
        by_cases hql : q < n.kids.length
        · obtain ⟨x, hx⟩ : ∃ x, n.kids[q]? = some x := ⟨_, List.getElem?_eq_getElem hql⟩
          obtain ⟨hx0, hx1⟩ := KR.out x (List.mem_of_getElem? hx)
          obtain ⟨x, rfl⟩ : ∃ y : Nat, x = (y : Int) := ⟨x.toNat, by omega⟩
          have hxn : x < ns.length := by omega
          have NX2 := Lib.hid (show setKids (aboveTo ns j) (n.kids.take (q + 1)) j = (setKids (aboveTo ns j) (n.kids.take q) j).set x j by
            rw [take_snoc hx, setKids_snoc]; rfl)
          obtain ⟨g5, o5, cap5, e5, hcc⟩ := (KV.out.below HN2.out.2.2).cell (by omega)
          simp at e5
          obtain ⟨rfl, rfl⟩ := e5
          have ck := hcc q hql
          have hxe : n.kids[q] = (x : Int) := by
            have := List.getElem?_eq_getElem hql
            rw [hx] at this
            simpa using this.symm
          rw [hxe] at ck
          obtain ⟨b0, b1, b2, b3, b4, b5⟩ := AskB.cells HN2.out.1
          have cx := World.ownsRow.cellAt HN2.out.2.1 x (by omega)
          have cx2 : wr.cell? ⟨w.heap.size, x, none⟩ = some (.int .i64 ((setKids (aboveTo ns j) (n.kids.take q) j)[x]'(by rw [setKids_len, aboveTo_len]; omega))) := by
            rw [cx, kidCells, List.getElem?_map, List.getElem?_eq_getElem (by rw [setKids_len, aboveTo_len]; omega)]
            rfl
          have fx := World.ownsRow.frozenAt HN2.out.2.1 x
          generalize (setKids (aboveTo ns j) (n.kids.take q) j)[x]'(by rw [setKids_len, aboveTo_len]; omega) = xx at *
          have NS := Lib.hid (HN2.out.set LT.out (Nat.le_refl _) x j)
          clear cx hcc hx hx0 hx1 hxe
          go_wp2_with fail
          go_roundg (n.kids.length - (q + 1))
          case rel => exact ⟨q + 1, rfl, Nat.le_refl _, hql, by rw [NX2.out]; exact NS.out⟩
          case measure => have := HM2.out; omega
        · have hz : q = n.kids.length := by omega
          subst hz
          go_wp2_with fail
          go_roundg (ns.length - (j + 1))
          case rel => exact ⟨j + 1, rfl, Nat.le_refl _, hjl, by have := HN2.out; rw [List.take_length] at this; rw [NX.out]; exact this⟩
          case measure => have := HM.out; omega
    · have hz : j = ns.length := by omega
      subst hz
      go_wp2_with fail
      go_ret
      exact ⟨b, w.heap.size, rfl, GE.out, HN.out⟩
end
end Go.Proofs.YtndeihmclecmcaaGreatDoor
namespace Go.Proofs.YtndeihmclecmcaaGreatDoor
open Go.RowKit
set_option linter.unusedVariables false
set_option linter.unusedSimpArgs false
/-- Ahead of the last one each node is a kid of one that does not choose. -/
def PlainAbove (ns : List NodeL) (ab : List Int) : Prop := ab.length = ns.length ∧ ∀ j, j + 1 < ns.length → ∃ (p : Nat) (m : NodeL) (k : Int) (ks : List Int), ab[j]? = some (p : Int) ∧ ns[p]? = some m ∧ m.kids = k :: ks ∧ m.kids.length ≤ 100000 ∧ choosesB m.kind = false
section
variable (w : World)
set_option maxHeartbeats 1000000 in
set_option maxRecDepth 20000 in
theorem pnext (b g ga : Nat) (nv vv : Value) (ns : List NodeL) (ab : List Int) (hb : AskB w b g nv (.slice (some ⟨ga, 0, none⟩) ns.length ns.length) vv) (hn : NodesRd w nv ns) (ha : ∀ i x, ab[i]? = some x → w.cell? ⟨ga, i, none⟩ = some (.int .i64 x)) (hp : PlainAbove ns ab) (hl : ns.length ≤ 100000) (j : Nat) (hj : j + 1 < ns.length) :
    Calls Tryz.prog 100 #[.pointer (some ⟨b, 0, none⟩), .int .i64 j] w fun e w' => e = .returned (.tuple #[.int .i64 (j + 1 : Nat), .int .i64 0]) ∧ Below w.heap.size w w' := by
  obtain ⟨hal, hpp⟩ := hp
  obtain ⟨p, m, k, ks, h1, h2, h3, h4, h5⟩ := hpp j hj
  have ca := ha j _ h1
  obtain ⟨ao, cap, rfl, hat⟩ := hn.at
  obtain ⟨g3, o, pv, kv, rfl, hpv, hkv, c0, c1, c2, c3, c4⟩ := hat p m h2
  obtain ⟨pao, pcap, rfl⟩ : ∃ pao pcap, pv = .slice pao m.parts.length pcap := by obtain ⟨a, b, e, -⟩ := hpv; exact ⟨a, b, e⟩
  obtain ⟨g5, o5, cap5, rfl, hcc⟩ := hkv.cell (by rw [h3]; simp)
  have ck := hcc 0 (by rw [h3]; simp)
  have hpl : p < ns.length := (List.getElem?_eq_some_iff.1 h2).1
  have hk0 : m.kids[0]'(by rw [h3]; simp) = k := by simp [h3]
  rw [hk0] at ck
  simp only [Nat.add_zero] at ck
  obtain ⟨b0, b1, b2, b3, b4, b5⟩ := hb.cells
  have hkl : 0 < m.kids.length := by rw [h3]; simp
  have C1 := Lib.hid h5
  have ck2 : (w.alloc (.cells #[.int .i64 m.kind, .int .i64 m.num, .string m.text, .slice pao m.parts.length pcap, .slice (some ⟨g5, o5, none⟩) m.kids.length cap5] 35)).cell? ⟨g5, o5, none⟩ = some (.int .i64 k) := hold (below_al (Below.refl _ _) _) ck
  have hw : IntKind.i64.wrap ((j : Int) + 1) = ((j + 1 : Nat) : Int) := by rw [IntKind.wrap_i64]; omega
  clear ha hpp hat hpv hkv hcc h1 h2 h3 h5 hk0 hb hn
  generalize m.kids.length = kl at *
  go_enter Tryz.func100, Tryz.ntmps100
  go_wp2_with fail
  refine (pchooses _ m.kind).mono ?_
  rw [C1.out]
  rintro e w1 ⟨rfl, rfl⟩
  go_wp2_with fail
  exact bodyPost_ret (v := .tuple #[.int .i64 ((j + 1 : Nat) : Int), .int .i64 0]) (by simp [results, Tryz.results100, go_sem]) rfl ⟨rfl, below_al (Below.refl _ _) _⟩
end
end Go.Proofs.YtndeihmclecmcaaGreatDoor
