/- Package eval: which place is asked next, where nothing is chosen. -/
import Derived.Test.YtnnlblcaidffcaaGreatDoorEvD
namespace Go.Proofs.YtnnlblcaidffcaaGreatDoor
open Go.RowKit
set_option linter.unusedVariables false
set_option linter.unusedSimpArgs false
/-- Ahead of the last one each node is a kid of one that does not choose. -/
def PlainAbove (ns : List NodeL) (ab : List Int) : Prop := ab.length = ns.length ∧ ∀ j, j + 1 < ns.length → ∃ (p : Nat) (m : NodeL) (k : Int) (ks : List Int), ab[j]? = some (p : Int) ∧ ns[p]? = some m ∧ m.kids = k :: ks ∧ m.kids.length ≤ 100000 ∧ choosesB m.kind = false
section
variable (w : World)
set_option maxHeartbeats 1000000 in
set_option maxRecDepth 20000 in
theorem pnext (b g ga : Nat) (nv vv : Value) (ns : List NodeL) (ab : List Int) (hb : AskB w b g nv (.slice (some ⟨ga, 0, none⟩) ns.length ns.length) vv) (hn : NodesRd w nv ns) (ha : ∀ i x, ab[i]? = some x → w.cell? ⟨ga, i, none⟩ = some (.int .i64 x)) (hp : PlainAbove ns ab) (hl : ns.length ≤ 100000) (j : Nat) (hj : j + 1 < ns.length) :
    Calls Tryz.prog 61 #[.pointer (some ⟨b, 0, none⟩), .int .i64 j] w fun e w' => e = .returned (.tuple #[.int .i64 (j + 1 : Nat), .int .i64 0]) ∧ Below w.heap.size w w' := by
  obtain ⟨hal, hpp⟩ := hp
  obtain ⟨p, m, k, ks, h1, h2, h3, h4, h5⟩ := hpp j hj
  have ca := ha j _ h1
  obtain ⟨ao, cap, rfl, hat⟩ := hn.at
  obtain ⟨g3, o, pv, kv, rfl, hpv, hkv, c0, c1, c2, c3, c4⟩ := hat p m h2
  obtain ⟨pao, pcap, rfl⟩ : ∃ pao pcap, pv = .slice pao m.parts.length pcap := by obtain ⟨a, b, e, -⟩ := hpv; exact ⟨a, b, e⟩
  obtain ⟨g5, o5, cap5, rfl, hcc⟩ := hkv.cell (by rw [h3]; simp)
  have ck := hcc 0 (by rw [h3]; simp)
  have hpl : p < ns.length := (List.getElem?_eq_some_iff.1 h2).1
  have hk0 : m.kids[0]'(by rw [h3]; simp) = k := by simp [h3]
  rw [hk0] at ck
  simp only [Nat.add_zero] at ck
  obtain ⟨b0, b1, b2, b3, b4, b5⟩ := hb.cells
  have hkl : 0 < m.kids.length := by rw [h3]; simp
  have C1 := Lib.hid h5
  have ck2 : (w.alloc (.cells #[.int .i64 m.kind, .int .i64 m.num, .string m.text, .slice pao m.parts.length pcap, .slice (some ⟨g5, o5, none⟩) m.kids.length cap5] 27)).cell? ⟨g5, o5, none⟩ = some (.int .i64 k) := hold (below_al (Below.refl _ _) _) ck
  have hw : IntKind.i64.wrap ((j : Int) + 1) = ((j + 1 : Nat) : Int) := by rw [IntKind.wrap_i64]; omega
  clear ha hpp hat hpv hkv hcc h1 h2 h3 h5 hk0 hb hn
  generalize m.kids.length = kl at *
  go_enter Tryz.func61, Tryz.ntmps61
  go_wp2_with fail
  refine (pchooses _ m.kind).mono ?_
  rw [C1.out]
  rintro e w1 ⟨rfl, rfl⟩
  go_wp2_with fail
  exact bodyPost_ret (v := .tuple #[.int .i64 ((j + 1 : Nat) : Int), .int .i64 0]) (by simp [results, Tryz.results61, go_sem]) rfl ⟨rfl, below_al (Below.refl _ _) _⟩
end
end Go.Proofs.YtnnlblcaidffcaaGreatDoor
