/- Package room: a set of names. -/
import Derived.Test.YtffmmoligdoclaaRmR
import Derived.Test.YtffmmoligdoclaaRmB
namespace Go.Proofs.Ytffmmoligdoclaa
open Go.RowKit
set_option linter.unusedVariables false
set_option linter.unusedSimpArgs false
def SetRel (w : World) (ns : List ByteArray) (m : Nat) (iv : Value) (wr : World) : Prop :=
  ∃ k : Nat, iv = .int .i64 (k : Int) ∧ ns.length - k ≤ m ∧ k ≤ ns.length ∧ Below w.heap.size w wr ∧ SetIn wr w.heap.size k (fun x => x ∈ ns.take k)
theorem take_mem {ns : List ByteArray} {k : Nat} {s : ByteArray} (h : ns[k]? = some s) (x : ByteArray) : (x = s ∨ x ∈ ns.take k) ↔ x ∈ ns.take (k + 1) := by
  rw [List.take_add_one, h]
  simp only [Option.toList_some, List.mem_append, List.mem_singleton]
  exact or_comm
section
variable (w : World)
set_option maxHeartbeats 4000000 in
set_option maxRecDepth 20000 in
theorem pset (ns : List ByteArray) (nv : Value) (hn : SRow w ns nv) (hl : ns.length ≤ 1000) (hs : ∀ s ∈ ns, s.size ≤ maxLen) :
    Calls Try.prog 34 #[nv] w fun e w' => e = .returned (.map (some w.heap.size)) ∧ Below w.heap.size w w' ∧ SetIn w' w.heap.size ns.length (fun x => x ∈ ns) := by
  have HS := Lib.hid hs
  have M0 := Lib.hid ((SetIn.new w).iff (Q := fun x => x ∈ ns.take 0) (fun x => by simp))
  have B0 := Lib.hid (below_al (Below.refl w.heap.size w) (.map #[] 0))
  obtain ⟨ao, cap, rfl, hat⟩ := hn
  have HAT := Lib.hid hat
  clear hat hs
  have hmm := @run_makeMap Try.prog
  go_enter Try.func34, Try.ntmps34
  go_wp2_with fail
  go_loopg [9] ns.length (fun m iv wr => SetRel w ns m iv wr)
  case atStart => exact ⟨0, rfl, Nat.le_refl _, Nat.zero_le _, B0.out, M0.out⟩
  case round =>
    obtain ⟨k, rfl, hm, hk, hb, hS⟩ := hrel
    have HM := Lib.hid hm
    have BR := Lib.hid hb
    have SR := Lib.hid hS
    clear hm hb hS
    by_cases hlt : k < ns.length
    · obtain ⟨u, hu⟩ : ∃ u, ns[k]? = some u := ⟨_, List.getElem?_eq_getElem hlt⟩
      have HU := Lib.hid hu
      have NS := Lib.hid (HS.out u (List.mem_of_getElem? hu))
      obtain ⟨g, o, rfl, h0⟩ := HAT.out k u hu
      have k0 := hold BR.out h0
      have B2 := Lib.hid (below_al (Below.refl wr.heap.size wr) (.cells #[] 69))
      have k2 := hold B2.out k0
      obtain ⟨d0, hd0, hr0⟩ := SR.out
      obtain ⟨d, hd, hr⟩ := SR.out.below B2.out
      have HD0 := Lib.hid hd0
      have HR0 := Lib.hid hr0
      have HD := Lib.hid hd
      have HR := Lib.hid hr
      clear hd hr hu h0 hd0 hr0
      go_wp2_with (first
        | (at_mapUpdate; refine wpList_mapUpdate_own _ rfl _ _ _ 60 rfl 9 69 strKeyedW Try.underlying60 heldW w.heap.size k d0 rfl HD0.out (by unfold maxLen; omega) (.string u) (.agg #[]) (keyW u) rfl rfl (Go.WideMaps.keyOf_string_mk Try.underlying9 NS.out) _ [] rfl ?_; intro w3 hown3 hgrow3))
      have NM := Lib.hid (show SetRel w ns (ns.length - (k + 1)) (.int .i64 ((k + 1 : Nat) : Int)) w3 from
        ⟨k + 1, rfl, Nat.le_refl _, hlt, below_grown' BR.out hgrow3 (fun q e => by simp at e; omega), (SetIn.put (World.ownsMap.isMap HD0.out) HR0.out hown3).iff (take_mem HU.out)⟩)
      clear hown3 hgrow3
      go_roundg (ns.length - (k + 1))
      case rel => exact NM.out
      case measure => have := HM.out; omega
    · obtain rfl : k = ns.length := by omega
      have SE := Lib.hid (show SetIn wr w.heap.size ns.length (fun x => x ∈ ns) from by have := SR.out; rwa [List.take_length] at this)
      go_wp2_with fail
      go_ret
      exact ⟨rfl, BR.out, SE.out⟩
end
end Go.Proofs.Ytffmmoligdoclaa
