/- Package lint: labels that modules say; defines that nobody uses. -/
import Derived.Test.YtlkdicabmikhkaaGreatDoorLiG
namespace Go.Proofs.YtlkdicabmikhkaaGreatDoor
open Go.RowKit Go.Sort
set_option linter.unusedVariables false
set_option linter.unusedSimpArgs false
def labelP (ps : List PartL) : Option ByteArray := match ps with
  | [p] => if p.1 then none else some p.2
  | _ => none
def labelL (ns : List NodeL) : Option ByteArray := match ns with
  | [n] => labelP n.parts
  | _ => none
def LabelIs (o : Option ByteArray) (e : Ending) : Prop := match o with
  | none => e = .returned (.tuple #[.string ⟨#[]⟩, .bool false])
  | some x => e = .returned (.tuple #[.string x, .bool true])
section
variable (w : World)
set_option maxHeartbeats 1000000 in
set_option maxRecDepth 20000 in
theorem plabelN (u : Value) (ns : List NodeL) (h : NodesRd w u ns) (hl : ns.length ≤ 1000) (hp : ∀ n ∈ ns, n.parts.length ≤ 100000) :
    Calls Tryz.prog 21 #[u] w fun e w' => LabelIs (labelL ns) e ∧ w = w' := by
  obtain ⟨ao, cap, rfl, hat⟩ := h.at
  by_cases h1 : ns.length = 1
  · obtain ⟨n, rfl⟩ : ∃ n, ns = [n] := List.length_eq_one_iff.1 h1
    have hpl := hp n (by simp)
    obtain ⟨g, o, pv, kv, rfl, hpv, hkv, c0, c1, c2, c3, c4⟩ := hat 0 n rfl
    obtain ⟨pao, pcap, rfl⟩ : ∃ a c, pv = .slice a n.parts.length c := by obtain ⟨a, c, e, -⟩ := hpv; exact ⟨a, c, e⟩
    obtain ⟨kao, kcap, rfl⟩ := hkv.len
    by_cases h2 : n.parts.length = 1
    · obtain ⟨p, hpe⟩ : ∃ p, n.parts = [p] := List.length_eq_one_iff.1 h2
      obtain ⟨gp, op, rfl, d0, d1⟩ := parts_cell (q := 0) (p := p) hpv (by rw [hpe]; rfl)
      have LL := Lib.hid (show labelL [n] = if p.1 then none else some p.2 by show labelP n.parts = _; rw [hpe]; rfl)
      simp only [Nat.zero_mul, Nat.add_zero, h2, List.length_cons, List.length_nil, Nat.zero_add] at *
      clear hat hpe hpv hkv h hp h1 h2
      cases hp1 : p.1 with
      | true =>
        rw [hp1] at d0 LL
        go_enter Tryz.func21, Tryz.ntmps21
        go_wp2_with fail
        go_ret2
        exact ⟨by rw [LL.out]; rfl, rfl⟩
      | false =>
        rw [hp1] at d0 LL
        go_enter Tryz.func21, Tryz.ntmps21
        go_wp2_with fail
        go_ret2
        exact ⟨by rw [LL.out]; rfl, rfl⟩
    · have LL := Lib.hid (show labelL [n] = none by
        show labelP n.parts = none
        unfold labelP
        split
        · rename_i p e
          rw [e] at h2
          exact absurd rfl h2
        · rfl)
      have g2 : (n.parts.length == 1) = false := by simpa using h2
      generalize hm : n.parts.length = m at *
      simp only [Nat.zero_mul, Nat.add_zero, List.length_cons, List.length_nil, Nat.zero_add] at *
      have g3 : ¬ ((m : Int) = 1) := by omega
      clear hat hpv hkv h hp h1 hm
      go_enter Tryz.func21, Tryz.ntmps21
      go_wp2_with fail
      go_ret2
      exact ⟨by rw [LL.out]; rfl, rfl⟩
  · have LL := Lib.hid (show labelL ns = none by
      unfold labelL
      split
      · exact absurd rfl h1
      · rfl)
    generalize hm : ns.length = m at *
    have g3 : ¬ ((m : Int) = 1) := by omega
    clear hat h hp hm
    go_enter Tryz.func21, Tryz.ntmps21
    go_wp2_with fail
    go_ret2
    exact ⟨by rw [LL.out]; rfl, rfl⟩
end
end Go.Proofs.YtlkdicabmikhkaaGreatDoor
