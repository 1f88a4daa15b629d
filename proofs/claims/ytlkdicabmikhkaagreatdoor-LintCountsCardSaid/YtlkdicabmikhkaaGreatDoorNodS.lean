/- What package parse asks of a node: the small predicates. -/
import Derived.Test.YtlkdicabmikhkaaGreatDoorNodA
namespace Go.Proofs.YtlkdicabmikhkaaGreatDoor
open Go.RowKit
set_option linter.unusedVariables false
set_option linter.unusedSimpArgs false

section
variable (w : World)
set_option maxHeartbeats 1000000 in
set_option maxRecDepth 20000 in
theorem pequal (va vb : Value) (xs ys : List Int) (ha : PlacesRd w va xs) (hb : PlacesRd w vb ys) (hl : xs.length ≤ 100000) (hl2 : ys.length ≤ 100000) :
    Calls Tryz.prog 49 #[va, vb] w (Quiet (.bool (decide (xs = ys))) w) := by
  by_cases hlen : xs.length = ys.length
  · by_cases h0 : 0 < xs.length
    · obtain ⟨g, o, cap, rfl, hc⟩ := ha.cell h0
      obtain ⟨g2, o2, cap2, rfl, hc2⟩ := hb.cell (by omega)
      have HC := Lib.hid hc
      have HC2 := Lib.hid hc2
      have LEN := Lib.hid hlen
      rw [← hlen]
      clear ha hb hc hc2 hlen hl2
      go_enter Tryz.func49, Tryz.ntmps49
      go_wp2_with fail
      go_loopg [13] xs.length (fun m v wr => ∃ j n : Nat, v = .int .i64 j ∧ xs.length - j ≤ m ∧ j ≤ xs.length ∧ wr = w.drewN n ∧ Hid (∀ i, i < j → xs[i]? = ys[i]?))
      case atStart => exact ⟨0, 0, rfl, Nat.le_refl _, Nat.zero_le _, rfl, Lib.hid fun i hi => absurd hi (Nat.not_lt_zero i)⟩
      case round =>
        obtain ⟨j, n, rfl, hm, hj, rfl, HI⟩ := hrel
        have HM := Lib.hid hm
        clear hm
        by_cases h : j < xs.length
        · have c1 := HC.out j h
          have hy : j < ys.length := by have := LEN.out; omega
          have d1 := HC2.out j hy
          have e1 : xs[j]? = some xs[j] := List.getElem?_eq_getElem h
          have e2 : ys[j]? = some ys[j] := List.getElem?_eq_getElem hy
          have EE := Lib.hid (And.intro e1 e2)
          clear e1 e2
          generalize xs[j] = a at *
          generalize ys[j] = c at *
          by_cases hac : a = c
          · have g1 : (a != c) = false := by simpa using hac
            have HA := Lib.hid hac
            clear hac
            go_wp2_with fail
            go_quiet (fail)
            go_wp2
            go_roundg (xs.length - (j + 1))
            case rel => exact ⟨j + 1, _, rfl, Nat.le_refl _, h, rfl, Lib.hid fun i hi => by
              by_cases hij : i < j
              · exact HI.out i hij
              · have : i = j := by omega
                subst this
                rw [EE.out.1, EE.out.2, HA.out]⟩
            case measure => have := HM.out; omega
          · have g1 : (a != c) = true := by simpa using hac
            have HA := Lib.hid hac
            have ED := Lib.hid (show decide (xs = ys) = false from decide_eq_false fun e => hac (by have := EE.out; rw [e] at this; rw [this.1] at this; simpa using this.2))
            clear hac
            go_wp2_with fail
            go_quiet (fail)
            go_wp2
            go_ret
            exact ⟨by rw [ED.out]; rfl, n + nq, by simp⟩
        · have ED := Lib.hid (show decide (xs = ys) = true from decide_eq_true (List.ext_getElem? fun i => by
            by_cases hi : i < j
            · exact HI.out i hi
            · rw [List.getElem?_eq_none (by omega), List.getElem?_eq_none (by have := LEN.out; omega)]))
          go_wp2_with fail
          go_ret
          exact ⟨by rw [ED.out]; rfl, _, rfl⟩
    · obtain ⟨ao, cap, rfl⟩ := ha.len
      obtain ⟨ao2, cap2, rfl⟩ := hb.len
      have h1 : xs.length = 0 := by omega
      have h2 : ys.length = 0 := by omega
      have ED := Lib.hid (show decide (xs = ys) = true from decide_eq_true (by rw [List.eq_nil_of_length_eq_zero h1, List.eq_nil_of_length_eq_zero h2]))
      rw [h1, h2]
      clear ha hb hlen h0 h1 h2
      go_enter Tryz.func49, Tryz.ntmps49
      go_wp2_with fail
      go_loopg [13] 0 (fun m v wr => v = .int .i64 0 ∧ wr = w)
      case atStart => exact ⟨rfl, rfl⟩
      case round =>
        obtain ⟨rfl, rfl⟩ := hrel
        go_wp2_with fail
        go_ret
        exact ⟨by rw [ED.out]; rfl, 0, rfl⟩
  · obtain ⟨ao, cap, rfl⟩ := ha.len
    obtain ⟨ao2, cap2, rfl⟩ := hb.len
    have ED := Lib.hid (show decide (xs = ys) = false from decide_eq_false fun e => hlen (by rw [e]))
    have g : ((xs.length : Int) != (ys.length : Int)) = true := by simp; omega
    clear ha hb hlen
    go_enter Tryz.func49, Tryz.ntmps49
    go_wp2_with fail
    go_ret
    exact ⟨by rw [ED.out]; rfl, 0, rfl⟩
theorem LexRdPost.eq_def'' (s : ByteArray) (w : World) : LexRdPost s w = fun e w' => ∃ v, e = .returned (.tuple #[v, .int .i64 (lexE s)]) ∧ Below w.heap.size w w' ∧ ToksRd w' v (lexT s) := rfl
def kidsP (k c : Int) : Bool :=
  if k = 5 then true else if k = 6 then true else if 1 ≤ k ∧ k ≤ 4 then c == 0 else if k = 8 then c == 1 else if k = 9 then c == 1 else if k = 7 then c == 2 else if 11 ≤ k ∧ k ≤ 23 then c == 2 else if k = 10 then c == 3 else false
set_option maxHeartbeats 2000000 in
set_option maxRecDepth 20000 in
theorem pkids (k c : Int) : Calls Tryz.prog 66 #[.int .i64 k, .int .i64 c] w fun e w' => e = .returned (.bool (kidsP k c)) ∧ w = w' := by
  have E := Lib.hid (show kidsP k c = if k = 5 then true else if k = 6 then true else if 1 ≤ k ∧ k ≤ 4 then c == 0 else if k = 8 then c == 1 else if k = 9 then c == 1 else if k = 7 then c == 2 else if 11 ≤ k ∧ k ≤ 23 then c == 2 else if k = 10 then c == 3 else false from rfl)
  go_enter Tryz.func66, Tryz.ntmps66
  go_wp2_with fail
  all_goals go_ret
  all_goals refine ⟨?_, rfl⟩
  all_goals rw [E.out]
  all_goals clear E
  all_goals simp_all
  all_goals first | done | omega | (rw [if_neg (by omega)]; intros; omega)
/-- A name by itself. -/
def nameP (s : ByteArray) : Bool := match lexT s with | [t, _] => t.kind == 3 && decide (t.text = s) | _ => false
def truthP (s : ByteArray) : Bool := decide (s = ⟨#[116, 114, 117, 101]⟩) || decide (s = ⟨#[102, 97, 108, 115, 101]⟩)
set_option maxRecDepth 20000 in
theorem ptruth (s : ByteArray) : Calls Tryz.prog 81 #[.string s] w fun e w' => e = .returned (.bool (truthP s)) ∧ w = w' := by
  have E1 := lit_eq (a := s) (l := [116, 114, 117, 101])
  have E2 := lit_eq (a := s) (l := [102, 97, 108, 115, 101])
  have E := Lib.hid (show truthP s = ((s.toList == ([116, 114, 117, 101] : List UInt8)) || (s.toList == ([102, 97, 108, 115, 101] : List UInt8))) by rw [E1, E2]; rfl)
  clear E1 E2
  rw [E.out]
  clear E
  cases h1 : (s.toList == ([116, 114, 117, 101] : List UInt8))
  · go_enter Tryz.func81, Tryz.ntmps81
    go_wp2_with fail
    go_ret
    exact ⟨rfl, rfl⟩
  · go_enter Tryz.func81, Tryz.ntmps81
    go_wp2_with fail
    go_ret
    exact ⟨rfl, rfl⟩
set_option maxHeartbeats 1000000 in
set_option maxRecDepth 20000 in
theorem pnamep (s : ByteArray) (hs : s.size ≤ maxLen) (hv : ErrVar w) : Calls Tryz.prog 39 #[.string s] w (Made (.bool (nameP s)) w) := by
  have HL := Lib.hid hs
  have V := Lib.hid hv
  clear hs hv
  by_cases h2 : (lexT s).length = 2
  · obtain ⟨t, u, htu⟩ : ∃ t u, lexT s = [t, u] := by
      match h : lexT s, h2 with
      | [t, u], _ => exact ⟨t, u, rfl⟩
    have TU := Lib.hid htu
    have E := Lib.hid (show nameP s = ((t.kind == 3) && (t.text.toList == s.toList)) by unfold nameP; rw [htu, str_eq])
    clear h2 htu
    rw [E.out]
    clear E
    go_enter Tryz.func39, Tryz.ntmps39
    go_wp2_with fail
    refine (lex_rd s w HL.out V.out).mono ?_
    rw [LexRdPost.eq_def'', TU.out]
    rintro e w1 ⟨v, rfl, hb, ht⟩
    obtain ⟨ao, cap, rfl, hc⟩ := ht.at
    obtain ⟨g, o, pv, rfl, hin⟩ := hc 0 t (by simp)
    have B1 := Lib.hid hb
    have c0 : w1.cell? ⟨g, o, none⟩ = some (.int .i64 t.kind) := by simpa using hin.kind
    have c1 : w1.cell? ⟨g, o + 1, none⟩ = some (.string t.text) := by simpa using hin.text
    clear hb ht hc hin
    cases h3 : (t.kind == 3)
    · go_wp2_with fail
      go_ret
      exact ⟨by first | rfl | (rw [h3]; rfl), B1.out⟩
    · go_wp2_with fail
      go_ret
      exact ⟨by first | rfl | (rw [h3]; rfl), B1.out⟩
  · have E := Lib.hid (show nameP s = false by
      unfold nameP
      match h : lexT s, h2 with
      | [], _ => rfl
      | [t], _ => rfl
      | [t, u], h2 => exact absurd rfl h2
      | t :: u :: x :: l, _ => rfl)
    have g : (((lexT s).length : Int) == 2) = false := by simp; omega
    clear h2
    rw [E.out]
    clear E
    go_enter Tryz.func39, Tryz.ntmps39
    go_wp2_with fail
    refine (lex_rd s w HL.out V.out).mono ?_
    rintro e w1 ⟨v, rfl, hb, ht⟩
    obtain ⟨ao, cap, rfl, -⟩ := ht.at
    have B1 := Lib.hid hb
    clear hb ht
    go_wp2_with fail
    go_ret
    exact ⟨rfl, B1.out⟩
end
end Go.Proofs.YtlkdicabmikhkaaGreatDoor
