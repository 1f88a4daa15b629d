/- Package parse: what it asks of a name is what the document asks. -/
import Derived.Test.YtjohcpipflpiaaaGreatDoorNodC
import Derived.Test.YtjohcpipflpiaaaGreatDoorLexL
import Derived.Test.YtjohcpipflpiaaaGreatDoorLexM
namespace Go.Proofs.YtjohcpipflpiaaaGreatDoor
open Go.RowKit
set_option linter.unusedVariables false
set_option linter.unusedSimpArgs false
theorem ext_size (s : ByteArray) (a b : Nat) (hb : b ≤ s.size) : (s.extract a b).size = b - a := by simp [ByteArray.size_extract]; omega
theorem nameP_ok {s : ByteArray} (h : rnameB s = true) : nameP s = true := by
  simp only [rnameB, Bool.and_eq_true, decide_eq_true_eq] at h
  obtain ⟨⟨h0, h24⟩, hn⟩ := h
  have hst : startsB (pk s 0) = true := by
    unfold nameTo at hn
    split at hn
    · assumption
    · omega
  have hl : s.data.toList ≠ [] := fun e => h0 (by have : s.size = s.data.toList.length := rfl; rw [this, e]; rfl)
  obtain ⟨c, r, hcr⟩ : ∃ c r, s.data.toList = c :: r := by
    cases h : s.data.toList with
    | nil => exact absurd h hl
    | cons c r => exact ⟨c, r, rfl⟩
  have hs0 : suf s 0 = s.data.toList := rfl
  have hpk := pk_hd s 0
  rw [hs0] at hpk
  have hgap : gapN s.data.toList = 0 := by
    rw [hpk, hcr] at hst
    rw [hcr]
    unfold gapN
    have hc : hd (c :: r) = (c.toNat : Int) := rfl
    rw [hc] at hst
    rw [List.length_cons, skipN]
    rw [if_neg, if_neg]
    · rintro rfl; revert hst; decide
    · rintro (rfl | rfl) <;> revert hst <;> decide
  have hnt : nameN s.data.toList = s.data.toList.length := by
    have := nameTo_suf s 0
    rw [hs0] at this
    have e : s.size = s.data.toList.length := rfl
    omega
  have hok : nameB s.data.toList = true := by
    rw [← hs0, ← nameOk_suf]
    unfold nameOk
    unfold nameTo at hn
    rw [if_pos hst] at hn
    simp [hst, hn, h24]
  have htok : tokL s.data.toList = some (⟨3, s, 0, [], 0⟩, s.data.toList.length) := by
    unfold tokL
    rw [hpk] at hst
    rw [if_pos hst, if_pos hok, hnt, List.take_length]
  have hall : lexAll s.data.toList = some [⟨3, s, 0, [], 0⟩] := by
    unfold lexAll
    rw [hgap, List.drop_zero, hcr, List.length_cons, lexL, if_neg (by simp), ← hcr, htok]
    simp only [Option.bind_some, List.drop_length]
    cases r.length <;> simp [lexL, TokL.put]
  unfold nameP
  rw [lexT_all (by omega), hall]
  simp
theorem nameP_only {s : ByteArray} (h : nameP s = true) : rnameB s = true := by
  unfold nameP at h
  split at h
  case h_2 => cases h
  rename_i t u hl
  simp only [Bool.and_eq_true, beq_iff_eq, decide_eq_true_eq] at h
  obtain ⟨hk, ht⟩ := h
  have h6 : s.size ≤ 6000 := by
    by_cases h : s.size ≤ 6000
    · exact h
    · unfold lexT at hl; rw [if_pos (by omega)] at hl; cases hl
  rw [lexT_all h6] at hl
  cases ha : lexAll s.data.toList with
  | none => rw [ha] at hl; cases hl
  | some ts =>
    rw [ha] at hl
    have hts : ts = [t] := by
      match ts, hl with
      | [], hl => simp at hl
      | [a], hl => simp at hl; rw [hl.1]
      | a :: b :: c, hl => simp at hl
    subst hts
    clear hl
    have hz : s.size = s.data.toList.length := rfl
    unfold lexAll at ha
    generalize hg : gapN s.data.toList = g at ha
    cases hn : s.data.toList.length with
    | zero => rw [hn] at ha; simp [lexL] at ha
    | succ n =>
      rw [hn, lexL] at ha
      by_cases he : s.data.toList.drop g = []
      · rw [if_pos he] at ha; simp at ha
      · rw [if_neg he] at ha
        cases hr : tokL (s.data.toList.drop g) with
        | none => rw [hr] at ha; cases ha
        | some r =>
          rw [hr] at ha
          simp only [Option.bind_some, Option.map_eq_some_iff] at ha
          obtain ⟨x, -, hx⟩ := ha
          have e1 : t = r.1.put g := by simp at hx; exact hx.1.symm
          subst e1
          simp only [TokL.put] at hk ht
          unfold tokL at hr
          split at hr
          · rename_i hst
            split at hr
            · rename_i hok
              simp at hr
              subst hr
              simp only at ht
              have hlen : (List.take (nameN (s.data.toList.drop g)) (s.data.toList.drop g)).length = s.data.toList.length := by
                have : (⟨(List.take (nameN (s.data.toList.drop g)) (s.data.toList.drop g)).toArray⟩ : ByteArray).data.toList.length = s.data.toList.length := by rw [ht]
                simpa using this
              simp only [List.length_take, List.length_drop] at hlen
              have hg0 : g = 0 := by omega
              subst hg0
              rw [List.drop_zero] at hlen hok hst
              have hs0 : suf s 0 = s.data.toList := rfl
              have hnt := nameTo_suf s 0
              rw [hs0] at hnt
              have hle : nameN s.data.toList ≤ s.data.toList.length := by
                unfold nameN
                by_cases hx : startsB (hd s.data.toList) = true
                · rw [if_pos hx]; exact runLen_le _ _
                · rw [if_neg hx]; exact Nat.zero_le _
              have hnm : nameN s.data.toList = runLen inNameB s.data.toList := by unfold nameN; rw [if_pos hst]
              unfold nameB at hok
              simp only [Bool.and_eq_true, decide_eq_true_eq] at hok
              simp only [rnameB, Bool.and_eq_true, decide_eq_true_eq]
              exact ⟨⟨by omega, by omega⟩, by omega⟩
            · cases hr
          · split at hr
            · split at hr
              · simp at hr; rw [← hr] at hk; simp at hk
              · cases hr
            · split at hr
              · simp only [Option.map_eq_some_iff] at hr
                obtain ⟨y, -, hy⟩ := hr
                rw [← hy] at hk; simp at hk
              · split at hr
                · simp at hr; rw [← hr] at hk; simp at hk
                · cases hr
theorem nameP_eq (s : ByteArray) : nameP s = rnameB s := by
  rw [Bool.eq_iff_iff]
  exact ⟨nameP_only, nameP_ok⟩
end Go.Proofs.YtjohcpipflpiaaaGreatDoor
