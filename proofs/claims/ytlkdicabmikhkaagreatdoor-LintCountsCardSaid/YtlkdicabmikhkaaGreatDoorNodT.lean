/- Package parse: what it asks of a node, of any kind. -/
import Derived.Test.YtlkdicabmikhkaaGreatDoorNodC
namespace Go.Proofs.YtlkdicabmikhkaaGreatDoor
open Go.RowKit
set_option linter.unusedVariables false
set_option linter.unusedSimpArgs false
def okB (c : UInt8) : Bool := !(decide ((c.toNat : Int) < 32) && ((c.toNat : Int) != 10))
def plainP (s : ByteArray) : Bool := s.data.toList.all okB && decide (s.size ≠ 0)
theorem bytes_drop {s : ByteArray} {j : Nat} (h : j < s.size) : s.data.toList.drop j = s[j] :: s.data.toList.drop (j + 1) := by
  have hl : j < s.data.toList.length := h
  rw [List.drop_eq_getElem_cons hl]
  rfl
theorem partCells_at : ∀ {ps : List PartL} {i : Nat} {p : PartL}, ps[i]? = some p → (partCells ps)[i * 2]? = some (.bool p.1) ∧ (partCells ps)[i * 2 + 1]? = some (.string p.2) := by
  intro ps
  induction ps with
  | nil => intro i p h; simp at h
  | cons a ps ih =>
    intro i p h
    cases i with
    | zero => simp at h; subst h; exact ⟨rfl, rfl⟩
    | succ i =>
      simp at h
      have := ih h
      rw [show (i + 1) * 2 = i * 2 + 2 by omega, show i * 2 + 2 + 1 = (i * 2 + 1) + 2 by omega]
      exact this
theorem PartsRd.at {w : World} {v : Value} {ps : List PartL} (h : PartsRd w v ps) : ∃ ao cap, v = .slice ao ps.length cap ∧ ∀ i p, ps[i]? = some p → ∃ g o, ao = some ⟨g, o, none⟩ ∧ w.cell? ⟨g, o + i * 2, none⟩ = some (.bool p.1) ∧ w.cell? ⟨g, o + i * 2 + 1, none⟩ = some (.string p.2) := by
  obtain ⟨ao, cap, rfl, hc⟩ := h
  refine ⟨ao, cap, rfl, fun i p hi => ?_⟩
  obtain ⟨h1, h2⟩ := partCells_at hi
  obtain ⟨g, o, rfl, c1⟩ := hc _ _ h1
  obtain ⟨g', o', e, c2⟩ := hc _ _ h2
  simp at e
  obtain ⟨rfl, rfl⟩ := e
  exact ⟨g, o, rfl, c1, by rw [Nat.add_assoc]; exact c2⟩
theorem empty_eq (a : ByteArray) : a.toList.isEmpty = decide (a = ⟨#[]⟩) := by
  have h := lit_eq (a := a) (l := [])
  have e : (⟨([] : List UInt8).toArray⟩ : ByteArray) = ⟨#[]⟩ := rfl
  rw [e] at h
  rw [← h]
  cases a.toList <;> rfl
section
variable (w : World)
set_option maxRecDepth 20000 in
theorem pplain (s : ByteArray) (hs : s.size ≤ maxLen) : Calls Tryz.prog 84 #[.string s] w fun e w' => e = .returned (.bool (plainP s)) ∧ w = w' := by
  have hs' : s.size ≤ 9223372036854775807 := hs
  clear hs
  go_enter Tryz.func84, Tryz.ntmps84
  go_wp2_with fail
  go_loopg [6] s.size (fun m v wr => ∃ j : Nat, v = .int .i64 j ∧ s.size - j ≤ m ∧ j ≤ s.size ∧ Hid (s.data.toList.all okB = (s.data.toList.drop j).all okB) ∧ w = wr)
  case atStart => exact ⟨0, rfl, Nat.le_refl _, Nat.zero_le _, Lib.hid rfl, rfl⟩
  case round =>
    obtain ⟨j, rfl, hm, hj, HA, rfl⟩ := hrel
    have HM := Lib.hid hm
    clear hm
    by_cases hjs : j < s.size
    · have HD := Lib.hid (bytes_drop hjs)
      have HB := Lib.hid (show okB s[j] = !(decide ((s[j].toNat : Int) < 32) && ((s[j].toNat : Int) != 10)) from rfl)
      by_cases h1 : (s[j].toNat : Int) < 32
      · by_cases h2 : (s[j].toNat : Int) = 10
        · have g2 : ((s[j].toNat : Int) != 10) = false := by simp [h2]
          have HN := Lib.hid (show s.data.toList.all okB = (s.data.toList.drop (j + 1)).all okB by rw [HA.out, HD.out, List.all_cons, HB.out, g2]; simp)
          clear h2
          go_wp2_with fail
          go_roundg (s.size - (j + 1))
          case rel => exact ⟨j + 1, rfl, Nat.le_refl _, hjs, HN, rfl⟩
          case measure => have := HM.out; omega
        · have g2 : ((s[j].toNat : Int) != 10) = true := by simp [h2]
          have HN := Lib.hid (show plainP s = false by unfold plainP; rw [HA.out, HD.out, List.all_cons, HB.out, g2, decide_eq_true h1]; rfl)
          clear h2
          go_wp2_with fail
          go_ret
          exact ⟨by rw [HN.out]; rfl, rfl⟩
      · have HN := Lib.hid (show s.data.toList.all okB = (s.data.toList.drop (j + 1)).all okB by rw [HA.out, HD.out, List.all_cons, HB.out, decide_eq_false h1]; simp)
        go_wp2_with fail
        go_roundg (s.size - (j + 1))
        case rel => exact ⟨j + 1, rfl, Nat.le_refl _, hjs, HN, rfl⟩
        case measure => have := HM.out; omega
    · have hz : j = s.size := by omega
      have E1 := empty_eq s
      have HN := Lib.hid (show plainP s = !s.toList.isEmpty by
        unfold plainP
        rw [HA.out, hz, E1]
        have : s.data.toList.drop s.size = [] := List.drop_length
        rw [this]
        by_cases h0 : s = ⟨#[]⟩
        · subst h0; rfl
        · have : s.size ≠ 0 := fun e => h0 (by apply ByteArray.ext; exact Array.eq_empty_of_size_eq_zero e)
          simp [h0, this])
      go_wp2_with fail
      go_ret
      refine ⟨?_, rfl⟩
      rw [HN.out]
      first | rfl | (simp; exact E1.symm)
/-- The parts of a text, behind one that is a reference, or is none. -/
def partsGo : Option Bool → List PartL → Bool
  | _, [] => true
  | pr, p :: ps => (if p.1 then refP p.2 else plainP p.2) && (p.1 || pr != some false) && partsGo (some p.1) ps
def partsP (ps : List PartL) : Bool := partsGo none ps
def prevOf (ps : List PartL) (j : Nat) : Option Bool := if j = 0 then none else (ps[j - 1]?).map (·.1)
theorem prevOf_succ (ps : List PartL) (j : Nat) (p : PartL) (h : ps[j]? = some p) : prevOf ps (j + 1) = some p.1 := by
  unfold prevOf; rw [if_neg (by omega)]; simp [h]
set_option maxHeartbeats 2000000 in
set_option maxRecDepth 20000 in
theorem pparts (v : Value) (ps : List PartL) (h : PartsRd w v ps) (hl : ps.length ≤ 100000) (ht : ∀ p ∈ ps, p.2.size ≤ 281474976710656) (hv : ErrVar w) :
    Calls Tryz.prog 69 #[v] w (Made (.bool (partsP ps)) w) := by
  have H := Lib.hid h
  have V := Lib.hid hv
  have HT := Lib.hid ht
  obtain ⟨ao, cap, rfl, -⟩ := h.at
  clear h hv ht
  go_enter Tryz.func69, Tryz.ntmps69
  go_wp2_with fail
  go_loopg [7] ps.length (fun m v wr => ∃ j : Nat, v = .int .i64 j ∧ ps.length - j ≤ m ∧ j ≤ ps.length ∧ Hid (partsP ps = partsGo (prevOf ps j) (ps.drop j)) ∧ Hid (Below w.heap.size w wr))
  case atStart => exact ⟨0, rfl, Nat.le_refl _, Nat.zero_le _, Lib.hid rfl, Lib.hid (Below.refl _ _)⟩
  case round =>
    obtain ⟨j, rfl, hm, hj, HA, B⟩ := hrel
    have HM := Lib.hid hm
    clear hm
    by_cases hjl : j < ps.length
    · obtain ⟨p, hp⟩ : ∃ p, ps[j]? = some p := ⟨_, List.getElem?_eq_getElem hjl⟩
      have hmem : p ∈ ps := List.mem_of_getElem? hp
      have HD := Lib.hid (show ps.drop j = p :: ps.drop (j + 1) by
        obtain ⟨h1, h2⟩ := List.getElem?_eq_some_iff.1 hp
        rw [← h2]
        exact List.drop_eq_getElem_cons h1)
      have PV := Lib.hid (prevOf_succ ps j p hp)
      have TS := Lib.hid (show p.2.size ≤ maxLen by have := HT.out p hmem; unfold maxLen; omega)
      obtain ⟨ao2, cap2, e2, hat⟩ := PartsRd.at (Rds.below H.out B.out)
      simp at e2
      obtain ⟨rfl, rfl⟩ := e2
      obtain ⟨g, o, rfl, c0, c1⟩ := hat j p hp
      have HAT := Lib.hid hat
      clear hat hp hmem
      obtain ⟨pr, pt⟩ := p
      simp only at c0 c1
      have NB := Lib.hid (show (wr.alloc (.cells #[.bool pr, .string pt] 31)).heap[wr.heap.size]? = some (.cells #[.bool pr, .string pt] 31 (0, 0)) from heap_alloc_new wr _)
      have B1 := Lib.hid (B.out.alloc B.out.size (.cells #[.bool pr, .string pt] 31))
      cases pr
      · cases hpl : plainP pt
        · have E := Lib.hid (show partsP ps = false by rw [HA.out, HD.out, partsGo]; simp [hpl])
          go_wp2_with fail
          refine (pplain _ pt TS.out).mono ?_
          rw [hpl]
          rintro e w1 ⟨rfl, rfl⟩
          go_wp2_with fail
          go_ret
          exact ⟨by rw [E.out]; rfl, B1.out⟩
        · by_cases hj0 : 0 < j
          · obtain ⟨q, hq⟩ : ∃ q, ps[j - 1]? = some q := ⟨_, List.getElem?_eq_getElem (by omega)⟩
            have PQ := Lib.hid (show prevOf ps j = some q.1 by unfold prevOf; rw [if_neg (by omega), hq]; rfl)
            obtain ⟨g', o', e', d0, -⟩ := HAT.out (j - 1) q hq
            simp at e'
            obtain ⟨rfl, rfl⟩ := e'
            have hsub : (j : Int) - 1 = ((j - 1 : Nat) : Int) := by omega
            obtain ⟨qr, qt⟩ := q
            simp only at d0
            have d1 : (wr.alloc (.cells #[.bool false, .string pt] 31)).cell? ⟨g, o + (j - 1) * 2, none⟩ = some (.bool qr) := hold (below_al (Below.refl _ _) _) d0
            have hjp : decide ((0 : Int) < (j : Int)) = true := decide_eq_true (by omega)
            clear hq
            cases qr
            · have E := Lib.hid (show partsP ps = false by rw [HA.out, HD.out, partsGo, PQ.out]; simp [hpl])
              have HP := Lib.hid hpl
              clear hpl
              go_wp2_with fail
              refine (pplain _ pt TS.out).mono ?_
              rw [HP.out]
              rintro e w1 ⟨rfl, rfl⟩
              go_wp2_with fail
              go_ret
              exact ⟨by rw [E.out]; rfl, B1.out⟩
            · have E := Lib.hid (show partsP ps = partsGo (prevOf ps (j + 1)) (ps.drop (j + 1)) by rw [HA.out, HD.out, partsGo, PQ.out, PV.out]; simp [hpl])
              have HP := Lib.hid hpl
              clear hpl
              go_wp2_with fail
              refine (pplain _ pt TS.out).mono ?_
              rw [HP.out]
              rintro e w1 ⟨rfl, rfl⟩
              go_wp2_with fail
              go_roundg (ps.length - (j + 1))
              case rel => exact ⟨j + 1, rfl, Nat.le_refl _, hjl, E, B1⟩
              case measure => have := HM.out; omega
          · have hz : j = 0 := by omega
            subst hz
            simp only [Nat.zero_mul, Nat.add_zero] at c0 c1
            have E := Lib.hid (show partsP ps = partsGo (prevOf ps (0 + 1)) (ps.drop (0 + 1)) by rw [HA.out, HD.out, partsGo, PV.out]; simp [hpl, prevOf])
            have HP := Lib.hid hpl
            clear hpl
            go_wp2_with fail
            refine (pplain _ pt TS.out).mono ?_
            rw [HP.out]
            rintro e w1 ⟨rfl, rfl⟩
            go_wp2_with fail
            go_roundg (ps.length - (0 + 1))
            case rel => exact ⟨0 + 1, rfl, Nat.le_refl _, hjl, E, B1⟩
            case measure => have := HM.out; omega
      · cases hrf : refP pt
        · have E := Lib.hid (show partsP ps = false by rw [HA.out, HD.out, partsGo]; simp [hrf])
          have HR := Lib.hid hrf
          clear hrf
          go_wp2_with fail
          refine (preference _ pt TS.out (V.out.below B1.out V.out.lt)).mono ?_
          rw [HR.out]
          rintro e w1 ⟨rfl, hb⟩
          have B2 := Lib.hid (B1.out.trans (hb.mono B1.out.size))
          clear hb
          go_wp2_with fail
          go_ret
          exact ⟨by rw [E.out]; rfl, B2.out⟩
        · have E := Lib.hid (show partsP ps = partsGo (prevOf ps (j + 1)) (ps.drop (j + 1)) by rw [HA.out, HD.out, partsGo, PV.out]; simp [hrf])
          have HR := Lib.hid hrf
          clear hrf
          go_wp2_with fail
          refine (preference _ pt TS.out (V.out.below B1.out V.out.lt)).mono ?_
          rw [HR.out]
          rintro e w1 ⟨rfl, hb⟩
          have B2 := Lib.hid (B1.out.trans (hb.mono B1.out.size))
          have c5 := cell_of_row _ _ 0 _ _ _ ((hb.block _ (Array.getElem?_eq_some_iff.1 NB.out).1).trans NB.out)
          simp at c5
          clear hb
          go_wp2_with fail
          · go_roundg (ps.length - (j + 1))
            case rel => exact ⟨j + 1, rfl, Nat.le_refl _, hjl, E, B2⟩
            case measure => have := HM.out; omega
          · go_roundg (ps.length - (j + 1))
            case rel => exact ⟨j + 1, rfl, Nat.le_refl _, hjl, E, B2⟩
            case measure => have := HM.out; omega
    · have hz : j = ps.length := by omega
      have E := Lib.hid (show partsP ps = true by rw [HA.out, hz, List.drop_length]; rfl)
      go_wp2_with fail
      go_ret
      exact ⟨by rw [E.out]; rfl, B.out⟩
end
end Go.Proofs.YtlkdicabmikhkaaGreatDoor
