/- A rising row of texts searched by halves. -/
import Derived.Test.YtlkdicabmikhkaaGreatDoorRgH
import Derived.Shelf.Spec.SearchS
namespace Go.Proofs.YtlkdicabmikhkaaGreatDoor
open Go.RowKit Go.Sort
set_option linter.unusedVariables false
set_option linter.unusedSimpArgs false
section
variable (w : World)
set_option maxRecDepth 20000 in
theorem pcmpNaN (x : ByteArray) : Calls Tryz.prog 61 #[.string x] w fun e w' => e = .returned (.bool false) ∧ w = w' := by
  go_enter Tryz.func61, Tryz.ntmps61
  go_wp2_with fail
  go_ret
  exact ⟨by simp, rfl⟩
set_option maxRecDepth 20000 in
theorem pslNaN (x : ByteArray) : Calls Tryz.prog 46 #[.string x] w fun e w' => e = .returned (.bool false) ∧ w = w' := by
  go_enter Tryz.func46, Tryz.ntmps46
  go_wp2_with fail
  go_ret
  exact ⟨by simp, rfl⟩
set_option maxRecDepth 20000 in
theorem pcmpLess (x y : ByteArray) : Calls Tryz.prog 45 #[.string x, .string y] w fun e w' => e = .returned (.bool (Op.bytesLess x.toList y.toList)) ∧ w = w' := by
  go_enter Tryz.func45, Tryz.ntmps45
  go_wp2_with fail
  refine (pcmpNaN _ _).mono ?_
  rintro e w1 ⟨rfl, rfl⟩
  go_wp2_with fail
  go_ret
  exact ⟨rfl, rfl⟩
def lessAt (S : Nat → ByteArray) (x : ByteArray) (t : Nat) : Bool := Op.bytesLess (S t).toList x.toList
/-- Whether a row searched by halves has a text. -/
def hasBS (S : Nat → ByteArray) (n : Nat) (x : ByteArray) : Bool := decide (Lib.bsGo (lessAt S x) n 0 n < n ∧ S (Lib.bsGo (lessAt S x) n 0 n) = x)
set_option maxHeartbeats 4000000 in
set_option maxRecDepth 100000 in
theorem psearch (b off n c : Nat) (S : Nat → ByteArray) (x : ByteArray) (hn : n ≤ 100000) (hc : ∀ j, j < n → w.cell? ⟨b, off + j, none⟩ = some (.string (S j))) :
    Calls Tryz.prog 32 #[.slice (some ⟨b, off, none⟩) n c, .string x] w fun e w' =>
      (∃ r : Value, e = .returned (.tuple #[r, .bool (hasBS S n x)])) ∧ ∃ q, w' = w.drewN q := by
  have HC := Lib.hid hc
  obtain ⟨I, hI⟩ : ∃ I, Lib.bsGo (lessAt S x) n 0 n = I := ⟨_, rfl⟩
  have HH := Lib.hid (show hasBS S n x = decide (I < n ∧ S I = x) by unfold hasBS; rw [hI])
  clear hc
  go_enter Tryz.func32, Tryz.ntmps32
  go_wp2_with fail
  go_loopg [7, 8] n (fun g s7 s8 wr => ∃ lo hi q : Nat, s7 = .int .i64 lo ∧ s8 = .int .i64 hi ∧ lo ≤ hi ∧ hi ≤ n ∧ hi - lo ≤ g ∧ wr = w.drewN q ∧ Hid (Lib.bsGo (lessAt S x) g lo hi = I))
  case atStart => exact ⟨0, n, 0, rfl, rfl, Nat.zero_le _, Nat.le_refl _, by omega, rfl, Lib.hid hI⟩
  case round =>
    obtain ⟨lo, hi, q, rfl, rfl, hlh, hin, hg, rfl, hb⟩ := hrel
    clear hI
    by_cases hlt : lo < hi
    · have cm : (w.drewN q).cell? ⟨b, off + (lo + hi) / 2, none⟩ = some (.string (S ((lo + hi) / 2))) := HC.out _ (by omega)
      have HG := Lib.hid hg
      obtain ⟨g', rfl⟩ : ∃ g', gk = g' + 1 := ⟨gk - 1, by omega⟩
      have HB := Lib.hid (show (if lessAt S x ((lo + hi) / 2) = true then Lib.bsGo (lessAt S x) g' ((lo + hi) / 2 + 1) hi else Lib.bsGo (lessAt S x) g' lo ((lo + hi) / 2)) = I by
        have := hb.out
        rw [Lib.bsGo, if_pos hlt] at this
        exact this)
      clear hb hg
      have HL := Lib.hid (show lessAt S x ((lo + hi) / 2) = Op.bytesLess (S ((lo + hi) / 2)).toList x.toList from rfl)
      generalize S ((lo + hi) / 2) = y at *
      cases hy : lessAt S x ((lo + hi) / 2)
      · have CL := Lib.hid (fun W => show Calls Tryz.prog 45 #[.string y, .string x] W fun e w' => e = .returned (.bool false) ∧ W = w' from by
          have := pcmpLess W y x
          rw [← HL.out, hy] at this
          exact this)
        have H2 := Lib.hid (show Lib.bsGo (lessAt S x) ((lo + hi) / 2 - lo) lo ((lo + hi) / 2) = I by
          have := HB.out
          rw [hy, if_neg (by simp)] at this
          rw [← this]
          exact Lib.bsGo_fuel _ _ _ _ _ (Nat.le_refl _) (by have := HG.out; omega))
        clear hy HL HB
        go_wp2_with fail
        refine (CL.out _).mono ?_
        rintro e w1 ⟨rfl, rfl⟩
        go_wp2_with fail
        go_roundg ((lo + hi) / 2 - lo)
        case measure => have := HG.out; omega
        case rel => exact ⟨lo, (lo + hi) / 2, _, rfl, by rw [show ((lo : Int) + (hi : Int)) / 2 = (((lo + hi) / 2 : Nat) : Int) by omega], by omega, by omega, Nat.le_refl _, rfl, H2⟩
      · have CL := Lib.hid (fun W => show Calls Tryz.prog 45 #[.string y, .string x] W fun e w' => e = .returned (.bool true) ∧ W = w' from by
          have := pcmpLess W y x
          rw [← HL.out, hy] at this
          exact this)
        have H2 := Lib.hid (show Lib.bsGo (lessAt S x) (hi - ((lo + hi) / 2 + 1)) ((lo + hi) / 2 + 1) hi = I by
          have := HB.out
          rw [hy, if_pos rfl] at this
          rw [← this]
          exact Lib.bsGo_fuel _ _ _ _ _ (Nat.le_refl _) (by have := HG.out; omega))
        clear hy HL HB
        go_wp2_with fail
        refine (CL.out _).mono ?_
        rintro e w1 ⟨rfl, rfl⟩
        go_wp2_with fail
        go_roundg (hi - ((lo + hi) / 2 + 1))
        case measure => have := HG.out; omega
        case rel => exact ⟨(lo + hi) / 2 + 1, hi, _, by rw [show ((lo : Int) + (hi : Int)) / 2 + 1 = (((lo + hi) / 2 + 1 : Nat) : Int) by omega], rfl, by omega, hin, Nat.le_refl _, rfl, H2⟩
    · obtain rfl : hi = lo := by omega
      have hIe : I = hi := by
        rw [← hb.out]
        cases gk <;> simp [Lib.bsGo]
      subst hIe
      clear hb hg hlh
      by_cases hn : I < n
      · have cl : (w.drewN q).cell? ⟨b, off + I, none⟩ = some (.string (S I)) := HC.out _ hn
        have NA := Lib.hid (fun W z => pslNaN W z)
        by_cases hy : S I = x
        · have HE : hasBS S n x = true := by rw [HH.out]; exact decide_eq_true ⟨hn, hy⟩
          rw [hy] at cl
          replace HE := Lib.hid HE
          clear HH HC hy
          go_wp2_with fail
          go_ret2
          exact ⟨⟨.int .i64 (I : Nat), by rw [HE.out]; rfl⟩, _, rfl⟩
        · have HE : hasBS S n x = false := by rw [HH.out]; exact decide_eq_false (fun h => hy h.2)
          have hne : ((S I).toList == x.toList) = false := by rw [str_eq]; exact decide_eq_false hy
          replace HE := Lib.hid HE
          generalize S I = y at *
          clear HH HC hy
          go_wp2_with fail
          refine (NA.out _ _).mono ?_
          rintro e w1 ⟨rfl, rfl⟩
          go_wp2_with fail
          go_ret2
          exact ⟨⟨.int .i64 (I : Nat), by rw [HE.out]; rfl⟩, _, rfl⟩
      · have HE : hasBS S n x = false := by rw [HH.out]; exact decide_eq_false (fun h => hn h.1)
        replace HE := Lib.hid HE
        clear HH HC
        go_wp2_with fail
        go_ret2
        exact ⟨⟨.int .i64 (I : Nat), by rw [HE.out]; rfl⟩, _, rfl⟩
set_option maxRecDepth 100000 in
theorem psearch0 (ao : Option Addr) (c : Nat) (x : ByteArray) :
    Calls Tryz.prog 32 #[.slice ao 0 c, .string x] w fun e w' =>
      (∃ r : Value, e = .returned (.tuple #[r, .bool false])) ∧ ∃ q, w' = w.drewN q := by
  go_enter Tryz.func32, Tryz.ntmps32
  go_wp2_with fail
  go_loopg [7, 8] 0 (fun g s7 s8 wr => s7 = .int .i64 0 ∧ s8 = .int .i64 0 ∧ ∃ q, wr = w.drewN q)
  case atStart => exact ⟨rfl, rfl, 0, rfl⟩
  case round =>
    obtain ⟨rfl, rfl, q, rfl⟩ := hrel
    go_wp2_with fail
    go_ret2
    exact ⟨⟨_, rfl⟩, _, rfl⟩
end
end Go.Proofs.YtlkdicabmikhkaaGreatDoor
