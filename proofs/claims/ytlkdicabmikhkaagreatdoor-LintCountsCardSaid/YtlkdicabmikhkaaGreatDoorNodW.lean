/- Package parse: num, text, node, of any node. -/
import Derived.Test.YtlkdicabmikhkaaGreatDoorNodT
namespace Go.Proofs.YtlkdicabmikhkaaGreatDoor
open Go.RowKit
set_option linter.unusedVariables false
set_option linter.unusedSimpArgs false

def numP (n : NodeL) : Bool := if n.kind = 1 then decide (n.num ≥ 0) else if n.kind = 3 then (n.num == 0 || n.num == 1) else n.num == 0
def textP (n : NodeL) : Bool := if n.kind = 5 then nameP n.text && !truthP n.text else if n.kind = 4 then refP n.text && !truthP (cutA n.text) else decide (n.text = ⟨#[]⟩)
def nodeP (n : NodeL) : Bool := kidsP n.kind n.kids.length && numP n && textP n && (n.kind == 2 || n.parts.length == 0) && partsP n.parts
section
variable (w : World)
set_option maxHeartbeats 1000000 in
set_option maxRecDepth 20000 in
theorem pnum (n : NodeL) (pao kao : Option Addr) (pn pcap kn kcap : Nat) :
    Calls Tryz.prog 67 #[.agg #[.int .i64 n.kind, .int .i64 n.num, .string n.text, .slice pao pn pcap, .slice kao kn kcap]] w (Made (.bool (numP n)) w) := by
  have E := Lib.hid (show numP n = if n.kind = 1 then decide (n.num ≥ 0) else if n.kind = 3 then (n.num == 0 || n.num == 1) else n.num == 0 from rfl)
  have B := Lib.hid (show Below w.heap.size w (w.alloc (.cells #[.int .i64 n.kind, .int .i64 n.num, .string n.text, .slice pao pn pcap, .slice kao kn kcap] 35)) from (Below.refl _ _).alloc (Nat.le_refl _) _)
  rw [E.out]
  clear E
  by_cases k1 : n.kind = 1
  · have g1 : (n.kind == 1) = true := by simpa using k1
    rw [if_pos k1]
    clear k1
    go_enter Tryz.func67, Tryz.ntmps67
    go_wp2_with fail
    go_ret
    exact ⟨rfl, B.out⟩
  have g1 : (n.kind == 1) = false := by simpa using k1
  rw [if_neg k1]
  clear k1
  by_cases k3 : n.kind = 3
  · have g3 : (n.kind == 3) = true := by simpa using k3
    rw [if_pos k3]
    clear k3
    cases h0 : (n.num == 0)
    · go_enter Tryz.func67, Tryz.ntmps67
      go_wp2_with fail
      go_ret
      exact ⟨by first | rfl | (rw [h0]; rfl), B.out⟩
    · go_enter Tryz.func67, Tryz.ntmps67
      go_wp2_with fail
      go_ret
      exact ⟨by first | rfl | (rw [h0]; rfl), B.out⟩
  · have g3 : (n.kind == 3) = false := by simpa using k3
    rw [if_neg k3]
    clear k3
    go_enter Tryz.func67, Tryz.ntmps67
    go_wp2_with fail
    go_ret
    exact ⟨rfl, B.out⟩
set_option maxHeartbeats 1000000 in
set_option maxRecDepth 20000 in
theorem ptext (n : NodeL) (pao kao : Option Addr) (pn pcap kn kcap : Nat) (hs : n.text.size ≤ maxLen) (hv : ErrVar w) :
    Calls Tryz.prog 68 #[.agg #[.int .i64 n.kind, .int .i64 n.num, .string n.text, .slice pao pn pcap, .slice kao kn kcap]] w (Made (.bool (textP n)) w) := by
  have HL := Lib.hid hs
  have V := Lib.hid hv
  have E := Lib.hid (show textP n = if n.kind = 5 then nameP n.text && !truthP n.text else if n.kind = 4 then refP n.text && !truthP (cutA n.text) else decide (n.text = ⟨#[]⟩) from rfl)
  have B := Lib.hid (show Below w.heap.size w (w.alloc (.cells #[.int .i64 n.kind, .int .i64 n.num, .string n.text, .slice pao pn pcap, .slice kao kn kcap] 35)) from (Below.refl _ _).alloc (Nat.le_refl _) _)
  have NB := Lib.hid (show (w.alloc (.cells #[.int .i64 n.kind, .int .i64 n.num, .string n.text, .slice pao pn pcap, .slice kao kn kcap] 35)).heap[w.heap.size]? = some (.cells #[.int .i64 n.kind, .int .i64 n.num, .string n.text, .slice pao pn pcap, .slice kao kn kcap] 35 (0, 0)) from heap_alloc_new w _)
  clear hs hv
  rw [E.out]
  clear E
  by_cases k5 : n.kind = 5
  · have g5 : (n.kind == 5) = true := by simpa using k5
    rw [if_pos k5]
    clear k5
    go_enter Tryz.func68, Tryz.ntmps68
    go_wp2_with fail
    refine (pnamep _ n.text HL.out (V.out.below B.out V.out.lt)).mono ?_
    rintro e w1 ⟨rfl, hb1⟩
    have B1 := Lib.hid (B.out.trans (hb1.mono B.out.size))
    have c2 : w1.cell? ⟨w.heap.size, 2, none⟩ = some (.string n.text) := (hb1.cell (p := ⟨w.heap.size, 2, none⟩) (by simp)).trans (cell_of_row _ _ 2 _ _ _ NB.out)
    clear hb1
    cases hn : nameP n.text
    · go_wp2_with fail
      go_ret
      exact ⟨by first | rfl | (rw [hn]; rfl), B1.out⟩
    · go_wp2_with fail
      refine (ptruth _ n.text).mono ?_
      rintro e w2 ⟨rfl, rfl⟩
      go_wp2_with fail
      go_ret
      exact ⟨by first | rfl | (rw [hn]; rfl), B1.out⟩
  have g5 : (n.kind == 5) = false := by simpa using k5
  rw [if_neg k5]
  clear k5
  by_cases k4 : n.kind = 4
  · have g4 : (n.kind == 4) = true := by simpa using k4
    rw [if_pos k4]
    clear k4
    have SC := Lib.hid (show (cutA n.text).size ≤ maxLen from Nat.le_trans (cut_size n.text).1 HL.out)
    go_enter Tryz.func68, Tryz.ntmps68
    go_wp2_with fail
    refine (pcut _ n.text HL.out).mono ?_
    rintro e w1 ⟨k, rfl, rfl⟩
    have B1 := Lib.hid (below_drewN B.out k)
    have c2 : ((w.alloc (.cells #[.int .i64 n.kind, .int .i64 n.num, .string n.text, .slice pao pn pcap, .slice kao kn kcap] 35)).drewN k).cell? ⟨w.heap.size, 2, none⟩ = some (.string n.text) := cell_of_row (w.alloc (.cells #[.int .i64 n.kind, .int .i64 n.num, .string n.text, .slice pao pn pcap, .slice kao kn kcap] 35)) _ 2 _ _ _ NB.out
    generalize (w.alloc (.cells #[.int .i64 n.kind, .int .i64 n.num, .string n.text, .slice pao pn pcap, .slice kao kn kcap] 35)).drewN k = w1 at *
    go_wp2_with fail
    refine (preference _ n.text HL.out (V.out.below B1.out V.out.lt)).mono ?_
    rintro e w2 ⟨rfl, hb2⟩
    have B2 := Lib.hid (B1.out.trans (hb2.mono B1.out.size))
    clear hb2
    cases hn : refP n.text
    · go_wp2_with fail
      go_ret
      exact ⟨by first | rfl | (rw [hn]; rfl), B2.out⟩
    · go_wp2_with fail
      refine (ptruth _ (cutA n.text)).mono ?_
      rintro e w2 ⟨rfl, rfl⟩
      go_wp2_with fail
      go_ret
      exact ⟨by first | rfl | (rw [hn]; rfl), B2.out⟩
  · have g4 : (n.kind == 4) = false := by simpa using k4
    rw [if_neg k4, ← empty_eq]
    clear k4
    go_enter Tryz.func68, Tryz.ntmps68
    go_wp2_with fail
    go_ret
    exact ⟨rfl, B.out⟩
set_option maxHeartbeats 2000000 in
set_option maxRecDepth 20000 in
theorem pnode (n : NodeL) (pao kao : Option Addr) (pcap kcap : Nat) (hp : PartsRd w (.slice pao n.parts.length pcap) n.parts) (hpl : n.parts.length ≤ 100000) (hpt : ∀ p ∈ n.parts, p.2.size ≤ 281474976710656) (hs : n.text.size ≤ maxLen) (hv : ErrVar w) :
    Calls Tryz.prog 50 #[.agg #[.int .i64 n.kind, .int .i64 n.num, .string n.text, .slice pao n.parts.length pcap, .slice kao n.kids.length kcap]] w (Made (.bool (nodeP n)) w) := by
  have HL := Lib.hid hs
  have V := Lib.hid hv
  have HP := Lib.hid hp
  have HPT := Lib.hid hpt
  have E := Lib.hid (show nodeP n = (kidsP n.kind n.kids.length && numP n && textP n && (n.kind == 2 || n.parts.length == 0) && partsP n.parts) from rfl)
  have B := Lib.hid (show Below w.heap.size w (w.alloc (.cells #[.int .i64 n.kind, .int .i64 n.num, .string n.text, .slice pao n.parts.length pcap, .slice kao n.kids.length kcap] 35)) from (Below.refl _ _).alloc (Nat.le_refl _) _)
  have NB := Lib.hid (show (w.alloc (.cells #[.int .i64 n.kind, .int .i64 n.num, .string n.text, .slice pao n.parts.length pcap, .slice kao n.kids.length kcap] 35)).heap[w.heap.size]? = some (.cells #[.int .i64 n.kind, .int .i64 n.num, .string n.text, .slice pao n.parts.length pcap, .slice kao n.kids.length kcap] 35 (0, 0)) from heap_alloc_new w _)
  clear hs hv hp hpt
  rw [E.out]
  clear E
  cases hk : kidsP n.kind n.kids.length
  · go_enter Tryz.func50, Tryz.ntmps50
    go_wp2_with fail
    refine (pkids _ n.kind n.kids.length).mono ?_
    rw [hk]
    rintro e w1 ⟨rfl, rfl⟩
    go_wp2_with fail
    go_ret
    exact ⟨by first | rfl | (rw [hk]; rfl), B.out⟩
  cases hn : numP n
  · have HK := Lib.hid hk
    clear hk
    go_enter Tryz.func50, Tryz.ntmps50
    go_wp2_with fail
    refine (pkids _ n.kind n.kids.length).mono ?_
    rw [HK.out]
    rintro e w1 ⟨rfl, rfl⟩
    go_wp2_with fail
    refine (pnum _ n _ _ _ _ _ _).mono ?_
    rw [hn]
    rintro e w2 ⟨rfl, hb2⟩
    have B2 := Lib.hid (B.out.trans (hb2.mono B.out.size))
    clear hb2
    go_wp2_with fail
    go_ret
    exact ⟨by first | rfl | (rw [hn]; rfl), B2.out⟩
  cases ht : textP n
  · have HK := Lib.hid hk
    have HN := Lib.hid hn
    have HT := Lib.hid ht
    clear hk hn ht
    go_enter Tryz.func50, Tryz.ntmps50
    go_wp2_with fail
    refine (pkids _ n.kind n.kids.length).mono ?_
    rw [HK.out]
    rintro e w1 ⟨rfl, rfl⟩
    go_wp2_with fail
    refine (pnum _ n _ _ _ _ _ _).mono ?_
    rw [HN.out]
    rintro e w2 ⟨rfl, hb2⟩
    have B2 := Lib.hid (B.out.trans (hb2.mono B.out.size))
    have NB2 := Lib.hid ((hb2.block _ (by simp)).trans NB.out)
    clear hb2
    have n0 := cell_of_row _ _ 0 _ _ _ NB2.out
    have n1 := cell_of_row _ _ 1 _ _ _ NB2.out
    have n2 := cell_of_row _ _ 2 _ _ _ NB2.out
    have n3 := cell_of_row _ _ 3 _ _ _ NB2.out
    have n4 := cell_of_row _ _ 4 _ _ _ NB2.out
    simp at n0 n1 n2 n3 n4
    go_wp2_with fail
    refine (ptext _ n _ _ _ _ _ _ HL.out (V.out.below B2.out V.out.lt)).mono ?_
    rw [HT.out]
    rintro e w3 ⟨rfl, hb3⟩
    have B3 := Lib.hid (B2.out.trans (hb3.mono B2.out.size))
    clear hb3
    go_wp2_with fail
    go_ret
    exact ⟨rfl, B3.out⟩
  have HK := Lib.hid hk
  have HN := Lib.hid hn
  have HT := Lib.hid ht
  clear hk hn ht
  go_enter Tryz.func50, Tryz.ntmps50
  go_wp2_with fail
  refine (pkids _ n.kind n.kids.length).mono ?_
  rw [HK.out]
  rintro e w1 ⟨rfl, rfl⟩
  go_wp2_with fail
  refine (pnum _ n _ _ _ _ _ _).mono ?_
  rw [HN.out]
  rintro e w2 ⟨rfl, hb2⟩
  have B2 := Lib.hid (B.out.trans (hb2.mono B.out.size))
  have NB2 := Lib.hid ((hb2.block _ (by simp)).trans NB.out)
  clear hb2
  have n0 := cell_of_row _ _ 0 _ _ _ NB2.out
  have n1 := cell_of_row _ _ 1 _ _ _ NB2.out
  have n2 := cell_of_row _ _ 2 _ _ _ NB2.out
  have n3 := cell_of_row _ _ 3 _ _ _ NB2.out
  have n4 := cell_of_row _ _ 4 _ _ _ NB2.out
  simp at n0 n1 n2 n3 n4
  go_wp2_with fail
  refine (ptext _ n _ _ _ _ _ _ HL.out (V.out.below B2.out V.out.lt)).mono ?_
  rw [HT.out]
  rintro e w3 ⟨rfl, hb3⟩
  have B3 := Lib.hid (B2.out.trans (hb3.mono B2.out.size))
  have NB3 := Lib.hid ((hb3.block _ (Array.getElem?_eq_some_iff.1 NB2.out).1).trans NB2.out)
  clear hb3 n0 n1 n2 n3 n4
  have n0 := cell_of_row _ _ 0 _ _ _ NB3.out
  have n3 := cell_of_row _ _ 3 _ _ _ NB3.out
  simp at n0 n3
  have PB := Lib.hid (show PartsRd w3 (.slice pao n.parts.length pcap) n.parts from Rds.below HP.out B3.out)
  cases k2 : (n.kind == 2)
  · by_cases hz : n.parts.length = 0
    · have g0 : (n.parts.length == 0) = true := by simpa using hz
      have g1 : ((n.parts.length : Int) == 0) = true := by rw [hz]; rfl
      have K := Lib.hid (show (n.kind == 2 || n.parts.length == 0) = true by rw [k2, g0]; rfl)
      generalize hnl : n.parts.length = nl at *
      clear hz g0
      go_wp2_with fail
      refine (pparts _ _ n.parts PB.out (by omega) HPT.out (V.out.below B3.out V.out.lt)).mono ?_
      rintro e w4 ⟨rfl, hb4⟩
      have B4 := Lib.hid (B3.out.trans (hb4.mono B3.out.size))
      clear hb4
      go_wp2_with fail
      go_ret
      exact ⟨by rw [K.out]; simp, B4.out⟩
    · have g0 : (n.parts.length == 0) = false := by simpa using hz
      have g1 : ((n.parts.length : Int) == 0) = false := by simp; exact fun e => hz (by rw [e]; rfl)
      have K := Lib.hid (show (n.kind == 2 || n.parts.length == 0) = false by rw [k2, g0]; rfl)
      generalize hnl : n.parts.length = nl at *
      clear hz g0
      go_wp2_with fail
      go_ret
      exact ⟨by rw [K.out]; simp, B3.out⟩
  · have K := Lib.hid (show (n.kind == 2 || n.parts.length == 0) = true by rw [k2]; rfl)
    go_wp2_with fail
    refine (pparts _ _ n.parts PB.out hpl HPT.out (V.out.below B3.out V.out.lt)).mono ?_
    rintro e w4 ⟨rfl, hb4⟩
    have B4 := Lib.hid (B3.out.trans (hb4.mono B3.out.size))
    clear hb4
    go_wp2_with fail
    go_ret
    exact ⟨by rw [K.out]; simp, B4.out⟩
end
end Go.Proofs.YtlkdicabmikhkaaGreatDoor
