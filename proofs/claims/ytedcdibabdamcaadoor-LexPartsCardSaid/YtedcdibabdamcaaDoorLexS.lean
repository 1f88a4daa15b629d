/- The document's token, as a walk. -/
import Derived.Test.YtedcdibabdamcaaDoorLexR
import Derived.Test.YtedcdibabdamcaaDoorLexP
namespace Go.Proofs.YtedcdibabdamcaaDoor
open Go.RowKit
set_option linter.unusedVariables false
set_option linter.unusedSimpArgs false

theorem tok_digit {s : ByteArray} {i : Nat} (h : digitB (pk s i) = true) : tokAt s i = numTok s i := by
  have h1 : startsB (pk s i) = false := by
    simp [digitB] at h; simp [startsB, letterB]; omega
  rw [tokAt, h1, h]; rfl
theorem tok_text {s : ByteArray} {i : Nat} (h : pk s i = 34) : tokAt s i = match partsTo s (i + 1) [] [] with | some (ps, k') => some (⟨2, ⟨#[]⟩, 0, ps, i⟩, k') | none => none := by
  rw [tokAt, show startsB (pk s i) = false by rw [h]; decide, show digitB (pk s i) = false by rw [h]; decide, if_neg (by simp), if_neg (by simp), if_pos h]
  rcases partsTo s (i + 1) [] [] with _ | ⟨ps, k'⟩ <;> rfl
theorem tok_name {s : ByteArray} {i : Nat} (h : startsB (pk s i) = true) : tokAt s i = if nameTo s i ≤ i + 24 then some (⟨3, s.extract i (nameTo s i), 0, [], i⟩, nameTo s i) else none := by
  have e : nameTo s i = runTo inNameB s i := by simp [nameTo, h]
  rw [tokAt, h, if_pos rfl, nameOk, h, ← e]; simp
theorem tok_sign {s : ByteArray} {i : Nat} (hi : i < s.size) (a : startsB (pk s i) = false) (b : digitB (pk s i) = false) (c : pk s i ≠ 34) :
    (tokAt s i = none ∧ rsign s i = ⟨#[]⟩) ∨ (tokAt s i = some (⟨4, rsign s i, 0, [], i⟩, i + (rsign s i).size) ∧ rsign s i ≠ ⟨#[]⟩) := by
  have hne : ∀ k, i < k → k ≤ s.size → (s.extract i k).size = k - i := fun k h1 h2 => by rw [size_extract' h2]
  have hz : ∀ q : ByteArray, 0 < q.size → q ≠ ⟨#[]⟩ := fun q h e => by rw [e] at h; exact absurd h (by decide)
  have e : tokAt s i = if signOk s i then some (⟨4, s.extract i (signTo s i), 0, [], i⟩, signTo s i) else none := by rw [tokAt, a, b, if_neg (by simp), if_neg (by simp), if_neg c]
  by_cases h2 : twoOk s i = true
  · right
    have hle : i + 2 ≤ s.size := by
      by_cases h : i + 2 ≤ s.size
      · exact h
      · rw [twoOk_short h] at h2; simp at h2
    have e1 : rsign s i = s.extract i (i + 2) := by rw [rsign, if_pos h2]
    have e2 : signTo s i = i + 2 := by rw [signTo, if_pos h2]
    have e3 := hne (i + 2) (by omega) hle
    refine ⟨?_, hz _ (by rw [e1, e3]; omega)⟩
    rw [e, show signOk s i = true by simp [signOk, h2], if_pos rfl, e2, e1, e3, show i + 2 - i = 2 by omega]
  · by_cases h1 : oneB (pk s i) = true
    · right
      have e1 : rsign s i = s.extract i (i + 1) := by rw [rsign, if_neg h2, if_pos h1]
      have e2 : signTo s i = i + 1 := by rw [signTo, if_neg h2, rdTo_in hi]
      have e3 := hne (i + 1) (by omega) hi
      refine ⟨?_, hz _ (by rw [e1, e3]; omega)⟩
      rw [e, show signOk s i = true by simp [signOk, h1], if_pos rfl, e2, e1, e3, show i + 1 - i = 1 by omega]
    · left
      refine ⟨?_, by rw [rsign, if_neg h2, if_neg h1]⟩
      rw [e, show signOk s i = false by simp [signOk, h1, h2]]; rfl

def resBlk : Obj := .cells #[.int .i64 0, .string ⟨#[]⟩, .int .i64 0, .slice none 0 0, .int .i64 0] 36
section
variable (s : ByteArray) (w : World)
set_option maxHeartbeats 20000000 in
set_option maxRecDepth 20000 in
theorem rtoken_any (i : Nat) (x : Int) (hx : x = i) (hs : s.size ≤ 6000) (hi : i < s.size) :
    Calls Tryd.prog 21 #[.string s, .int .i64 x] w (RTokPost i (tokAt s i) w) := by
  subst hx
  have HL := Lib.hid (len_ok hs)
  have HS6 := Lib.hid hs
  have HI := Lib.hid hi
  have hp := pk_in hi
  have q1 := pk_lo s i
  have q2 := pk_hi s i
  rw [hp] at q1 q2
  have T0 := Lib.hid (TokBlk.new w (.int .i64 0) (.string ⟨#[]⟩) (.int .i64 0) (.slice none 0 0) (.int .i64 0))
  have B0 := Lib.hid (show Below w.heap.size w (w.alloc (.cells #[.int .i64 0, .string ⟨#[]⟩, .int .i64 0, .slice none 0 0, .int .i64 0] 36)) from (Below.refl _ _).alloc (Nat.le_refl _) _)
  have Z0 := Lib.hid (show (w.alloc (.cells #[.int .i64 0, .string ⟨#[]⟩, .int .i64 0, .slice none 0 0, .int .i64 0] 36)).heap.size = w.heap.size + 1 by simp)
  by_cases hd : digitB (s[i].toNat : Int) = true
  · have HD := Lib.hid hd
    have HDP := Lib.hid (show digitB (pk s i) = true by rw [hp]; exact hd)
    have TA := Lib.hid (tok_digit HDP.out)
    clear hd hp
    cases hn : numTok s i with
    | none =>
      have NP := Lib.hid (show ∀ W e W', RTokPost i (numTok s i) W e W' → ∃ (x y : Int) (tx : ByteArray), e = .returned (.tuple #[.agg #[.int .i64 x, .string tx, .int .i64 0, .slice none 0 0, .int .i64 y], .int .i64 0]) ∧ Below W.heap.size W W' from fun W e W' h => by rw [hn] at h; exact h)
      have TN := Lib.hid (TA.out.trans hn)
      clear hn
      go_enter Tryd.func21, Tryd.ntmps21
      go_wp2_with fail
      refine (rdigit_any _ (s[i].toNat : Int) q1 q2).mono ?_
      rw [HD.out]
      rintro e w1 ⟨rfl, rfl⟩
      go_wp2_with fail
      refine (rnumber_any s _ i _ (by rfl) HS6.out HI.out HDP.out).mono ?_
      intro e w1 hpost
      obtain ⟨x, y, tx, rfl, hb1⟩ := NP.out _ _ _ hpost
      have T1 := Lib.hid (T0.out.below hb1)
      have B1 := Lib.hid (B0.out.trans (hb1.mono (by rw [Z0.out]; exact Nat.le_succ _)))
      clear hpost hb1
      obtain ⟨t0, t1, t2, t3, t4⟩ := T1.out.cells
      have tf := fun o => T1.out.free o
      go_wp2_with fail
      (show bodyPost _ _ _ _ _ (setTok w1 w.heap.size (.int .i64 x) (.string tx) (.int .i64 0) (.slice none 0 0) (.int .i64 y)))
      obtain ⟨z, zb, zp⟩ := text_ret T1.out B1.out (.int .i64 x) (.string tx) (.int .i64 0) (.slice none 0 0) (.int .i64 y)
      generalize setTok w1 w.heap.size (.int .i64 x) (.string tx) (.int .i64 0) (.slice none 0 0) (.int .i64 y) = W at *
      obtain ⟨r0, r1, r2, r3, r4⟩ := z.cells
      refine bodyPost_ret (v := .tuple #[.agg #[(.int .i64 x), (.string tx), (.int .i64 0), (.slice none 0 0), (.int .i64 y)], (.int .i64 0)]) (by simp [results, Tryd.results21, go_sem, r0, r1, r2, r3, r4]) rfl ?_
      rw [TN.out]
      exact ⟨_, _, _, rfl, zb⟩
    | some tk =>
      obtain ⟨t, k'⟩ := tk
      have NP := Lib.hid (show ∀ W e W', RTokPost i (numTok s i) W e W' → ∃ pv, e = .returned (.tuple #[.agg #[.int .i64 t.kind, .string t.text, .int .i64 t.num, pv, .int .i64 t.at_], .int .i64 ((k' : Int) - i)]) ∧ Below W.heap.size W W' ∧ PartsOwn W' W.heap.size pv t.parts from fun W e W' h => by rw [hn] at h; exact h)
      have TN := Lib.hid (TA.out.trans hn)
      clear hn
      go_enter Tryd.func21, Tryd.ntmps21
      go_wp2_with fail
      refine (rdigit_any _ (s[i].toNat : Int) q1 q2).mono ?_
      rw [HD.out]
      rintro e w1 ⟨rfl, rfl⟩
      go_wp2_with fail
      refine (rnumber_any s _ i _ (by rfl) HS6.out HI.out HDP.out).mono ?_
      intro e w1 hpost
      obtain ⟨pv, rfl, hb1, hp1⟩ := NP.out _ _ _ hpost
      obtain ⟨pao, pn, pcap, rfl⟩ := own_slice hp1
      rw [Z0.out] at hp1
      have P1 := Lib.hid hp1
      have T1 := Lib.hid (T0.out.below hb1)
      have B1 := Lib.hid (B0.out.trans (hb1.mono (by rw [Z0.out]; exact Nat.le_succ _)))
      clear hpost hb1 hp1
      obtain ⟨t0, t1, t2, t3, t4⟩ := T1.out.cells
      have tf := fun o => T1.out.free o
      go_wp2_with fail
      (show bodyPost _ _ _ _ _ (setTok w1 w.heap.size (.int .i64 t.kind) (.string t.text) (.int .i64 t.num) (.slice pao pn pcap) (.int .i64 t.at_)))
      obtain ⟨z, zb, zp⟩ := text_ret T1.out B1.out (.int .i64 t.kind) (.string t.text) (.int .i64 t.num) (.slice pao pn pcap) (.int .i64 t.at_)
      generalize setTok w1 w.heap.size (.int .i64 t.kind) (.string t.text) (.int .i64 t.num) (.slice pao pn pcap) (.int .i64 t.at_) = W at *
      obtain ⟨r0, r1, r2, r3, r4⟩ := z.cells
      refine bodyPost_ret (v := .tuple #[.agg #[(.int .i64 t.kind), (.string t.text), (.int .i64 t.num), (.slice pao pn pcap), (.int .i64 t.at_)], (.int .i64 ((k' : Int) - i))]) (by simp [results, Tryd.results21, go_sem, r0, r1, r2, r3, r4]) rfl ?_
      rw [TN.out]
      exact ⟨_, rfl, zb, zp _ _ P1.out⟩
  have hd : digitB (s[i].toNat : Int) = false := by simpa using hd
  have HD := Lib.hid hd
  have HDP := Lib.hid (show digitB (pk s i) = false by rw [hp]; exact hd)
  clear hd
  by_cases h34 : (s[i].toNat : Int) = 34
  · have TA := Lib.hid (tok_text (hp.trans h34))
    have g34 : ((s[i].toNat : Int) == 34) = true := by simpa using h34
    clear h34 hp
    cases hn : partsTo s (i + 1) [] [] with
    | none =>
      have NP := Lib.hid (show ∀ W e W', RTextPost i (partsTo s (i + 1) [] []) W e W' → e = .returned (.tuple #[.agg #[.int .i64 0, .string ⟨#[]⟩, .int .i64 0, .slice none 0 0, .int .i64 0], .int .i64 0]) ∧ Below W.heap.size W W' from fun W e W' h => by rw [hn] at h; exact h)
      have TN := Lib.hid (show tokAt s i = none by rw [TA.out, hn])
      clear hn
      go_enter Tryd.func21, Tryd.ntmps21
      go_wp2_with fail
      refine (rdigit_any _ (s[i].toNat : Int) q1 q2).mono ?_
      rw [HD.out]
      rintro e w1 ⟨rfl, rfl⟩
      go_wp2_with fail
      refine (rtext_any s _ i _ (by rfl) HS6.out HI.out).mono ?_
      intro e w1 hpost
      obtain ⟨rfl, hb1⟩ := NP.out _ _ _ hpost
      have T1 := Lib.hid (T0.out.below hb1)
      have B1 := Lib.hid (B0.out.trans (hb1.mono (by rw [Z0.out]; exact Nat.le_succ _)))
      clear hpost hb1
      obtain ⟨t0, t1, t2, t3, t4⟩ := T1.out.cells
      have tf := fun o => T1.out.free o
      go_wp2_with fail
      (show bodyPost _ _ _ _ _ (setTok w1 w.heap.size (.int .i64 0) (.string ⟨#[]⟩) (.int .i64 0) (.slice none 0 0) (.int .i64 0)))
      obtain ⟨z, zb, zp⟩ := text_ret T1.out B1.out (.int .i64 0) (.string ⟨#[]⟩) (.int .i64 0) (.slice none 0 0) (.int .i64 0)
      generalize setTok w1 w.heap.size (.int .i64 0) (.string ⟨#[]⟩) (.int .i64 0) (.slice none 0 0) (.int .i64 0) = W at *
      obtain ⟨r0, r1, r2, r3, r4⟩ := z.cells
      refine bodyPost_ret (v := .tuple #[.agg #[(.int .i64 0), (.string ⟨#[]⟩), (.int .i64 0), (.slice none 0 0), (.int .i64 0)], (.int .i64 0)]) (by simp [results, Tryd.results21, go_sem, r0, r1, r2, r3, r4]) rfl ?_
      rw [TN.out]
      exact ⟨_, _, _, rfl, zb⟩
    | some tk =>
      obtain ⟨ps, k'⟩ := tk
      have NP := Lib.hid (show ∀ W e W', RTextPost i (partsTo s (i + 1) [] []) W e W' → ∃ pv, e = .returned (.tuple #[.agg #[.int .i64 2, .string ⟨#[]⟩, .int .i64 0, pv, .int .i64 i], .int .i64 ((k' : Int) - i)]) ∧ Below W.heap.size W W' ∧ PartsOwn W' W.heap.size pv ps from fun W e W' h => by rw [hn] at h; exact h)
      have TN := Lib.hid (show tokAt s i = some (⟨2, ⟨#[]⟩, 0, ps, i⟩, k') by rw [TA.out, hn])
      clear hn
      go_enter Tryd.func21, Tryd.ntmps21
      go_wp2_with fail
      refine (rdigit_any _ (s[i].toNat : Int) q1 q2).mono ?_
      rw [HD.out]
      rintro e w1 ⟨rfl, rfl⟩
      go_wp2_with fail
      refine (rtext_any s _ i _ (by rfl) HS6.out HI.out).mono ?_
      intro e w1 hpost
      obtain ⟨pv, rfl, hb1, hp1⟩ := NP.out _ _ _ hpost
      obtain ⟨pao, pn, pcap, rfl⟩ := own_slice hp1
      rw [Z0.out] at hp1
      have P1 := Lib.hid hp1
      have T1 := Lib.hid (T0.out.below hb1)
      have B1 := Lib.hid (B0.out.trans (hb1.mono (by rw [Z0.out]; exact Nat.le_succ _)))
      clear hpost hb1 hp1
      obtain ⟨t0, t1, t2, t3, t4⟩ := T1.out.cells
      have tf := fun o => T1.out.free o
      go_wp2_with fail
      (show bodyPost _ _ _ _ _ (setTok w1 w.heap.size (.int .i64 2) (.string ⟨#[]⟩) (.int .i64 0) (.slice pao pn pcap) (.int .i64 i)))
      obtain ⟨z, zb, zp⟩ := text_ret T1.out B1.out (.int .i64 2) (.string ⟨#[]⟩) (.int .i64 0) (.slice pao pn pcap) (.int .i64 i)
      generalize setTok w1 w.heap.size (.int .i64 2) (.string ⟨#[]⟩) (.int .i64 0) (.slice pao pn pcap) (.int .i64 i) = W at *
      obtain ⟨r0, r1, r2, r3, r4⟩ := z.cells
      refine bodyPost_ret (v := .tuple #[.agg #[(.int .i64 2), (.string ⟨#[]⟩), (.int .i64 0), (.slice pao pn pcap), (.int .i64 i)], (.int .i64 ((k' : Int) - i))]) (by simp [results, Tryd.results21, go_sem, r0, r1, r2, r3, r4]) rfl ?_
      rw [TN.out]
      exact ⟨_, rfl, zb, zp _ _ P1.out⟩
  have g34 : ((s[i].toNat : Int) == 34) = false := by simpa using h34
  by_cases hb : startsB (s[i].toNat : Int) = true
  · have HB := Lib.hid hb
    have TA := Lib.hid (tok_name (s := s) (i := i) (by rw [hp]; exact hb))
    have n1 := nameTo_le (Nat.le_of_lt hi)
    have n2 := le_nameTo s i
    generalize hk : nameTo s i = k at *
    have HK := Lib.hid hk
    clear hb hp h34 hk
    by_cases h24 : k ≤ i + 24
    · have hg : ¬ (24 < (k : Int) - i) := by omega
      have TN := Lib.hid (TA.out.trans (if_pos h24))
      clear h24
      go_enter Tryd.func21, Tryd.ntmps21
      go_wp2_with fail
      refine (rdigit_any _ (s[i].toNat : Int) q1 q2).mono ?_
      rw [HD.out]
      rintro e w1 ⟨rfl, rfl⟩
      go_wp2_with fail
      refine (rbegins_any _ (s[i].toNat : Int) q1 q2).mono ?_
      rw [HB.out]
      rintro e w1 ⟨rfl, rfl⟩
      go_wp2_with fail
      refine (nameEnd_any s _ i _ (by rfl) HL.out (by unfold maxLen; have := HS6.out; omega)).mono ?_
      rw [HK.out]
      rintro e w1 ⟨rfl, n, rfl⟩
      have T1 := Lib.hid (show TokBlk ((w.alloc (.cells #[.int .i64 0, .string ⟨#[]⟩, .int .i64 0, .slice none 0 0, .int .i64 0] 36)).drewN n) w.heap.size (.int .i64 0) (.string ⟨#[]⟩) (.int .i64 0) (.slice none 0 0) (.int .i64 0) from T0.out)
      have B1 := Lib.hid (below_drewN B0.out n)
      generalize (w.alloc (.cells #[.int .i64 0, .string ⟨#[]⟩, .int .i64 0, .slice none 0 0, .int .i64 0] 36)).drewN n = w1 at *
      obtain ⟨t0, t1, t2, t3, t4⟩ := T1.out.cells
      have tf := fun o => T1.out.free o
      go_wp2_with fail
      (show bodyPost _ _ _ _ _ (setTok w1 w.heap.size (.int .i64 3) (.string (s.extract i k)) (.int .i64 0) (.slice none 0 0) (.int .i64 i)))
      obtain ⟨z, zb, zp⟩ := text_ret T1.out B1.out (.int .i64 3) (.string (s.extract i k)) (.int .i64 0) (.slice none 0 0) (.int .i64 i)
      generalize setTok w1 w.heap.size (.int .i64 3) (.string (s.extract i k)) (.int .i64 0) (.slice none 0 0) (.int .i64 i) = W at *
      obtain ⟨r0, r1, r2, r3, r4⟩ := z.cells
      refine bodyPost_ret (v := .tuple #[.agg #[(.int .i64 3), (.string (s.extract i k)), (.int .i64 0), (.slice none 0 0), (.int .i64 i)], (.int .i64 ((k : Int) - i))]) (by simp [results, Tryd.results21, go_sem, r0, r1, r2, r3, r4]) rfl ?_
      rw [TN.out]
      exact ⟨_, rfl, zb, World.ownsRow_nil _ _ _ _⟩
    · have hg : 24 < (k : Int) - i := by omega
      have TN := Lib.hid (TA.out.trans (if_neg h24))
      clear h24
      go_enter Tryd.func21, Tryd.ntmps21
      go_wp2_with fail
      refine (rdigit_any _ (s[i].toNat : Int) q1 q2).mono ?_
      rw [HD.out]
      rintro e w1 ⟨rfl, rfl⟩
      go_wp2_with fail
      refine (rbegins_any _ (s[i].toNat : Int) q1 q2).mono ?_
      rw [HB.out]
      rintro e w1 ⟨rfl, rfl⟩
      go_wp2_with fail
      refine (nameEnd_any s _ i _ (by rfl) HL.out (by unfold maxLen; have := HS6.out; omega)).mono ?_
      rw [HK.out]
      rintro e w1 ⟨rfl, n, rfl⟩
      have T1 := Lib.hid (show TokBlk ((w.alloc (.cells #[.int .i64 0, .string ⟨#[]⟩, .int .i64 0, .slice none 0 0, .int .i64 0] 36)).drewN n) w.heap.size (.int .i64 0) (.string ⟨#[]⟩) (.int .i64 0) (.slice none 0 0) (.int .i64 0) from T0.out)
      have B1 := Lib.hid (below_drewN B0.out n)
      generalize (w.alloc (.cells #[.int .i64 0, .string ⟨#[]⟩, .int .i64 0, .slice none 0 0, .int .i64 0] 36)).drewN n = w1 at *
      obtain ⟨t0, t1, t2, t3, t4⟩ := T1.out.cells
      have tf := fun o => T1.out.free o
      go_wp2_with fail
      (show bodyPost _ _ _ _ _ (setTok w1 w.heap.size (.int .i64 0) (.string ⟨#[]⟩) (.int .i64 0) (.slice none 0 0) (.int .i64 0)))
      obtain ⟨z, zb, zp⟩ := text_ret T1.out B1.out (.int .i64 0) (.string ⟨#[]⟩) (.int .i64 0) (.slice none 0 0) (.int .i64 0)
      generalize setTok w1 w.heap.size (.int .i64 0) (.string ⟨#[]⟩) (.int .i64 0) (.slice none 0 0) (.int .i64 0) = W at *
      obtain ⟨r0, r1, r2, r3, r4⟩ := z.cells
      refine bodyPost_ret (v := .tuple #[.agg #[(.int .i64 0), (.string ⟨#[]⟩), (.int .i64 0), (.slice none 0 0), (.int .i64 0)], (.int .i64 0)]) (by simp [results, Tryd.results21, go_sem, r0, r1, r2, r3, r4]) rfl ?_
      rw [TN.out]
      exact ⟨_, _, _, rfl, zb⟩
  have hb : startsB (s[i].toNat : Int) = false := by simpa using hb
  have HB := Lib.hid hb
  have TA := Lib.hid (tok_sign hi (by rw [hp]; exact hb) HDP.out (by rw [hp]; exact h34))
  clear hb hp h34
  go_enter Tryd.func21, Tryd.ntmps21
  go_wp2_with fail
  refine (rdigit_any _ (s[i].toNat : Int) q1 q2).mono ?_
  rw [HD.out]
  rintro e w1 ⟨rfl, rfl⟩
  go_wp2_with fail
  refine (rbegins_any _ (s[i].toNat : Int) q1 q2).mono ?_
  rw [HB.out]
  rintro e w1 ⟨rfl, rfl⟩
  go_wp2_with fail
  refine (rsign_any s _ i _ (by rfl) HS6.out HI.out).mono ?_
  generalize rsign s i = tx at *
  rintro e w1 ⟨rfl, n, rfl⟩
  have T1 := Lib.hid (show TokBlk ((w.alloc (.cells #[.int .i64 0, .string ⟨#[]⟩, .int .i64 0, .slice none 0 0, .int .i64 0] 36)).drewN n) w.heap.size (.int .i64 0) (.string ⟨#[]⟩) (.int .i64 0) (.slice none 0 0) (.int .i64 0) from T0.out)
  have B1 := Lib.hid (below_drewN B0.out n)
  generalize (w.alloc (.cells #[.int .i64 0, .string ⟨#[]⟩, .int .i64 0, .slice none 0 0, .int .i64 0] 36)).drewN n = w1 at *
  obtain ⟨t0, t1, t2, t3, t4⟩ := T1.out.cells
  have tf := fun o => T1.out.free o
  go_wp2_with fail
  (show bodyPost _ _ _ _ _ (setTok w1 w.heap.size (.int .i64 4) (.string tx) (.int .i64 0) (.slice none 0 0) (.int .i64 i)))
  obtain ⟨z, zb, zp⟩ := text_ret T1.out B1.out (.int .i64 4) (.string tx) (.int .i64 0) (.slice none 0 0) (.int .i64 i)
  generalize setTok w1 w.heap.size (.int .i64 4) (.string tx) (.int .i64 0) (.slice none 0 0) (.int .i64 i) = W at *
  obtain ⟨r0, r1, r2, r3, r4⟩ := z.cells
  refine bodyPost_ret (v := .tuple #[.agg #[(.int .i64 4), (.string tx), (.int .i64 0), (.slice none 0 0), (.int .i64 i)], (.int .i64 (tx.size : Int))]) (by simp [results, Tryd.results21, go_sem, r0, r1, r2, r3, r4]) rfl ?_
  rcases TA.out with ⟨h1, h2⟩ | ⟨h1, h2⟩
  · rw [h1, h2]
    exact ⟨_, _, _, rfl, zb⟩
  · rw [h1]
    have e : ((i + tx.size : Nat) : Int) - i = tx.size := by omega
    exact ⟨.slice none 0 0, by rw [e], zb, World.ownsRow_nil _ _ _ _⟩
end
end Go.Proofs.YtedcdibabdamcaaDoor
