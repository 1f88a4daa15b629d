/- The law of what is refused, walked. -/
import Derived.Test.YtihlbnflgjidaabDoorFunRa
namespace Go.Proofs.YtihlbnflgjidaabDoor
open Go.RowKit
set_option linter.unusedVariables false
set_option linter.unusedSimpArgs false

def bp : VL × Value := (VL.mk 3 0 ⟨#[]⟩ [], .slice none 0 0)
theorem bools_map (k : Nat) : (List.replicate k bp).map (·.1) = bools k := by simp [bools, bp]
theorem bools_rd {w : World} {B k : Nat} {v : Value} (h : w.ownsRow B 27 4 v k (rowCells (List.replicate k bp))) (hk : k ≤ 100) : RowRd w 1 (bools k) v := by
  have h1 := row_of_own (D := 0) (ps := List.replicate k bp) (by rw [List.length_replicate]; exact h) (by rw [List.length_replicate]; unfold maxLen; omega) (fun p hp => by
    rw [List.eq_of_mem_replicate hp]; exact RowRd.nil _ _ _ _)
  rw [bools_map] at h1
  exact h1
theorem refR_cases {r k : Nat} {c : Int} (h : refR r k = c) : (c = 1 ∧ (k = 0 ∨ (2 < r ∧ r < 8 ∧ k ≠ 1) ∨ (8 ≤ r ∧ k ≠ 2))) ∨ (¬ (k = 0 ∨ (2 < r ∧ r < 8 ∧ k ≠ 1) ∨ (8 ≤ r ∧ k ≠ 2)) ∧ ((c = 0 ∧ r = 7) ∨ (c = 7 ∧ r ≠ 7))) := by
  unfold refR at h
  by_cases h1 : k = 0 ∨ (2 < r ∧ r < 8 ∧ k ≠ 1) ∨ (8 ≤ r ∧ k ≠ 2)
  · rw [if_pos h1] at h; exact .inl ⟨h.symm, h1⟩
  · rw [if_neg h1] at h
    refine .inr ⟨h1, ?_⟩
    by_cases h2 : r = 7
    · rw [if_pos h2] at h; exact .inl ⟨h.symm, h2⟩
    · rw [if_neg h2] at h; exact .inr ⟨h.symm, h2⟩
theorem refR_eq (r k : Nat) : refR r k = if k = 0 ∨ (2 < r ∧ r < 8 ∧ k ≠ 1) ∨ (8 ≤ r ∧ k ≠ 2) then 1 else if r = 7 then 0 else 7 := rfl
set_option maxHeartbeats 8000000 in
set_option maxRecDepth 100000 in
theorem law_refuses (w : World) (a n : Nat) (ha : a < 256) (hn : n < 256) :
    Calls Tryd.prog 5 #[.int .u8 a, .int .u8 n] w (Made (.bool true) w) := by
  have hr0 : 0 ≤ (a : Int) % 10 := by omega
  have hr1 : (a : Int) % 10 < 10 := by omega
  obtain ⟨nm, hnm⟩ : ∃ nm, refNames[a % 10]? = some nm := ⟨_, List.getElem?_eq_getElem (by show a % 10 < 10; omega)⟩
  have hsel : [Value.string ⟨#[109, 105, 110]⟩, Value.string ⟨#[109, 97, 120]⟩, Value.string ⟨#[99, 111, 110, 99, 97, 116]⟩, Value.string ⟨#[115, 117, 109]⟩, Value.string ⟨#[108, 101, 110]⟩, Value.string ⟨#[114, 97, 110, 103, 101]⟩, Value.string ⟨#[97, 98, 115]⟩, Value.string ⟨#[116, 101, 120, 116]⟩, Value.string ⟨#[106, 111, 105, 110]⟩, Value.string ⟨#[104, 97, 115]⟩][a % 10]? = some (.string nm) := by
    show (refNames.map Value.string)[a % 10]? = _
    rw [List.getElem?_map, hnm]; rfl
  have NM := Lib.hid hnm
  obtain ⟨i0, hi0, hz0, hz1, hz2⟩ := info_parts info_val
  have hsz := ref_size nm (List.mem_of_getElem? hnm)
  clear hnm
  go_enter Tryd.func5, Tryd.ntmps5
  go_wp2_with fail
  have hmod : ((n : Int) % 4) = ((n % 4 : Nat) : Int) := by omega
  have hm4 : n % 4 < 4 := Nat.mod_lt _ (by omega)
  have B0 := Lib.hid (show Kept w _ from below_al (Below.refl w.heap.size w) (.cells #[Value.string ⟨#[109, 105, 110]⟩, Value.string ⟨#[109, 97, 120]⟩, Value.string ⟨#[99, 111, 110, 99, 97, 116]⟩, Value.string ⟨#[115, 117, 109]⟩, Value.string ⟨#[108, 101, 110]⟩, Value.string ⟨#[114, 97, 110, 103, 101]⟩, Value.string ⟨#[97, 98, 115]⟩, Value.string ⟨#[116, 101, 120, 116]⟩, Value.string ⟨#[106, 111, 105, 110]⟩, Value.string ⟨#[104, 97, 115]⟩] 9))
  generalize w.alloc (.cells #[Value.string ⟨#[109, 105, 110]⟩, Value.string ⟨#[109, 97, 120]⟩, Value.string ⟨#[99, 111, 110, 99, 97, 116]⟩, Value.string ⟨#[115, 117, 109]⟩, Value.string ⟨#[108, 101, 110]⟩, Value.string ⟨#[114, 97, 110, 103, 101]⟩, Value.string ⟨#[97, 98, 115]⟩, Value.string ⟨#[116, 101, 120, 116]⟩, Value.string ⟨#[106, 111, 105, 110]⟩, Value.string ⟨#[104, 97, 115]⟩] 9) = wa at *
  clear hsel
  go_loopg [6, 7] (n % 4) (fun m rv iv wr => ∃ i : Nat, iv = .int .i64 i ∧ n % 4 - i ≤ m ∧ i ≤ n % 4 ∧ Below wa.heap.size wa wr ∧ wr.ownsRow wa.heap.size 27 4 rv i (rowCells (List.replicate i bp)))
  case atStart => exact ⟨0, rfl, Nat.le_refl _, Nat.zero_le _, Below.refl _ _, own_none _ _ _ _⟩
  case round =>
    obtain ⟨i, rfl, hm, hi, hb, ho⟩ := hrel
    obtain ⟨rao, rcap, rfl⟩ := own_len ho
    have HM := Lib.hid hm
    have BR := Lib.hid hb
    have O := Lib.hid ho
    clear hm hb ho
    generalize hk : n % 4 = k at *
    clear hk
    by_cases hil : i < k
    · have TS := Lib.hid (show rowCells (List.replicate (i + 1) bp) = rowCells (List.replicate i bp) ++ pairCells bp by rw [← rowCells_snoc, List.replicate_succ']
)
      have NW := Lib.hid (news_new wr #[.int .i64 3, .int .i64 0, .string ⟨#[]⟩, .slice none 0 0] 27)
      go_wp2_with (at_builtin; refine wpList_append_own _ rfl _ _ 25 rfl wa.heap.size 27 i0 _ 4 56 Tryd.underlying25 hi0 hz0 hz1 hz2 rfl (by decide) (.slice rao i rcap) i (rowCells (List.replicate i bp)) rfl (O.out.alloc _) ⟨wr.heap.size, 0, none⟩ 1 1 [.int .i64 3, .int .i64 0, .string ⟨#[]⟩, .slice none 0 0] rfl rfl ?a1 ?b1 ?c1 ?d1 ?e1 ?_)
      try case a1 => exact NW.out
      case b1 => simp [Value.oneCell']
      case c1 => unfold maxLen; omega
      case d1 => omega
      case e1 => have := BR.out.size; simp; omega
      intro v' w6 hown hgrow _
      have BZ := Lib.hid (below_grown BR.out hgrow (fun k hk => (World.ownsRow.lt O.out k hk).1))
      have OZ := Lib.hid (show w6.ownsRow wa.heap.size 27 4 v' (i + 1) (rowCells (List.replicate (i + 1) bp)) by rw [TS.out]; exact hown)
      clear hown hgrow
      go_wp2_with fail
      go_roundg (k - (i + 1))
      case rel => exact ⟨i + 1, rfl, Nat.le_refl _, hil, BZ.out, OZ.out⟩
      case measure => have := HM.out; omega
    · have e : i = k := by omega
      subst e
      clear hi hil HM
      have R0 := Lib.hid (bools_rd O.out (by omega))
      have CA := Lib.hid (fun W (hw : Below wr.heap.size wr W) => ref_call W (a % 10) nm NM.out i hm4 _ (R0.out.below hw))
      have CB := Lib.hid (fun W lao ln lcap => call_none W (nm ++ ⟨#[120]⟩) (ref_x nm (List.mem_of_getElem? NM.out)) lao ln lcap)
      have K := Lib.hid (below_tr B0.out BR.out)
      obtain ⟨c, hc⟩ : ∃ c, refR (a % 10) i = c := ⟨_, rfl⟩
      rw [hc] at CA
      have HC := Lib.hid (refR_cases hc)
      have M4 := Lib.hid hm4
      clear hc BR O B0
      have T7 := ref_text _ nm NM.out
      by_cases g7 : a % 10 = 7
      · have ht : (nm.toList == [116, 101, 120, 116]) = true := by rw [T7]; simpa using g7
        have G7 := Lib.hid g7
        clear T7 g7
        rcases (show i = 0 ∨ i = 1 ∨ i = 2 ∨ i = 3 by omega) with hj | hj | hj | hj
        · have J := Lib.hid hj
          clear hj
          have e0 : ((i : Int) == 0) = true := by rw [J.out]; rfl
          have n0 : ((i : Int) != 0) = false := by rw [J.out]; rfl
          have e1 : ((i : Int) == 1) = false := by rw [J.out]; rfl
          have n1 : ((i : Int) != 1) = true := by rw [J.out]; rfl
          have e2 : ((i : Int) == 2) = false := by rw [J.out]; rfl
          have n2 : ((i : Int) != 2) = true := by rw [J.out]; rfl
          go_wp2_with fail
          refine (CA.out _ (Below.refl _ _)).mono ?_
          rintro e w1 ⟨kk, nn, tt, rfl, hb⟩
          replace K := Lib.hid (kept_tr K.out hb)
          clear hb
          go_wp2_with fail
          refine (CB.out _ _ _ _).mono ?_
          rintro e w2 ⟨rfl, hb⟩
          replace K := Lib.hid (kept_al (kept_tr (kept_al K.out _) hb) (.cells #[.int .i64 0, .int .i64 0, .string ⟨#[]⟩, .slice none 0 0] 27))
          clear hb
          go_wp2_with fail
          all_goals (rcases (show c = 1 ∨ c = 0 ∨ c = 7 by have := HC.out; omega) with rfl | rfl | rfl)
          all_goals first | (exfalso; have := HC.out; have := G7.out; have := J.out; omega) | skip
          all_goals
            refine (lnum _ _).mono ?_
            rintro e w' ⟨rfl, rfl⟩
            go_wp2_with fail
            refine (lnum _ _).mono ?_
            rintro e w' ⟨rfl, rfl⟩
            go_wp2_with fail
            refine (law_awake5 _).mono ?_
            rintro e w8 ⟨rfl, hb⟩
            replace K := Lib.hid (kept_tr K.out hb)
            clear hb
            go_wp2_with fail
            go_ret
            exact ⟨rfl, K.out⟩
        · have J := Lib.hid hj
          clear hj
          have e0 : ((i : Int) == 0) = false := by rw [J.out]; rfl
          have n0 : ((i : Int) != 0) = true := by rw [J.out]; rfl
          have e1 : ((i : Int) == 1) = true := by rw [J.out]; rfl
          have n1 : ((i : Int) != 1) = false := by rw [J.out]; rfl
          have e2 : ((i : Int) == 2) = false := by rw [J.out]; rfl
          have n2 : ((i : Int) != 2) = true := by rw [J.out]; rfl
          go_wp2_with fail
          refine (CA.out _ (Below.refl _ _)).mono ?_
          rintro e w1 ⟨kk, nn, tt, rfl, hb⟩
          replace K := Lib.hid (kept_tr K.out hb)
          clear hb
          go_wp2_with fail
          refine (CB.out _ _ _ _).mono ?_
          rintro e w2 ⟨rfl, hb⟩
          replace K := Lib.hid (kept_al (kept_tr (kept_al K.out _) hb) (.cells #[.int .i64 0, .int .i64 0, .string ⟨#[]⟩, .slice none 0 0] 27))
          clear hb
          go_wp2_with fail
          all_goals (rcases (show c = 1 ∨ c = 0 ∨ c = 7 by have := HC.out; omega) with rfl | rfl | rfl)
          all_goals first | (exfalso; have := HC.out; have := G7.out; have := J.out; omega) | skip
          all_goals
            refine (lnum _ _).mono ?_
            rintro e w' ⟨rfl, rfl⟩
            go_wp2_with fail
            refine (lnum _ _).mono ?_
            rintro e w' ⟨rfl, rfl⟩
            go_wp2_with fail
            refine (law_awake5 _).mono ?_
            rintro e w8 ⟨rfl, hb⟩
            replace K := Lib.hid (kept_tr K.out hb)
            clear hb
            go_wp2_with fail
            go_ret
            exact ⟨rfl, K.out⟩
        · have J := Lib.hid hj
          clear hj
          have e0 : ((i : Int) == 0) = false := by rw [J.out]; rfl
          have n0 : ((i : Int) != 0) = true := by rw [J.out]; rfl
          have e1 : ((i : Int) == 1) = false := by rw [J.out]; rfl
          have n1 : ((i : Int) != 1) = true := by rw [J.out]; rfl
          have e2 : ((i : Int) == 2) = true := by rw [J.out]; rfl
          have n2 : ((i : Int) != 2) = false := by rw [J.out]; rfl
          go_wp2_with fail
          refine (CA.out _ (Below.refl _ _)).mono ?_
          rintro e w1 ⟨kk, nn, tt, rfl, hb⟩
          replace K := Lib.hid (kept_tr K.out hb)
          clear hb
          go_wp2_with fail
          refine (CB.out _ _ _ _).mono ?_
          rintro e w2 ⟨rfl, hb⟩
          replace K := Lib.hid (kept_al (kept_tr (kept_al K.out _) hb) (.cells #[.int .i64 0, .int .i64 0, .string ⟨#[]⟩, .slice none 0 0] 27))
          clear hb
          go_wp2_with fail
          all_goals (rcases (show c = 1 ∨ c = 0 ∨ c = 7 by have := HC.out; omega) with rfl | rfl | rfl)
          all_goals first | (exfalso; have := HC.out; have := G7.out; have := J.out; omega) | skip
          all_goals
            refine (lnum _ _).mono ?_
            rintro e w' ⟨rfl, rfl⟩
            go_wp2_with fail
            refine (lnum _ _).mono ?_
            rintro e w' ⟨rfl, rfl⟩
            go_wp2_with fail
            refine (law_awake5 _).mono ?_
            rintro e w8 ⟨rfl, hb⟩
            replace K := Lib.hid (kept_tr K.out hb)
            clear hb
            go_wp2_with fail
            go_ret
            exact ⟨rfl, K.out⟩
        · have J := Lib.hid hj
          clear hj
          have e0 : ((i : Int) == 0) = false := by rw [J.out]; rfl
          have n0 : ((i : Int) != 0) = true := by rw [J.out]; rfl
          have e1 : ((i : Int) == 1) = false := by rw [J.out]; rfl
          have n1 : ((i : Int) != 1) = true := by rw [J.out]; rfl
          have e2 : ((i : Int) == 2) = false := by rw [J.out]; rfl
          have n2 : ((i : Int) != 2) = true := by rw [J.out]; rfl
          go_wp2_with fail
          refine (CA.out _ (Below.refl _ _)).mono ?_
          rintro e w1 ⟨kk, nn, tt, rfl, hb⟩
          replace K := Lib.hid (kept_tr K.out hb)
          clear hb
          go_wp2_with fail
          refine (CB.out _ _ _ _).mono ?_
          rintro e w2 ⟨rfl, hb⟩
          replace K := Lib.hid (kept_al (kept_tr (kept_al K.out _) hb) (.cells #[.int .i64 0, .int .i64 0, .string ⟨#[]⟩, .slice none 0 0] 27))
          clear hb
          go_wp2_with fail
          all_goals (rcases (show c = 1 ∨ c = 0 ∨ c = 7 by have := HC.out; omega) with rfl | rfl | rfl)
          all_goals first | (exfalso; have := HC.out; have := G7.out; have := J.out; omega) | skip
          all_goals
            refine (lnum _ _).mono ?_
            rintro e w' ⟨rfl, rfl⟩
            go_wp2_with fail
            refine (lnum _ _).mono ?_
            rintro e w' ⟨rfl, rfl⟩
            go_wp2_with fail
            refine (law_awake5 _).mono ?_
            rintro e w8 ⟨rfl, hb⟩
            replace K := Lib.hid (kept_tr K.out hb)
            clear hb
            go_wp2_with fail
            go_ret
            exact ⟨rfl, K.out⟩
      · have ht : (nm.toList == [116, 101, 120, 116]) = false := by rw [T7]; simpa using g7
        have G7 := Lib.hid g7
        clear T7 g7
        rcases (show i = 0 ∨ i = 1 ∨ i = 2 ∨ i = 3 by omega) with hj | hj | hj | hj
        · have J := Lib.hid hj
          clear hj
          have e0 : ((i : Int) == 0) = true := by rw [J.out]; rfl
          have n0 : ((i : Int) != 0) = false := by rw [J.out]; rfl
          have e1 : ((i : Int) == 1) = false := by rw [J.out]; rfl
          have n1 : ((i : Int) != 1) = true := by rw [J.out]; rfl
          have e2 : ((i : Int) == 2) = false := by rw [J.out]; rfl
          have n2 : ((i : Int) != 2) = true := by rw [J.out]; rfl
          go_wp2_with fail
          refine (CA.out _ (Below.refl _ _)).mono ?_
          rintro e w1 ⟨kk, nn, tt, rfl, hb⟩
          replace K := Lib.hid (kept_tr K.out hb)
          clear hb
          go_wp2_with fail
          refine (CB.out _ _ _ _).mono ?_
          rintro e w2 ⟨rfl, hb⟩
          replace K := Lib.hid (kept_al (kept_tr (kept_al K.out _) hb) (.cells #[.int .i64 0, .int .i64 0, .string ⟨#[]⟩, .slice none 0 0] 27))
          clear hb
          go_wp2_with fail
          all_goals (rcases (show c = 1 ∨ c = 0 ∨ c = 7 by have := HC.out; omega) with rfl | rfl | rfl)
          all_goals first | (exfalso; have := HC.out; have := G7.out; have := J.out; omega) | skip
          all_goals
            refine (lnum _ _).mono ?_
            rintro e w' ⟨rfl, rfl⟩
            go_wp2_with fail
            refine (lnum _ _).mono ?_
            rintro e w' ⟨rfl, rfl⟩
            go_wp2_with fail
            refine (law_awake5 _).mono ?_
            rintro e w8 ⟨rfl, hb⟩
            replace K := Lib.hid (kept_tr K.out hb)
            clear hb
            go_wp2_with fail
            go_ret
            exact ⟨rfl, K.out⟩
        · have J := Lib.hid hj
          clear hj
          have e0 : ((i : Int) == 0) = false := by rw [J.out]; rfl
          have n0 : ((i : Int) != 0) = true := by rw [J.out]; rfl
          have e1 : ((i : Int) == 1) = true := by rw [J.out]; rfl
          have n1 : ((i : Int) != 1) = false := by rw [J.out]; rfl
          have e2 : ((i : Int) == 2) = false := by rw [J.out]; rfl
          have n2 : ((i : Int) != 2) = true := by rw [J.out]; rfl
          go_wp2_with fail
          refine (CA.out _ (Below.refl _ _)).mono ?_
          rintro e w1 ⟨kk, nn, tt, rfl, hb⟩
          replace K := Lib.hid (kept_tr K.out hb)
          clear hb
          go_wp2_with fail
          refine (CB.out _ _ _ _).mono ?_
          rintro e w2 ⟨rfl, hb⟩
          replace K := Lib.hid (kept_al (kept_tr (kept_al K.out _) hb) (.cells #[.int .i64 0, .int .i64 0, .string ⟨#[]⟩, .slice none 0 0] 27))
          clear hb
          go_wp2_with fail
          all_goals (rcases (show c = 1 ∨ c = 0 ∨ c = 7 by have := HC.out; omega) with rfl | rfl | rfl)
          all_goals first | (exfalso; have := HC.out; have := G7.out; have := J.out; omega) | skip
          all_goals
            refine (lnum _ _).mono ?_
            rintro e w' ⟨rfl, rfl⟩
            go_wp2_with fail
            refine (lnum _ _).mono ?_
            rintro e w' ⟨rfl, rfl⟩
            go_wp2_with fail
            refine (law_awake5 _).mono ?_
            rintro e w8 ⟨rfl, hb⟩
            replace K := Lib.hid (kept_tr K.out hb)
            clear hb
            go_wp2_with fail
            go_ret
            exact ⟨rfl, K.out⟩
        · have J := Lib.hid hj
          clear hj
          have e0 : ((i : Int) == 0) = false := by rw [J.out]; rfl
          have n0 : ((i : Int) != 0) = true := by rw [J.out]; rfl
          have e1 : ((i : Int) == 1) = false := by rw [J.out]; rfl
          have n1 : ((i : Int) != 1) = true := by rw [J.out]; rfl
          have e2 : ((i : Int) == 2) = true := by rw [J.out]; rfl
          have n2 : ((i : Int) != 2) = false := by rw [J.out]; rfl
          go_wp2_with fail
          refine (CA.out _ (Below.refl _ _)).mono ?_
          rintro e w1 ⟨kk, nn, tt, rfl, hb⟩
          replace K := Lib.hid (kept_tr K.out hb)
          clear hb
          go_wp2_with fail
          refine (CB.out _ _ _ _).mono ?_
          rintro e w2 ⟨rfl, hb⟩
          replace K := Lib.hid (kept_al (kept_tr (kept_al K.out _) hb) (.cells #[.int .i64 0, .int .i64 0, .string ⟨#[]⟩, .slice none 0 0] 27))
          clear hb
          go_wp2_with fail
          all_goals (rcases (show c = 1 ∨ c = 0 ∨ c = 7 by have := HC.out; omega) with rfl | rfl | rfl)
          all_goals first | (exfalso; have := HC.out; have := G7.out; have := J.out; omega) | skip
          all_goals
            refine (lnum _ _).mono ?_
            rintro e w' ⟨rfl, rfl⟩
            go_wp2_with fail
            refine (lnum _ _).mono ?_
            rintro e w' ⟨rfl, rfl⟩
            go_wp2_with fail
            refine (law_awake5 _).mono ?_
            rintro e w8 ⟨rfl, hb⟩
            replace K := Lib.hid (kept_tr K.out hb)
            clear hb
            go_wp2_with fail
            go_ret
            exact ⟨rfl, K.out⟩
        · have J := Lib.hid hj
          clear hj
          have e0 : ((i : Int) == 0) = false := by rw [J.out]; rfl
          have n0 : ((i : Int) != 0) = true := by rw [J.out]; rfl
          have e1 : ((i : Int) == 1) = false := by rw [J.out]; rfl
          have n1 : ((i : Int) != 1) = true := by rw [J.out]; rfl
          have e2 : ((i : Int) == 2) = false := by rw [J.out]; rfl
          have n2 : ((i : Int) != 2) = true := by rw [J.out]; rfl
          go_wp2_with fail
          refine (CA.out _ (Below.refl _ _)).mono ?_
          rintro e w1 ⟨kk, nn, tt, rfl, hb⟩
          replace K := Lib.hid (kept_tr K.out hb)
          clear hb
          go_wp2_with fail
          refine (CB.out _ _ _ _).mono ?_
          rintro e w2 ⟨rfl, hb⟩
          replace K := Lib.hid (kept_al (kept_tr (kept_al K.out _) hb) (.cells #[.int .i64 0, .int .i64 0, .string ⟨#[]⟩, .slice none 0 0] 27))
          clear hb
          go_wp2_with fail
          all_goals (rcases (show c = 1 ∨ c = 0 ∨ c = 7 by have := HC.out; omega) with rfl | rfl | rfl)
          all_goals first | (exfalso; have := HC.out; have := G7.out; have := J.out; omega) | skip
          all_goals
            refine (lnum _ _).mono ?_
            rintro e w' ⟨rfl, rfl⟩
            go_wp2_with fail
            refine (lnum _ _).mono ?_
            rintro e w' ⟨rfl, rfl⟩
            go_wp2_with fail
            refine (law_awake5 _).mono ?_
            rintro e w8 ⟨rfl, hb⟩
            replace K := Lib.hid (kept_tr K.out hb)
            clear hb
            go_wp2_with fail
            go_ret
            exact ⟨rfl, K.out⟩
end Go.Proofs.YtihlbnflgjidaabDoor
