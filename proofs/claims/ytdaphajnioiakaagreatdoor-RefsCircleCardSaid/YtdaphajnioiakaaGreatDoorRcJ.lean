/- Package refs: rowOf. -/
import Derived.Test.YtdaphajnioiakaaGreatDoorRcB
import Derived.Test.YtdaphajnioiakaaGreatDoorRcI
namespace Go.Proofs.YtdaphajnioiakaaGreatDoor
open Go.RowKit
set_option linter.unusedVariables false
set_option linter.unusedSimpArgs false
/-- What a name begins with that refers to a place of the same list. -/
def locB : List UInt8 := [108, 111, 99, 97, 108, 46]
def isLoc (x : ByteArray) : Bool := Lib.hasPrefix x.data.toList locB
def cutLoc (x : ByteArray) : ByteArray := ⟨(Lib.trimPrefix x.data.toList locB).toArray⟩
def rowRefs (L : ByteArray → Option Nat) (i : Nat) : List ByteArray → List Int → List (List Int) → Option (Option (List Int × List (List Int)))
  | [], wt, bh => some (some (wt, bh))
  | x :: xs, wt, bh => if isLoc x then
      match L (cutLoc x) with
      | none => some none
      | some f => match wt[i]?, bh[f]? with
        | some v, some l => if v < 0 ∨ 999999 ≤ v ∨ 100000 < l.length then none else rowRefs L i xs (wt.set i (v + 1)) (bh.set f (l ++ [(i : Int)]))
        | _, _ => none
    else rowRefs L i xs wt bh
def rowAll (L : ByteArray → Option Nat) : Nat → List (List ByteArray) → List Int → List (List Int) → Option (Option (List Int × List (List Int)))
  | _, [], wt, bh => some (some (wt, bh))
  | i, rs :: rest, wt, bh => match rowRefs L i rs wt bh with
    | none => none
    | some none => some none
    | some (some s) => rowAll L (i + 1) rest s.1 s.2
theorem rowRefs_cons {L : ByteArray → Option Nat} {i : Nat} {x : ByteArray} {xs : List ByteArray} {wt : List Int} {bh : List (List Int)} {r : Option (List Int × List (List Int))} (h : rowRefs L i (x :: xs) wt bh = some r) :
    (isLoc x = false ∧ rowRefs L i xs wt bh = some r) ∨ (isLoc x = true ∧ L (cutLoc x) = none ∧ r = none) ∨
    (isLoc x = true ∧ ∃ f v l, L (cutLoc x) = some f ∧ wt[i]? = some v ∧ bh[f]? = some l ∧ 0 ≤ v ∧ v < 1000000 ∧ l.length ≤ 100000 ∧ rowRefs L i xs (wt.set i (v + 1)) (bh.set f (l ++ [(i : Int)])) = some r) := by
  unfold rowRefs at h
  cases hx : isLoc x with
  | false => rw [hx] at h; exact .inl ⟨rfl, h⟩
  | true =>
    rw [hx] at h
    simp only [if_true] at h
    cases hL : L (cutLoc x) with
    | none => rw [hL] at h; exact .inr (.inl ⟨rfl, rfl, (Option.some.inj h).symm⟩)
    | some f =>
      rw [hL] at h
      dsimp only at h
      cases hw : wt[i]? with
      | none => rw [hw] at h; cases h
      | some v =>
        cases hb : bh[f]? with
        | none => rw [hw, hb] at h; cases h
        | some l =>
          rw [hw, hb] at h
          dsimp only at h
          by_cases c : v < 0 ∨ 999999 ≤ v ∨ 100000 < l.length
          · rw [if_pos c] at h; cases h
          · rw [if_neg c] at h
            exact .inr (.inr ⟨rfl, f, v, l, rfl, rfl, hb, by omega, by omega, by omega, h⟩)
theorem rowAll_cons {L : ByteArray → Option Nat} {i : Nat} {rs : List ByteArray} {rest : List (List ByteArray)} {wt : List Int} {bh : List (List Int)} {r : Option (List Int × List (List Int))} (h : rowAll L i (rs :: rest) wt bh = some r) :
    ∃ s, rowRefs L i rs wt bh = some s ∧ ((s = none ∧ r = none) ∨ ∃ wt' bh', s = some (wt', bh') ∧ rowAll L (i + 1) rest wt' bh' = some r) := by
  unfold rowAll at h
  cases hr : rowRefs L i rs wt bh with
  | none => rw [hr] at h; cases h
  | some s =>
    rw [hr] at h
    cases s with
    | none => exact ⟨none, rfl, .inl ⟨rfl, (Option.some.inj h).symm⟩⟩
    | some s => exact ⟨some s, rfl, .inr ⟨s.1, s.2, rfl, h⟩⟩
/-- What nodes refer to. -/
def RefsTo (ns : List NodeL) (rs : List ByteArray) : Prop := ∀ (W : World) (nv : Value), NodesRd W nv ns → Calls Tryz.prog 22 #[nv] W fun e W' => ∃ v, e = .returned v ∧ StrsIn W' W.heap.size v rs ∧ Below W.heap.size W W'
def RowRes (w : World) (n : Nat) (r : Option (List Int × List (List Int))) (e : Ending) (w' : World) : Prop := Below w.heap.size w w' ∧
  ((r = none ∧ e = .returned (.tuple #[.pointer none, .int .i64 2])) ∨
    ∃ wt bh b gw gb vs, r = some (wt, bh) ∧ e = .returned (.tuple #[.pointer (some ⟨b, 0, none⟩), .int .i64 0]) ∧ RowAt w' w.heap.size b gw gb n (.slice none 0 0) vs [] wt bh)
theorem cutLoc_size (x : ByteArray) : (cutLoc x).size ≤ x.size := by
  show (Lib.trimPrefix x.data.toList locB).toArray.size ≤ x.data.size
  rw [List.size_toArray]
  unfold Lib.trimPrefix
  split <;> simp
theorem pcutLoc (x : ByteArray) (W : World) : Calls Tryz.prog 28 #[.string x, .string ⟨#[108, 111, 99, 97, 108, 46]⟩] W fun e w' => e = .returned (.tuple #[.string (cutLoc x), .bool (isLoc x)]) ∧ W = w' :=
  (Tryz.strings_CutPrefix x ⟨#[108, 111, 99, 97, 108, 46]⟩ W).mono fun e w' h => ⟨h.1, h.2.symm⟩
def Row1 (w : World) (b gw gb n : Nat) (L : ByteArray → Option Nat) (rl : List (List ByteArray)) (r : Option (List Int × List (List Int))) (m : Nat) (iv : Value) (wr : World) : Prop :=
  ∃ (j : Nat) (vs : List Value) (wt : List Int) (bh : List (List Int)), iv = .int .i64 j ∧ n - j ≤ m ∧ j ≤ n ∧ RowAt wr w.heap.size b gw gb n (.slice none 0 0) vs [] wt bh ∧ Below w.heap.size w wr ∧ rowAll L j (rl.drop j) wt bh = some r
def Row2 (w wa w4 : World) (b gw gb n j : Nat) (L : ByteArray → Option Nat) (rs : List ByteArray) (s : Option (List Int × List (List Int))) (m : Nat) (iv : Value) (wx : World) : Prop :=
  ∃ (q : Nat) (vs : List Value) (wt : List Int) (bh : List (List Int)), iv = .int .i64 q ∧ rs.length - q ≤ m ∧ q ≤ rs.length ∧ RowAt wx w.heap.size b gw gb n (.slice none 0 0) vs [] wt bh ∧ Below w.heap.size w wx ∧ rowRefs L j (rs.drop q) wt bh = some s ∧
    ∀ g, wa.heap.size ≤ g → g < w4.heap.size → wx.heap[g]? = w4.heap[g]? ∧ ClearV wx gw gb vs g
theorem dropL_cons {α : Type} {l : List α} {j : Nat} {x : α} (h : l[j]? = some x) : l.drop j = x :: l.drop (j + 1) := by
  obtain ⟨h1, h2⟩ := List.getElem?_eq_some_iff.1 h
  rw [← h2]
  exact List.drop_eq_getElem_cons h1
section
variable (w : World)
set_option maxHeartbeats 2000000 in
set_option maxRecDepth 20000 in
theorem prowOf (av : Value) (al : List (ByteArray × List NodeL)) (rl : List (List ByteArray)) (g0 : Nat) (L : ByteArray → Option Nat) (h : AttrsRd w av al) (hl : al.length ≤ 1000) (hp : PlacesAt w g0 al.length L) (hlen : rl.length = al.length)
    (hr : ∀ (i : Nat) (a : ByteArray × List NodeL) (rs : List ByteArray), al[i]? = some a → rl[i]? = some rs → RefsTo a.2 rs ∧ rs.length ≤ 100000 ∧ ∀ x ∈ rs, x.size ≤ 100000) (r : Option (List Int × List (List Int))) (hrow : rowAll L 0 rl (List.replicate al.length 0) (List.replicate al.length []) = some r) :
    Calls Tryz.prog 19 #[av, .map (some g0)] w (RowRes w al.length r) := by
  have H := Lib.hid h
  have HP := Lib.hid hp
  have HR := Lib.hid hr
  have ROW := Lib.hid hrow
  obtain ⟨ao, cap, rfl, -⟩ := h
  clear hp hr hrow
  go_enter Tryz.func19, Tryz.ntmps19
  go_wp2_with fail
  refine (pnewRow w al.length hl).mono ?_
  rintro e w1 ⟨b, gw, gb, rfl, hb1, hr1⟩
  have R1 := Lib.hid hr1
  have B1 := Lib.hid hb1
  clear hb1 hr1
  go_wp2_with fail
  go_loopg [20] al.length (fun m iv wr => Row1 w b gw gb al.length L rl r m iv wr)
  case atStart => exact ⟨0, _, _, _, rfl, Nat.le_refl _, Nat.zero_le _, R1.out, B1.out, ROW.out⟩
  case round =>
    obtain ⟨j, vs, wt, bh, rfl, hm, hj, hr2, hb2, hrow⟩ := hrel
    have HM := Lib.hid hm
    have R2 := Lib.hid hr2
    have B2 := Lib.hid hb2
    clear hm hr2 hb2
    by_cases hjl : j < al.length
    · obtain ⟨a, ha⟩ : ∃ a, al[j]? = some a := ⟨_, List.getElem?_eq_getElem hjl⟩
      obtain ⟨rs, hrs⟩ : ∃ rs, rl[j]? = some rs := ⟨_, List.getElem?_eq_getElem (by omega)⟩
      obtain ⟨hrt, hrs1, hrs2⟩ := HR.out j a rs ha hrs
      rw [dropL_cons hrs] at hrow
      obtain ⟨s, hs1, hs2⟩ := rowAll_cons hrow
      obtain ⟨ao2, cap2, e2, hat⟩ := H.out.below B2.out
      simp at e2
      obtain ⟨rfl, rfl⟩ := e2
      obtain ⟨g, o, no, nc, rfl, c0, c1, hnd⟩ := hat j a ha
      have S1 := Lib.hid hs1
      have S2 := Lib.hid hs2
      have L1 := Lib.hid hrs1
      have L2 := Lib.hid hrs2
      have BA := Lib.hid (below_al (Below.refl wr.heap.size wr) (.cells #[.string a.1, .slice no a.2.length nc] 36))
      have RT := Lib.hid (hrt _ _ (hnd.below BA.out))
      have RA := Lib.hid (R2.out.below BA.out)
      clear hrow hs1 hs2 hrs1 hrs2 hat hnd hrt ha hrs
      go_wp2_with fail
      generalize wr.alloc (.cells #[.string a.1, .slice no a.2.length nc] 36) = wa at *
      refine RT.out.mono ?_
      rintro e w4 ⟨v, rfl, hv4, hb4⟩
      obtain ⟨so, sc, rfl, hst⟩ := hv4
      have ST := Lib.hid hst
      have R4 := Lib.hid (RA.out.below hb4)
      have B4 := Lib.hid ((B2.out.trans (BA.out.mono B2.out.size)).trans (hb4.mono (B2.out.trans (BA.out.mono B2.out.size)).size))
      have K4 := Lib.hid (show ∀ g, wa.heap.size ≤ g → g < w4.heap.size → w4.heap[g]? = w4.heap[g]? ∧ ClearV w4 gw gb vs g from fun g h1 h2 => by
        obtain ⟨l1, l2, l3⟩ := RA.out.lts
        exact ⟨rfl, h2, by omega, by omega, fun i v hv e => by have := (RA.out.vne hv e).2.1; omega⟩)
      clear hst hb4
      go_wp2_with fail
      go_loopg [29] rs.length (fun m iv wx => Row2 w wa w4 b gw gb al.length j L rs s m iv wx)
      case atStart => exact ⟨0, _, _, _, rfl, Nat.le_refl _, Nat.zero_le _, R4.out, B4.out, S1.out, fun g h1 h2 => ⟨rfl, (K4.out g h1 h2).2⟩⟩
      case round =>
        obtain ⟨q, vs5, wt5, bh5, rfl, hm5, hq5, hr5, hb5, hs5, hk5⟩ := hrel
        have M5 := Lib.hid hm5
        have R5 := Lib.hid hr5
        have B5 := Lib.hid hb5
        have K5 := Lib.hid hk5
        clear hm5 hr5 hb5 hk5
        by_cases hql : q < rs.length
        · obtain ⟨x, hx⟩ : ∃ x, rs[q]? = some x := ⟨_, List.getElem?_eq_getElem hql⟩
          have SZ := Lib.hid (L2.out x (List.mem_of_getElem? hx))
          have hq9 : rs.length ≤ 100000 := L1.out
          rw [dropL_cons hx] at hs5
          obtain ⟨g5, o5, rfl, hg5, hg6, cx0⟩ := ST.out q x hx
          have cx := (World.cell?_of_block (a := ⟨g5, o5 + q, none⟩) (K5.out g5 hg5 hg6).1).trans cx0
          have C := Lib.hid (pcutLoc x wr)
          clear cx0 hx hg5 hg6
          rcases rowRefs_cons hs5 with ⟨hi, hs6⟩ | ⟨hi, hL, hs6⟩ | ⟨hi, f, v, l, hL, hw6, hb6, hv0, hv1, hll, hs6⟩
          · rw [hi] at C
            have S6 := Lib.hid hs6
            clear hs5 hs6 hi
            go_wp2_with fail
            refine C.out.mono ?_
            rintro e w6 ⟨rfl, rfl⟩
            go_wp2_with fail
            go_roundg (rs.length - (q + 1))
            case rel => exact ⟨q + 1, _, _, _, rfl, Nat.le_refl _, hql, R5.out, B5.out, S6.out, K5.out⟩
            case measure => have := M5.out; omega
          · rw [hi] at C
            obtain ⟨d, hmap, hx5⟩ := HP.out.below B5.out
            obtain ⟨q1, q2⟩ := (hx5 (cutLoc x)).1 hL
            have M1 := Lib.hid hmap
            have Q1 := Lib.hid q1
            have Q2 := Lib.hid q2
            have SX := Lib.hid (show (cutLoc x).size ≤ maxLen by have := cutLoc_size x; have := SZ.out; unfold maxLen; omega)
            have RN := Lib.hid (show r = none by
              rcases S2.out with ⟨-, h⟩ | ⟨wt', bh', h, -⟩
              · exact h
              · rw [hs6] at h; cases h)
            clear hs5 hs6 hi hmap hx5 q1 q2 hL
            go_wp2_with fail
            refine C.out.mono ?_
            rintro e w6 ⟨rfl, rfl⟩
            go_wp2_with (at_lookup; refine wpList_lookup_place _ rfl _ _ rfl g0 al.length d rfl M1.out (cutLoc x) rfl SX.out _ Q2.out false Q1.out ?_)
            exact bodyPost_ret (v := .tuple #[.pointer none, .int .i64 2]) (by simp [results, Tryz.results19, go_sem]) rfl ⟨B5.out, .inl ⟨RN.out, rfl⟩⟩
          · rw [hi] at C
            obtain ⟨d, hmap, hx5⟩ := HP.out.below B5.out
            obtain ⟨q1, q2⟩ := (hx5 (cutLoc x)).2 f hL
            have M1 := Lib.hid hmap
            have Q1 := Lib.hid q1
            have Q2 := Lib.hid q2
            have SX := Lib.hid (show (cutLoc x).size ≤ maxLen by have := cutLoc_size x; have := SZ.out; unfold maxLen; omega)
            have PP := Lib.hid (pput wr w.heap.size b gw gb al.length (.slice none 0 0) vs5 [] wt5 bh5 R5.out j f v l hw6 hb6 hl hll hv0 hv1)
            have S6 := Lib.hid hs6
            clear hs5 hs6 hi hmap hx5 q1 q2 hL hw6 hb6 hv0 hv1 hll
            go_wp2_with fail
            refine C.out.mono ?_
            rintro e w6 ⟨rfl, rfl⟩
            go_wp2_with (at_lookup; refine wpList_lookup_place _ rfl _ _ rfl g0 al.length d rfl M1.out (cutLoc x) rfl SX.out _ Q2.out true Q1.out ?_)
            refine PP.out.mono ?_
            rintro e w7 ⟨rfl, hb7, vs7, hr7, hk7⟩
            have R7 := Lib.hid hr7
            have B7 := Lib.hid (B5.out.trans hb7)
            have K7 := Lib.hid (show ∀ g, wa.heap.size ≤ g → g < w4.heap.size → w7.heap[g]? = w4.heap[g]? ∧ ClearV w7 gw gb vs7 g from fun g h1 h2 => by
              obtain ⟨k1, k2⟩ := K5.out g h1 h2
              exact ⟨(hk7 g k2).1.trans k1, (hk7 g k2).2⟩)
            clear hb7 hr7 hk7
            go_wp2_with fail
            go_roundg (rs.length - (q + 1))
            case rel => exact ⟨q + 1, _, _, _, rfl, Nat.le_refl _, hql, R7.out, B7.out, S6.out, K7.out⟩
            case measure => have := M5.out; omega
        · have hz : q = rs.length := by omega
          subst hz
          have N6 := Lib.hid (show rowAll L (j + 1) (rl.drop (j + 1)) wt5 bh5 = some r by
            rw [List.drop_length] at hs5
            have e := Option.some.inj (show some (some (wt5, bh5)) = some s from hs5)
            rcases S2.out with ⟨h, -⟩ | ⟨wt', bh', h, h2⟩
            · rw [← e] at h; cases h
            · rw [← e] at h
              simp only [Option.some.injEq, Prod.mk.injEq] at h
              rw [h.1, h.2]; exact h2)
          clear hs5
          go_wp2_with fail
          go_roundg (al.length - (j + 1))
          case rel => exact ⟨j + 1, _, _, _, rfl, Nat.le_refl _, hjl, R5.out, B5.out, N6.out⟩
          case measure => have := HM.out; omega
    · have hz : j = al.length := by omega
      subst hz
      have E := Lib.hid (show some (wt, bh) = r by
        rw [List.drop_of_length_le (by omega)] at hrow
        exact Option.some.inj hrow)
      clear hrow
      go_wp2_with fail
      exact bodyPost_ret (v := .tuple #[.pointer (some ⟨b, 0, none⟩), .int .i64 0]) (by simp [results, Tryz.results19, go_sem]) rfl ⟨B2.out, .inr ⟨wt, bh, b, gw, gb, vs, E.out.symm, rfl, R2.out⟩⟩
end
end Go.Proofs.YtdaphajnioiakaaGreatDoor
