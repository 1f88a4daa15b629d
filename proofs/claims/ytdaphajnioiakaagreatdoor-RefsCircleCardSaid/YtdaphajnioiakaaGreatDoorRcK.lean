/- Package refs: Order, as long as no two places could come next at once. -/
import Derived.Test.YtdaphajnioiakaaGreatDoorRcJ
namespace Go.Proofs.YtdaphajnioiakaaGreatDoor
open Go.RowKit
set_option linter.unusedVariables false
set_option linter.unusedSimpArgs false
def OrderRes (w : World) (n : Nat) (r : Option (List Int × List (List Int))) (out : List Int) (e : Ending) (w' : World) : Prop := Below w.heap.size w w' ∧
  ((r = none ∧ e = .returned (.tuple #[.slice none 0 0, .int .i64 2])) ∨ (r ≠ none ∧ out.length < n ∧ e = .returned (.tuple #[.slice none 0 0, .int .i64 10])) ∨
    (r ≠ none ∧ n ≤ out.length ∧ ∃ v, e = .returned (.tuple #[v, .int .i64 0]) ∧ IntsRd w' v out))
section
variable (w : World)
set_option maxHeartbeats 2000000 in
set_option maxRecDepth 20000 in
theorem pOrder (av : Value) (al : List (ByteArray × List NodeL)) (rl : List (List ByteArray)) (h : AttrsRd w av al) (hl : al.length ≤ 1000) (hz : ∀ a ∈ al, a.1.size ≤ 100000) (ho : NamesOnce al) (ht : TreesOK al) (hv : ErrVar w) (hlen : rl.length = al.length)
    (hr : ∀ (i : Nat) (a : ByteArray × List NodeL) (rs : List ByteArray), al[i]? = some a → rl[i]? = some rs → RefsTo a.2 rs ∧ rs.length ≤ 100000 ∧ ∀ x ∈ rs, x.size ≤ 100000) (r : Option (List Int × List (List Int))) (hrow : rowAll (placeL al) 0 rl (List.replicate al.length 0) (List.replicate al.length []) = some r)
    (out : List Int) (hout : ∀ wt bh, r = some (wt, bh) → ∃ P0 fuel, startE 0 wt [] = some P0 ∧ ordE al.length bh fuel P0 wt [] = some out ∧ fuel ≤ 1000000) :
    Calls Tryz.prog 8 #[av] w (OrderRes w al.length r out) := by
  have H := Lib.hid h
  have V := Lib.hid hv
  have HT := Lib.hid ht
  have HR := Lib.hid hr
  have HO := Lib.hid hout
  have C1 := Lib.hid (pplaces w av al h hl hz ho)
  have hlen2 : (al.length : Int) ≤ 1000 := by omega
  obtain ⟨ao, cap, rfl, -⟩ := h
  clear ht hv hr hz ho hout
  go_enter Tryz.func8, Tryz.ntmps8
  go_wp2_with fail
  refine C1.out.mono ?_
  rintro e w1 ⟨rfl, hb1, hp1⟩
  have P1 := Lib.hid hp1
  have B1 := Lib.hid hb1
  clear hb1 hp1
  go_wp2_with fail
  refine (pcontains w1 _ al (H.out.below B1.out) hl HT.out (V.out.below B1.out V.out.lt)).mono ?_
  rintro e w2 ⟨rfl, hb2⟩
  have B2 := Lib.hid (B1.out.trans (hb2.mono B1.out.size))
  have P2 := Lib.hid (P1.out.below hb2)
  clear hb2
  go_wp2_with fail
  refine (prowOf w2 _ al rl w.heap.size (placeL al) (H.out.below B2.out) hl P2.out hlen HR.out r hrow).mono ?_
  rintro e w3 ⟨hb3, h3⟩
  have B3 := Lib.hid (B2.out.trans (hb3.mono B2.out.size))
  clear hb3
  rcases h3 with ⟨hr3, rfl⟩ | ⟨wt, bh, b, gw, gb, vs, hr3, rfl, hrow3⟩
  · have RN := Lib.hid hr3
    clear hr3 hrow
    go_wp2_with fail
    exact bodyPost_ret (v := .tuple #[.slice none 0 0, .int .i64 2]) (by simp [results, Tryz.results8, go_sem]) rfl ⟨B3.out, .inl ⟨RN.out, rfl⟩⟩
  · obtain ⟨P0, fuel, ho1, ho2, ho3⟩ := HO.out wt bh hr3
    have RN := Lib.hid (show r ≠ none by rw [hr3]; simp)
    have OC := Lib.hid (porder w3 w2.heap.size b gw gb al.length _ vs wt bh hrow3 hl P0 out fuel ho1 ho2 ho3)
    clear hr3 hrow ho1 ho2 ho3 hrow3
    go_wp2_with fail
    refine OC.out.mono ?_
    rintro e w4 ⟨v, rfl, hb4, hv4⟩
    have B4 := Lib.hid (B3.out.trans (hb4.mono B2.out.size))
    have I4 := Lib.hid (ints_of_own hv4)
    obtain ⟨vo, vc, rfl⟩ := I4.out.shape
    clear hb4 hv4
    by_cases hlt : out.length < al.length
    · go_wp2_with fail
      exact bodyPost_ret (v := .tuple #[.slice none 0 0, .int .i64 10]) (by simp [results, Tryz.results8, go_sem]) rfl ⟨B4.out, .inr (.inl ⟨RN.out, hlt, rfl⟩)⟩
    · go_wp2_with fail
      exact bodyPost_ret (v := .tuple #[.slice vo out.length vc, .int .i64 0]) (by simp [results, Tryz.results8, go_sem]) rfl ⟨B4.out, .inr (.inr ⟨RN.out, by omega, _, rfl, I4.out⟩)⟩
end
end Go.Proofs.YtdaphajnioiakaaGreatDoor
