/- Package want: parents, circles. -/
import Derived.Test.YtmiadhcmhnjmfaaWpE
namespace Go.Proofs.Ytmiadhcmhnjmfaa
open Go.RowKit
set_option linter.unusedVariables false
set_option linter.unusedSimpArgs false
theorem set_update {W : World} {g n : Nat} {P : ByteArray → Prop} (h : SetIn W g n P) (hn : n ≤ 1000000) {s : ByteArray} (hs : s.size ≤ maxLen) :
    ∃ W', (Instr.mapUpdate 64 (.map (some g)) (.string s) (.agg #[])).run Try.prog W = .ok () W' ∧ SetIn W' g (n + 1) (fun x => x = s ∨ P x) ∧ W.grownBy W' (some g) := by
  obtain ⟨d, h, r⟩ := h
  obtain ⟨W', h1, h2, h3⟩ := World.ownsMap.update h strKeyedW Try.underlying64 (by unfold maxLen; omega) (Go.WideMaps.keyOf_string_mk Try.underlying9 hs) (val := .agg #[]) (d := .held (.agg #[])) (ps := []) rfl
  exact ⟨W', h1, SetIn.put (World.ownsMap.isMap h) r h2, h3⟩
def ParRel (w : World) (l : List W5) (m : Nat) (iv : Value) (wr : World) : Prop :=
  ∃ k : Nat, iv = .int .i64 k ∧ l.length - k ≤ m ∧ k ≤ l.length ∧ Below w.heap.size w wr ∧ SetIn wr w.heap.size (k + 1) (fun x => x = ⟨#[]⟩ ∨ ∃ y ∈ l.take k, y.name = x)
section
variable (w : World)
set_option maxHeartbeats 8000000 in
set_option maxRecDepth 20000 in
theorem pparents (l : List W5) (lv : Value) (h : WRow w l lv) (hl : l.length ≤ 1000) (hz : ∀ u ∈ l, u.name.size ≤ 1000000 ∧ u.parent.size ≤ 1000000) :
    Calls Try.prog 29 #[lv] w (Made (.int .i64 (scanE (c2W l) 0 l)) w) := by
  have HZ := Lib.hid hz
  obtain ⟨w0, hup, hs0, hg0⟩ := set_update (SetIn.new w) (by omega) (s := ⟨#[]⟩) (by decide)
  have M0 := Lib.hid (hs0.iff (Q := fun x => x = ⟨#[]⟩ ∨ ∃ y ∈ l.take 0, y.name = x) (fun x => by simp))
  have B0 := Lib.hid (below_grown' (below_al (Below.refl w.heap.size w) (.map #[] 0)) hg0 (fun q e => by simp at e; omega))
  obtain ⟨ao, cap, rfl, h1, h2, hat⟩ := h
  have HAT := Lib.hid hat
  clear hat h1 h2 hz hs0 hg0
  have hmm := @run_makeMap Try.prog
  go_enter Try.func29, Try.ntmps29
  go_wp2_with fail
  go_loopg [15] l.length (fun m iv wr => ParRel w l m iv wr)
  case atStart => exact ⟨0, rfl, Nat.le_refl _, Nat.zero_le _, B0.out, M0.out⟩
  case round =>
    obtain ⟨k, rfl, hm, hk, hb, hS⟩ := hrel
    have HM := Lib.hid hm
    have BR := Lib.hid hb
    have SR := Lib.hid hS
    clear hm hb hS
    by_cases hlt : k < l.length
    · obtain ⟨u, hu⟩ : ∃ u, l[k]? = some u := ⟨_, List.getElem?_eq_getElem hlt⟩
      have HU := Lib.hid hu
      obtain ⟨g, o, rfl, hc⟩ := HAT.out k u hu
      obtain ⟨k0, k1, k2, k3, k4⟩ := hc.below BR.out
      have NS := Lib.hid (show u.name.size ≤ maxLen by have := (HZ.out u (List.mem_of_getElem? hu)).1; unfold maxLen; omega)
      have BX := Lib.hid (below_al BR.out (.cells #[.string u.name, .string u.parent, .int .i64 u.lim.c, .int .i64 u.lim.m, .int .i64 u.lim.p] 39))
      obtain ⟨d, hd, hr⟩ := SR.out.below (below_al (Below.refl wr.heap.size wr) (.cells #[.string u.name, .string u.parent, .int .i64 u.lim.c, .int .i64 u.lim.m, .int .i64 u.lim.p] 39))
      have HD := Lib.hid hd
      have HR := Lib.hid hr
      clear hu hc hd hr SR
      go_wp2_with (first
        | (at_mapUpdate; refine wpList_mapUpdate_own _ rfl _ _ _ 64 rfl 9 65 strKeyedW Try.underlying64 heldW w.heap.size (k + 1) d rfl HD.out (by unfold maxLen; omega) (.string u.name) (.agg #[]) (keyW u.name) rfl rfl (Go.WideMaps.keyOf_string_mk Try.underlying9 NS.out) _ [] rfl ?_; intro w3 hown3 hgrow3))
      have NM := Lib.hid (show ParRel w l (l.length - (k + 1)) (.int .i64 ((k + 1 : Nat) : Int)) w3 from
        ⟨k + 1, rfl, Nat.le_refl _, hlt, below_grown' BX.out hgrow3 (fun q e => by simp at e; omega), (SetIn.put (World.ownsMap.isMap HD.out) HR.out hown3).iff (fun x => by
          rw [← named_step HU.out]
          constructor
          · rintro (h | h | h)
            · exact .inr (.inl h)
            · exact .inl h
            · exact .inr (.inr h)
          · rintro (h | h | h)
            · exact .inr (.inl h)
            · exact .inl h
            · exact .inr (.inr h))⟩)
      clear hown3 hgrow3
      go_wp2_with fail
      go_roundg (l.length - (k + 1))
      case rel => exact NM.out
      case measure => have := HM.out; omega
    · obtain rfl : k = l.length := by omega
      have S1 := Lib.hid (SR.out.iff (Q := fun x => x = ⟨#[]⟩ ∨ ∃ y ∈ l, y.name = x) (fun x => by rw [List.take_length]))
      have BR1 := BR
      clear SR BR hlt HM
      go_wp2_with fail
      go_loopg [26] l.length (fun m iv ws => ∃ j : Nat, iv = .int .i64 j ∧ l.length - j ≤ m ∧ j ≤ l.length ∧ Below wr.heap.size wr ws ∧ Hid (OKto (c2W l) l j))
      case atStart => exact ⟨0, rfl, Nat.le_refl _, Nat.zero_le _, Below.refl _ _, Lib.hid (OKto.zero _ _)⟩
      case round =>
        obtain ⟨j, rfl, hm, hj, hb, OK⟩ := hrel
        have HM := Lib.hid hm
        have BS := Lib.hid hb
        clear hm hb
        by_cases hjl : j < l.length
        · obtain ⟨u, hu⟩ : ∃ u, l[j]? = some u := ⟨_, List.getElem?_eq_getElem hjl⟩
          have HU := Lib.hid hu
          obtain ⟨g, o, rfl, hc⟩ := HAT.out j u hu
          obtain ⟨k0, k1, k2, k3, k4⟩ := (hc.below BR1.out).below BS.out
          have NS := Lib.hid (show u.parent.size ≤ maxLen by have := (HZ.out u (List.mem_of_getElem? hu)).2; unfold maxLen; omega)
          have BX := Lib.hid (below_al BS.out (.cells #[.string u.name, .string u.parent, .int .i64 u.lim.c, .int .i64 u.lim.m, .int .i64 u.lim.p] 39))
          have BY := Lib.hid (below_al BX.out (.cells #[] 65))
          have HB := Lib.hid (below_tr BR1.out BY.out)
          by_cases hin : u.parent = ⟨#[]⟩ ∨ ∃ y ∈ l, y.name = u.parent
          · have lk := (S1.out.below BX.out).look NS.out (b := true) (fun _ => hin) (fun e => by cases e)
            have NX := Lib.hid (OK.out.next HU.out (by
              unfold c2W
              rw [if_neg]
              rintro ⟨h1, h2⟩
              rcases hin with h | ⟨y, hy, e⟩
              · exact h1 h
              · exact wIdx_no h2 y hy e))
            clear hu hc hin
            go_wp2_with fail
            go_roundg (l.length - (j + 1))
            case rel => exact ⟨j + 1, by go_num, Nat.le_refl _, hjl, BY.out, NX⟩
            case measure => have := HM.out; omega
          · have lk := (S1.out.below BX.out).look NS.out (b := false) (fun e => by cases e) (fun _ => hin)
            have R := Lib.hid (show scanE (c2W l) 0 l = 2 from OK.out.err HU.out (by
              unfold c2W
              rw [if_pos]
              refine ⟨fun e => hin (.inl e), ?_⟩
              cases hw : wIdx l u.parent with
              | none => rfl
              | some q => exact absurd (.inr (wIdx_some_iff.1 ⟨q, hw⟩)) hin) (by decide))
            clear hu hc hin
            go_wp2_with fail
            go_ret
            exact ⟨by rw [R.out]; rfl, HB.out⟩
        · obtain rfl : j = l.length := by omega
          have R := Lib.hid OK.out.all
          have HB := Lib.hid (below_tr BR1.out BS.out)
          go_wp2_with fail
          go_ret
          exact ⟨by rw [R.out]; rfl, HB.out⟩
set_option maxHeartbeats 2000000 in
set_option maxRecDepth 20000 in
/-- Is one not below the root? -/
theorem pcircles (lv : Value) (h B : Nat) (ds : List Nat) (hd : w.ownsRow B 3 1 (.slice (some ⟨h, 0, none⟩) ds.length ds.length) ds.length (natC ds)) (hl : ds.length ≤ 1000) (ao : Option Addr) (n c : Nat) (hlv : lv = .slice ao n c) (rr : Int) (r1 : 0 ∈ ds → rr = 10) (r2 : 0 ∉ ds → rr = 0) :
    Calls Try.prog 30 #[.agg #[lv, .slice (some ⟨h, 0, none⟩) ds.length ds.length]] w (Made (.int .i64 rr) w) := by
  subst hlv
  have R1 := Lib.hid r1
  have R2 := Lib.hid r2
  clear r1 r2
  have HD := Lib.hid hd
  have B0 := Lib.hid (below_al (Below.refl w.heap.size w) (.cells #[.slice ao n c, .slice (some ⟨h, 0, none⟩) ds.length ds.length] 53))
  clear hd
  go_enter Try.func30, Try.ntmps30
  go_wp2_with fail
  have D1 := Lib.hid (own_below HD.out (below_al (Below.refl w.heap.size w) (.cells #[.slice ao n c, .slice (some ⟨h, 0, none⟩) ds.length ds.length] 53)))
  go_loopg [8] ds.length (fun m iv wr => ∃ k : Nat, iv = .int .i64 k ∧ ds.length - k ≤ m ∧ k ≤ ds.length ∧ wr = w.alloc (.cells #[.slice ao n c, .slice (some ⟨h, 0, none⟩) ds.length ds.length] 53) ∧ Hid (∀ j : Nat, j < k → ds[j]? ≠ some 0))
  case atStart => exact ⟨0, rfl, Nat.le_refl _, Nat.zero_le _, rfl, Lib.hid (fun j hj => by omega)⟩
  case round =>
    obtain ⟨k, rfl, hm, hk, rfl, OK⟩ := hrel
    have HM := Lib.hid hm
    clear hm
    by_cases hlt : k < ds.length
    · obtain ⟨x, hx⟩ : ∃ x, ds[k]? = some x := ⟨_, List.getElem?_eq_getElem hlt⟩
      obtain ⟨b, e, q0⟩ := own_cell D1.out hx
      obtain rfl : h = b := by simpa using e
      have HX := Lib.hid hx
      clear hx e
      by_cases hx0 : x = 0
      · have R := Lib.hid (show rr = 10 from R1.out (by rw [← hx0]; exact List.mem_of_getElem? HX.out))
        subst hx0
        go_wp2_with fail
        go_ret
        exact ⟨by rw [R.out]; rfl, B0.out⟩
      · have ne : ((x : Int) == 0) = false := by simp; omega
        have NX := Lib.hid (show ∀ j : Nat, j < k + 1 → ds[j]? ≠ some 0 from fun j hj e => by
          by_cases ej : j = k
          · subst ej; rw [HX.out] at e; exact hx0 (by simpa using e)
          · exact OK.out j (by omega) e)
        go_wp2_with fail
        go_roundg (ds.length - (k + 1))
        case rel => exact ⟨k + 1, by go_num, Nat.le_refl _, hlt, rfl, NX⟩
        case measure => have := HM.out; omega
    · obtain rfl : k = ds.length := by omega
      have R := Lib.hid (show rr = 0 from R2.out (fun hm => by
        obtain ⟨j, hj, e⟩ := List.mem_iff_getElem.1 hm
        exact OK.out j hj (by rw [List.getElem?_eq_getElem hj, e])))
      go_wp2_with fail
      go_ret
      exact ⟨by rw [R.out]; rfl, B0.out⟩
end
end Go.Proofs.Ytmiadhcmhnjmfaa
