/- Package want: names. -/
import Derived.Test.YtmiadhcmhnjmfaaWpD
namespace Go.Proofs.Ytmiadhcmhnjmfaa
open Go.RowKit
set_option linter.unusedVariables false
set_option linter.unusedSimpArgs false
/-- The map at block g is a set of names: P tells which. -/
def SetIn (w : World) (g n : Nat) (P : ByteArray → Prop) : Prop := ∃ d : DataW Value, w.ownsMap Try.prog 9 heldW g n d ∧ ∀ x, (P x → Maps.has d (keyW x) = true) ∧ (¬ P x → Maps.has d (keyW x) = false) ∧ d.atKey (keyW x) (.held (.agg #[])) = .held (.agg #[])
theorem unit_run (w : World) : (zeroValue 65).run Try.prog w = .ok (.agg #[]) w := by kernel_rfl
theorem SetIn.new (w : World) : SetIn (w.alloc (.map #[] 0)) w.heap.size 0 (fun _ => False) := ⟨.map [], World.ownsMap_made w _ _ _, fun x => ⟨fun h => h.elim, fun _ => rfl, rfl⟩⟩
theorem SetIn.lt {w : World} {g n : Nat} {P : ByteArray → Prop} (h : SetIn w g n P) : g < w.heap.size := by obtain ⟨d, h, -⟩ := h; exact World.ownsMap.lt h
theorem SetIn.below {w w' : World} {g n : Nat} {P : ByteArray → Prop} (h : SetIn w g n P) (hb : Below w.heap.size w w') : SetIn w' g n P := by
  have hlt := h.lt
  obtain ⟨d, h, r⟩ := h
  exact ⟨d, ownsMap_below h (hb.block g hlt), r⟩
theorem SetIn.iff {w : World} {g n : Nat} {P Q : ByteArray → Prop} (h : SetIn w g n P) (e : ∀ x, P x ↔ Q x) : SetIn w g n Q := by
  obtain ⟨d, h, r⟩ := h
  exact ⟨d, h, fun x => ⟨fun hq => (r x).1 ((e x).2 hq), fun hq => (r x).2.1 (fun hp => hq ((e x).1 hp)), (r x).2.2⟩⟩
theorem SetIn.look {W : World} {g n : Nat} {P : ByteArray → Prop} (h : SetIn W g n P) {s : ByteArray} (hs : s.size ≤ maxLen) {b : Bool} (hb : b = true → P s) (hn : b = false → ¬ P s) :
    (Instr.lookup 64 (.map (some g)) (.string s) true).run Try.prog W = .ok (.tuple #[.agg #[], .bool b]) W := by
  obtain ⟨d, h, r⟩ := h
  obtain ⟨v', ps, hrun, hv⟩ := World.ownsMap.look_ok h strKeyedW Try.underlying64 (unit_run W) (R := heldW) (zd := .held (.agg #[])) (zp := []) rfl (Go.WideMaps.keyOf_string_mk Try.underlying9 hs)
  rw [show Lit.string s.data.toList = keyW s from rfl, (r s).2.2] at hv
  simp only [heldW, Option.some.injEq, Prod.mk.injEq, DataW.held.injEq] at hv
  have hh : Maps.has d (keyW s) = b := by
    cases b
    · exact (r s).2.1 (hn rfl)
    · exact (r s).1 (hb rfl)
  rw [show Lit.string s.data.toList = keyW s from rfl, hv.1, hh] at hrun
  exact hrun
theorem SetIn.put {w' : World} {g n : Nat} {P : ByteArray → Prop} {d : DataW Value} {s : ByteArray} (hM : Maps.IsMap d) (r : ∀ x, (P x → Maps.has d (keyW x) = true) ∧ (¬ P x → Maps.has d (keyW x) = false) ∧ d.atKey (keyW x) (.held (.agg #[])) = .held (.agg #[]))
    (h' : w'.ownsMap Try.prog 9 heldW g (n + 1) (d.put (keyW s) (.held (.agg #[])))) : SetIn w' g (n + 1) (fun x => x = s ∨ P x) := by
  refine ⟨_, h', fun x => ?_⟩
  by_cases hx : x = s
  · subst hx
    exact ⟨fun _ => Maps.has_put_same hM (keyW_key x) _, fun h => absurd (.inl rfl) h, Maps.atKey_put_same hM (keyW_key x) _ _⟩
  · rw [Maps.has_put_other (keyW_ne hx), Maps.atKey_put_other (keyW_ne hx)]
    exact ⟨fun h => (r x).1 (h.resolve_left hx), fun h => (r x).2.1 (fun hp => h (.inr hp)), (r x).2.2⟩
theorem idx_isSome {l : List W5} {s : ByteArray} : (wIdx l s).isSome = true ↔ ∃ x ∈ l, x.name = s := by
  rw [← wIdx_some_iff, Option.isSome_iff_exists]
theorem named_step {l : List W5} {k : Nat} {u : W5} (hu : l[k]? = some u) (x : ByteArray) : (x = u.name ∨ ∃ y ∈ l.take k, y.name = x) ↔ ∃ y ∈ l.take (k + 1), y.name = x := by
  rw [List.take_add_one, hu]
  simp only [Option.toList_some, List.mem_append, List.mem_cons, List.not_mem_nil, or_false]
  constructor
  · rintro (rfl | ⟨y, hy, e⟩)
    · exact ⟨u, .inr rfl, rfl⟩
    · exact ⟨y, .inl hy, e⟩
  · rintro ⟨y, hy | rfl, e⟩
    · exact .inr ⟨y, hy, e⟩
    · exact .inl e.symm
def NamRel (w : World) (l : List W5) (m : Nat) (iv : Value) (wr : World) : Prop :=
  ∃ k : Nat, iv = .int .i64 k ∧ l.length - k ≤ m ∧ k ≤ l.length ∧ Below w.heap.size w wr ∧ SetIn wr w.heap.size k (fun x => ∃ y ∈ l.take k, y.name = x) ∧ Hid (OKto (c1W l) l k)
section
variable (w : World)
set_option maxHeartbeats 8000000 in
set_option maxRecDepth 20000 in
theorem pnames (l : List W5) (lv : Value) (h : WRow w l lv) (hl : l.length ≤ 1000) (hz : ∀ u ∈ l, u.name.size ≤ 1000000 ∧ u.parent.size ≤ 1000000) :
    Calls Try.prog 28 #[lv] w (Made (.int .i64 (scanE (c1W l) 0 l)) w) := by
  have HZ := Lib.hid hz
  have M0 := Lib.hid ((SetIn.new w).iff (Q := fun x => ∃ y ∈ l.take 0, y.name = x) (fun x => by simp))
  have B0 := Lib.hid (below_al (Below.refl w.heap.size w) (.map #[] 0))
  obtain ⟨ao, cap, rfl, h1, h2, hat⟩ := h
  have HAT := Lib.hid hat
  clear hat h1 h2 hz
  have hmm := @run_makeMap Try.prog
  go_enter Try.func28, Try.ntmps28
  go_wp2_with fail
  go_loopg [11] l.length (fun m iv wr => NamRel w l m iv wr)
  case atStart => exact ⟨0, rfl, Nat.le_refl _, Nat.zero_le _, B0.out, M0.out, Lib.hid (OKto.zero _ _)⟩
  case round =>
    obtain ⟨k, rfl, hm, hk, hb, hS, OK⟩ := hrel
    have HM := Lib.hid hm
    have BR := Lib.hid hb
    have SR := Lib.hid hS
    clear hm hb hS
    by_cases hlt : k < l.length
    · obtain ⟨u, hu⟩ : ∃ u, l[k]? = some u := ⟨_, List.getElem?_eq_getElem hlt⟩
      have HU := Lib.hid hu
      obtain ⟨g, o, rfl, hc⟩ := HAT.out k u hu
      obtain ⟨k0, k1, k2, k3, k4⟩ := hc.below BR.out
      have hsz := (HZ.out u (List.mem_of_getElem? hu)).1
      have BX := Lib.hid (below_al BR.out (.cells #[.string u.name, .string u.parent, .int .i64 u.lim.c, .int .i64 u.lim.m, .int .i64 u.lim.p] 39))
      have MN := Lib.hid (fun W => vmay_any W u.lim)
      clear hu hc
      by_cases hz0 : u.name.size = 0
      · have R := Lib.hid (show scanE (c1W l) 0 l = 1 from OK.out.err HU.out (by
          unfold c1W nameB
          have : u.name = ⟨#[]⟩ := ByteArray.ext (Array.eq_empty_of_size_eq_zero hz0)
          rw [this]; rfl) (by decide))
        go_wp2_with fail
        go_ret
        exact ⟨by rw [R.out]; rfl, BX.out⟩
      have hne : u.name ≠ ⟨#[]⟩ := fun e => hz0 (by rw [e]; rfl)
      by_cases hz1 : 24 < u.name.size
      · have R := Lib.hid (show scanE (c1W l) 0 l = 1 from OK.out.err HU.out (by
          unfold c1W nameB
          have : decide (u.name.size ≤ 24) = false := by simp; omega
          rw [this, Bool.and_false]; rfl) (by decide))
        have g1 : ¬ u.name.size < 1 := by omega
        clear hne
        go_wp2_with fail
        go_ret
        exact ⟨by rw [R.out]; rfl, BX.out⟩
      have HN := Lib.hid (show nameB u.name = true by
        unfold nameB
        have e1 : decide (u.name = ⟨#[]⟩) = false := decide_eq_false hne
        have e2 : decide (u.name.size ≤ 24) = true := decide_eq_true (by omega)
        rw [e1, e2]; rfl)
      have g1 : ¬ u.name.size < 1 := by omega
      have NS := Lib.hid (show u.name.size ≤ maxLen by unfold maxLen; omega)
      have NX := Lib.hid (heap_alloc_new wr (.cells #[.string u.name, .string u.parent, .int .i64 u.lim.c, .int .i64 u.lim.m, .int .i64 u.lim.p] 39))
      have n0 : (wr.alloc (.cells #[.string u.name, .string u.parent, .int .i64 u.lim.c, .int .i64 u.lim.m, .int .i64 u.lim.p] 39)).cell? ⟨wr.heap.size, 0, none⟩ = some (.string u.name) := by
        rw [cell_of_row _ _ 0 _ _ _ NX.out]; rfl
      have SX := Lib.hid (SR.out.below (below_al (Below.refl wr.heap.size wr) (.cells #[.string u.name, .string u.parent, .int .i64 u.lim.c, .int .i64 u.lim.m, .int .i64 u.lim.p] 39)))
      have N0 := Lib.hid n0
      clear hne n0 NX
      cases hv : mayV u.lim with
      | false =>
        have R := Lib.hid (show scanE (c1W l) 0 l = 1 from OK.out.err HU.out (by unfold c1W; rw [if_neg (by rw [HN.out]; decide), if_pos hv]) (by decide))
        rw [hv] at MN
        clear hv
        go_wp2_with fail
        with_reducible refine (MN.out _).mono ?_
        rintro e w1 ⟨rfl, h1⟩
        go_wp2_with fail
        go_ret
        exact ⟨by rw [R.out]; rfl, below_tr BX.out h1⟩
      | true =>
        have HV := Lib.hid hv
        rw [hv] at MN
        clear hv
        go_wp2_with fail
        with_reducible refine (MN.out _).mono ?_
        rintro e w1 ⟨rfl, h1⟩
        have n1 := hold h1 N0.out
        have B1 := Lib.hid (below_tr BX.out h1)
        have S1 := Lib.hid (SX.out.below h1)
        clear h1 k0 k1 k2 k3 k4 SX BX N0 SR BR
        have B2 := Lib.hid (below_al (Below.refl w1.heap.size w1) (.cells #[] 65))
        have n2 := hold B2.out n1
        cases hw : (wIdx (l.take k) u.name).isSome with
        | true =>
          have R := Lib.hid (show scanE (c1W l) 0 l = 3 from OK.out.err HU.out (by unfold c1W; rw [if_neg (by rw [HN.out]; decide), if_neg (by rw [HV.out]; decide), if_pos hw]) (by decide))
          have lk := S1.out.look NS.out (b := true) (fun _ => idx_isSome.1 hw) (fun e => by cases e)
          clear hw
          go_wp2_with fail
          go_ret
          exact ⟨by rw [R.out]; rfl, below_tr B1.out B2.out⟩
        | false =>
          have NX := Lib.hid (OK.out.next HU.out (by unfold c1W; rw [if_neg (by rw [HN.out]; decide), if_neg (by rw [HV.out]; decide), if_neg (by rw [hw]; decide)]))
          have lk := S1.out.look NS.out (b := false) (fun e => by cases e) (fun _ h => by rw [idx_isSome.2 h] at hw; cases hw)
          obtain ⟨d, hd, hr⟩ := S1.out.below B2.out
          have HD := Lib.hid hd
          have HR := Lib.hid hr
          clear hw hd hr
          go_wp2_with (first
            | (at_mapUpdate; refine wpList_mapUpdate_own _ rfl _ _ _ 64 rfl 9 65 strKeyedW Try.underlying64 heldW w.heap.size k d rfl HD.out (by unfold maxLen; omega) (.string u.name) (.agg #[]) (keyW u.name) rfl rfl (Go.WideMaps.keyOf_string_mk Try.underlying9 NS.out) _ [] rfl ?_; intro w3 hown3 hgrow3))
          have NM := Lib.hid (show NamRel w l (l.length - (k + 1)) (.int .i64 ((k + 1 : Nat) : Int)) w3 from
            ⟨k + 1, rfl, Nat.le_refl _, hlt, below_grown' (below_tr B1.out B2.out) hgrow3 (fun q e => by simp at e; omega), (SetIn.put (World.ownsMap.isMap HD.out) HR.out hown3).iff (named_step HU.out), NX⟩)
          clear hown3 hgrow3
          go_wp2_with fail
          go_roundg (l.length - (k + 1))
          case rel => exact NM.out
          case measure => have := HM.out; omega
    · obtain rfl : k = l.length := by omega
      have R := Lib.hid OK.out.all
      go_wp2_with fail
      go_ret
      exact ⟨by rw [R.out]; rfl, BR.out⟩
end
end Go.Proofs.Ytmiadhcmhnjmfaa
