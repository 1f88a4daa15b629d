/- Package expand: the binds that an expression asks for. -/
import Derived.Test.YtndeihmclecmcaaGreatDoorEvB
import Derived.Test.YtndeihmclecmcaaGreatDoorOwnW
import Derived.Deep.RegionWith
import Derived.Test.YtndeihmclecmcaaGreatDoorNodA
namespace Go.Proofs.YtndeihmclecmcaaGreatDoor
open Go.RowKit
set_option linter.unusedVariables false
set_option linter.unusedSimpArgs false
/-- A bind with the value of its list. -/
abbrev BP := (ByteArray × VL) × Value
def bpCells (p : BP) : List Value := [.string p.1.1, .int .i64 p.1.2.kind, .int .i64 p.1.2.num, .string p.1.2.text, p.2]
def bpsCells (ps : List BP) : List Value := ps.flatMap bpCells
theorem bps_app (ps qs : List BP) : bpsCells (ps ++ qs) = bpsCells ps ++ bpsCells qs := by simp [bpsCells]
theorem bps_len (ps : List BP) : (bpsCells ps).length = ps.length * 5 := by
  induction ps with
  | nil => rfl
  | cons p ps ih =>
    have e : bpsCells (p :: ps) = bpCells p ++ bpsCells ps := rfl
    have h5 : (bpCells p).length = 5 := rfl
    rw [e, List.length_append, ih, h5, List.length_cons]; omega
theorem bps_at : ∀ (ps : List BP) (i r : Nat) (p : BP) (u : Value), ps[i]? = some p → r < 5 → (bpCells p)[r]? = some u → (bpsCells ps)[i * 5 + r]? = some u := by
  intro ps
  induction ps with
  | nil => intro i r p u h; simp at h
  | cons a ps ih =>
    intro i r p u h hr hu
    have e : bpsCells (a :: ps) = bpCells a ++ bpsCells ps := rfl
    rw [e]
    cases i with
    | zero =>
      simp at h; subst h
      rw [List.getElem?_append_left (by simp [bpCells]; omega)]
      simpa using hu
    | succ i =>
      rw [List.getElem?_append_right (by simp [bpCells]; omega)]
      have h5 : (bpCells a).length = 5 := rfl
      rw [h5, show (i + 1) * 5 + r - 5 = i * 5 + r by omega]
      exact ih i r p u (by simpa using h) hr hu
theorem bps_get : ∀ (ps : List BP) (j : Nat) (u : Value), (bpsCells ps)[j]? = some u → ∃ i r p, j = i * 5 + r ∧ r < 5 ∧ ps[i]? = some p ∧ (bpCells p)[r]? = some u := by
  intro ps
  induction ps with
  | nil => intro j u h; simp [bpsCells] at h
  | cons a ps ih =>
    intro j u h
    have e : bpsCells (a :: ps) = bpCells a ++ bpsCells ps := rfl
    have h5 : (bpCells a).length = 5 := rfl
    rw [e] at h
    by_cases hj : j < 5
    · rw [List.getElem?_append_left (by omega)] at h
      exact ⟨0, j, a, by omega, hj, rfl, h⟩
    · rw [List.getElem?_append_right (by omega), h5] at h
      obtain ⟨i, r, p, e1, hr, hp, hu⟩ := ih _ _ h
      exact ⟨i + 1, r, p, by omega, hr, by simpa using hp, hu⟩
/-- The last values are lists of nothing. -/
def LeafP (ps : List BP) : Prop := ∀ p ∈ ps, p.1.2.kids = [] ∧ ∃ ao cap, p.2 = .slice ao 0 cap
theorem LeafP.nil : LeafP [] := fun p h => by cases h
theorem LeafP.app {ps qs : List BP} (h : LeafP ps) (k : LeafP qs) : LeafP (ps ++ qs) := fun p hp => by
  rcases List.mem_append.1 hp with hp | hp
  · exact h p hp
  · exact k p hp
theorem LeafP.one {ps : List BP} (h : LeafP ps) : ∀ u ∈ bpsCells ps, u.oneCell' = true := by
  intro u hu
  unfold bpsCells at hu
  rw [List.mem_flatMap] at hu
  obtain ⟨p, hp, hu⟩ := hu
  obtain ⟨-, ao, cap, e⟩ := h p hp
  simp only [bpCells, List.mem_cons, List.not_mem_nil, or_false] at hu
  rcases hu with rfl | rfl | rfl | rfl | rfl
  · rfl
  · rfl
  · rfl
  · rfl
  · rw [e]; rfl
theorem binds_of_own {w : World} {B : Nat} {v : Value} {ps : List BP} (h : w.ownsRow B 41 5 v ps.length (bpsCells ps)) (hk : LeafP ps) : BindsRd w 0 v (ps.map (·.1)) := by
  rcases h.2 with ⟨rfl, h0⟩ | ⟨g, cap, cur, rfl, _⟩
  · obtain rfl : ps = [] := List.eq_nil_of_length_eq_zero h0
    exact ⟨none, 0, rfl, fun i b hi => by simp at hi⟩
  · refine ⟨some ⟨g, 0, none⟩, cap, by simp, fun i b hi => ?_⟩
    rw [List.getElem?_map] at hi
    obtain ⟨p, hp, rfl⟩ := Option.map_eq_some_iff.1 hi
    obtain ⟨k1, ao, c, k2⟩ := hk p (List.mem_of_getElem? hp)
    have k : ∀ r u, r < 5 → (bpCells p)[r]? = some u → w.cell? ⟨g, i * 5 + r, none⟩ = some u := by
      intro r u hr hu
      have := World.ownsRow.cells (g := g) h rfl _ u (bps_at ps i r p u hp hr hu)
      have ha : (⟨g, 0, none⟩ : Addr).add (i * 5 + r) = ⟨g, 0 + (i * 5 + r), none⟩ := by unfold Addr.add; split <;> simp_all
      rw [ha, Nat.zero_add] at this
      exact this
    have z0 := k 0 _ (by omega) rfl
    have z1 := k 1 _ (by omega) rfl
    have z2 := k 2 _ (by omega) rfl
    have z3 := k 3 _ (by omega) rfl
    have z4 := k 4 _ (by omega) rfl
    have e0 : p.1.2.kids.length = 0 := by rw [k1]; rfl
    refine ⟨g, 0, ao, c, rfl, ?_, ?_, ?_, ?_, ?_, ?_⟩
    · rw [Nat.zero_add]; simpa using z0
    · rw [Nat.zero_add]; exact z1
    · rw [Nat.zero_add]; exact z2
    · rw [Nat.zero_add]; exact z3
    · rw [Nat.zero_add, e0, ← k2]; exact z4
    · rw [k1]; exact ⟨rfl, ao, c, rfl⟩
theorem binds_src {w : World} {bs : List (ByteArray × VL)} {ao : Option Addr} {n cap : Nat} (h : BindsRd w 0 (.slice ao n cap) bs) :
    ∃ ps : List BP, ps.map (·.1) = bs ∧ ps.length = bs.length ∧ LeafP ps ∧ (ao = none → bs.length = 0) ∧ ∀ ad, ao = some ad → ∀ j u, (bpsCells ps)[j]? = some u → w.cell? (ad.add j) = some u := by
  obtain ⟨ao', cap', e, hc⟩ := h
  simp only [Value.slice.injEq] at e
  obtain ⟨rfl, -, -⟩ := e
  have key : ∀ (bs : List (ByteArray × VL)) (k : Nat) (hc : ∀ (i : Nat) (b : ByteArray × VL), bs[i]? = some b → ∃ (g o : Nat) (bo : Option Addr) (bc : Nat), ao = some ⟨g, o, none⟩ ∧
    w.cell? ⟨g, o + (k + i) * 5, none⟩ = some (.string b.1) ∧ w.cell? ⟨g, o + (k + i) * 5 + 1, none⟩ = some (.int .i64 b.2.kind) ∧ w.cell? ⟨g, o + (k + i) * 5 + 2, none⟩ = some (.int .i64 b.2.num) ∧
    w.cell? ⟨g, o + (k + i) * 5 + 3, none⟩ = some (.string b.2.text) ∧ w.cell? ⟨g, o + (k + i) * 5 + 4, none⟩ = some (.slice bo b.2.kids.length bc) ∧ RowRd w 0 b.2.kids (.slice bo b.2.kids.length bc)),
      ∃ ps : List BP, ps.map (·.1) = bs ∧ LeafP ps ∧ ∀ i p, ps[i]? = some p → ∃ g o, ao = some ⟨g, o, none⟩ ∧ ∀ r u, r < 5 → (bpCells p)[r]? = some u → w.cell? ⟨g, o + ((k + i) * 5 + r), none⟩ = some u := by
    intro bs
    induction bs with
    | nil => intro k _; exact ⟨[], rfl, LeafP.nil, fun i p h => by simp at h⟩
    | cons b bs ih =>
      intro k hc
      obtain ⟨ps, h1, h2, h3⟩ := ih (k + 1) (fun i b hi => by
        have := hc (i + 1) b (by simpa using hi)
        rwa [show k + (i + 1) = k + 1 + i by omega] at this)
      obtain ⟨g, o, bo, bc, e, c0, c1, c2, c3, c4, hr⟩ := hc 0 b rfl
      obtain ⟨hk, xo, xc, e5⟩ := hr
      refine ⟨(b, .slice bo b.2.kids.length bc) :: ps, by simp [h1], ?_, ?_⟩
      · intro p hp
        rcases List.mem_cons.1 hp with rfl | hp
        · exact ⟨hk, bo, bc, by show Value.slice bo b.2.kids.length bc = _; rw [hk]; rfl⟩
        · exact h2 p hp
      · intro i p hp
        cases i with
        | zero =>
          simp at hp; subst hp
          refine ⟨g, o, e, fun r u hr hu => ?_⟩
          match r, hr, hu with
          | 0, _, hu => simp [bpCells] at hu; rw [← hu]; exact c0
          | 1, _, hu => simp [bpCells] at hu; rw [← hu, ← Nat.add_assoc]; exact c1
          | 2, _, hu => simp [bpCells] at hu; rw [← hu, ← Nat.add_assoc]; exact c2
          | 3, _, hu => simp [bpCells] at hu; rw [← hu, ← Nat.add_assoc]; exact c3
          | 4, _, hu => simp [bpCells] at hu; rw [← hu, ← Nat.add_assoc]; exact c4
          | n + 5, hr, _ => omega
        | succ i =>
          obtain ⟨g', o', e', hc'⟩ := h3 i p (by simpa using hp)
          exact ⟨g', o', e', fun r u hr hu => by rw [show k + (i + 1) = k + 1 + i by omega]; exact hc' r u hr hu⟩
  obtain ⟨ps, h1, h2, h3⟩ := key bs 0 (fun i b hi => by rw [Nat.zero_add]; exact hc i b hi)
  have hlen : ps.length = bs.length := by rw [← h1]; simp
  refine ⟨ps, h1, hlen, h2, fun hn => ?_, fun ad had j u hj => ?_⟩
  · cases ps with
    | nil => rw [← hlen]; rfl
    | cons p ps =>
      obtain ⟨g, o, e, -⟩ := h3 0 p rfl
      rw [hn] at e; cases e
  · obtain ⟨i, r, p, rfl, hr, hp, hu⟩ := bps_get ps j u hj
    obtain ⟨g, o, e, hcc⟩ := h3 i p hp
    rw [had] at e
    cases e
    have ha : (⟨g, o, none⟩ : Addr).add (i * 5 + r) = ⟨g, o + (i * 5 + r), none⟩ := by unfold Addr.add; split <;> simp_all
    rw [ha]
    have := hcc r u hr hu
    rwa [Nat.zero_add] at this
section
variable {P : Program} (w : World) {ops : Array Oper} {rest : List Oper} {o : Oper} {a : Act} {Q : Exit → Act → World → Prop}
theorem wpList_lookup_names (hg : o.guard = none) (m x : Operand) (hop : o.op = Op.lookup 69 m x true)
    (b n : Nat) (d : DataW Value) (hm : a.eval m = .map (some b)) (hown : w.ownsMap Tryz.prog 9 heldV b n d) (s : ByteArray) (hx : a.eval x = .string s) (hs : s.size ≤ maxLen) (v : Value) (hat : d.atKey (keyLit s) (.held zeroV) = .held v) (h : Bool) (hh : Maps.has d (keyLit s) = h)
    (hK : wpList Tryz.prog ops Q rest (a.put o.dst (.tuple #[v, .bool h])) w) :
    wpList Tryz.prog ops Q (o :: rest) a w :=
  wpList_lookup_own_ok w hg m x 69 hop 9 39 strKeyed Tryz.underlying69 heldV (zeroVal_run w) (.held zeroV) [] rfl b n d hm hown (.string s) (keyLit s) hx (Go.WideMaps.keyOf_string_mk Tryz.underlying9 hs) (fun u ps hu => by
    rw [hat] at hu
    simp only [heldV, Option.some.injEq, Prod.mk.injEq, DataW.held.injEq] at hu
    rw [hu.1, hh]
    exact hK)
end
section
variable (w : World)
set_option maxRecDepth 20000 in
theorem phave (g n : Nat) (L : ByteArray → Option VL) (h : ScopeAt w 0 g n L) (s : ByteArray) (hs : s.size ≤ maxLen) :
    Calls Tryz.prog 22 #[.map (some g), .string s] w (Made (.bool (L s).isSome) w) := by
  have HL := Lib.hid hs
  have hlt := h.lt
  obtain ⟨d, hm, hx⟩ := h
  have M0 := Lib.hid hm
  cases hl : L s with
  | none =>
    obtain ⟨h1, h2⟩ := (hx s).1 hl
    have H1 := Lib.hid h1
    have H2 := Lib.hid h2
    clear hs hx hm hl h1 h2
    unfold zeroV at H2
    go_enter Tryz.func22, Tryz.ntmps22
    go_wp2_with (at_lookup; refine wpList_lookup_names _ rfl _ _ rfl g n d rfl (by first | exact M0.out | exact World.ownsMap.alloc M0.out _) s rfl HL.out _ H2.out false H1.out ?_)
    go_ret
    exact ⟨rfl, by first | exact Below.refl _ _ | exact below_al (Below.refl _ _) _⟩
  | some v =>
    obtain ⟨h1, hi, lv, h2, h3⟩ := (hx s).2 v hl
    obtain ⟨ao, cap, rfl⟩ := h3.shape
    have H1 := Lib.hid h1
    have H2 := Lib.hid h2
    clear hs hx hm hl h1 h2 h3
    unfold VL.val at H2
    go_enter Tryz.func22, Tryz.ntmps22
    go_wp2_with (at_lookup; refine wpList_lookup_names _ rfl _ _ rfl g n d rfl (by first | exact M0.out | exact World.ownsMap.alloc M0.out _) s rfl HL.out _ H2.out true H1.out ?_)
    go_ret
    exact ⟨rfl, by first | exact Below.refl _ _ | exact below_al (Below.refl _ _) _⟩
end
end Go.Proofs.YtndeihmclecmcaaGreatDoor
namespace Go.Proofs.YtndeihmclecmcaaGreatDoor
open Go.RowKit
set_option linter.unusedVariables false
set_option linter.unusedSimpArgs false
theorem info_bindW : (Tryz.prog.info? 41).map (fun i => (i.zero, i.size, i.bytes)) = some (some (.agg #[.string ⟨#[]⟩, .int .i64 0, .int .i64 0, .string ⟨#[]⟩, .slice none 0 0]), 5, 72) := by kernel_rfl
theorem made_one (n : Nat) : ∀ u ∈ (madeCells (#[.string ⟨#[]⟩, .int .i64 0, .int .i64 0, .string ⟨#[]⟩, .slice none 0 0] : Array Value) n).toList, u.oneCell' = true := by
  intro u hu
  simp only [madeCells, Array.toList_map, List.mem_map] at hu
  obtain ⟨i, -, rfl⟩ := hu
  have h5 : i % 5 < 5 := Nat.mod_lt _ (by omega)
  show ((#[.string ⟨#[]⟩, .int .i64 0, .int .i64 0, .string ⟨#[]⟩, .slice none 0 0] : Array Value)[i % 5]!).oneCell' = true
  match i % 5, h5 with
  | 0, _ => rfl
  | 1, _ => rfl
  | 2, _ => rfl
  | 3, _ => rfl
  | 4, _ => rfl
  | n + 5, h => omega
theorem own_take5 {w : World} {B : Nat} {ao : Option Addr} {m cap : Nat} {xs : List Value} (h : w.ownsRow B 41 5 (.slice ao m cap) m xs) :
    sliced ao 0 0 cap 5 = .slice ao 0 cap ∧ w.ownsRow B 41 5 (.slice ao 0 cap) 0 [] := by
  rcases h.2 with ⟨e, h0⟩ | ⟨g, cap', cur, e, hB, hg, hmc, hcm, hsz, htk⟩
  · simp at e
    obtain ⟨rfl, -, rfl⟩ := e
    exact ⟨rfl, World.ownsRow_nil _ _ _ _⟩
  · simp at e
    obtain ⟨rfl, rfl⟩ := e
    refine ⟨?_, rfl, .inr ⟨g, cap, cur, rfl, hB, hg, by omega, hcm, hsz, by simp⟩⟩
    unfold sliced
    have : ((⟨g, 0, none⟩ : Addr).add (0 * 5)) = ⟨g, 0, none⟩ := by simp [Addr.add]
    split <;> simp [this]
theorem zeroCells_sizeW (z : Array Value) (n : Nat) : (Builtin.zeroCells z n).size = n * z.size := by
  simp [Builtin.zeroCells]
section
variable (w : World)
set_option maxHeartbeats 1000000 in
set_option maxRecDepth 20000 in
theorem pgrow (n : Nat) (hn : n ≤ 100000) : Calls Tryz.prog 159 #[.slice none 0 0, .int .i64 n] w fun e w' => ∃ v, e = .returned v ∧ Below w.heap.size w w' ∧ w'.ownsRow w.heap.size 41 5 v 0 [] := by
  obtain ⟨i0, hi0, hz0, hz1, hz2⟩ := info_parts info_bindW
  have hm1 : ∀ W : World, (Instr.makeSlice 36 (.int .i64 (n : Int)) (.int .i64 (n : Int))).run Tryz.prog W = .ok (.slice (some ⟨W.heap.size, 0, none⟩) n n) (W.alloc (.cells (madeCells (#[.string ⟨#[]⟩, .int .i64 0, .int .i64 0, .string ⟨#[]⟩, .slice none 0 0] : Array Value) (n * 5)) 41)) := fun W => by
    have := run_make (P := Tryz.prog) W 36 41 i0 _ Tryz.underlying36 hi0 hz0 .i64 .i64 n n (by omega) (Int.le_refl _) (by rw [hz2]; omega) (by omega)
    rw [hz1, Int.toNat_natCast] at this
    exact this
  by_cases h0 : n = 0
  · subst h0
    go_enter Tryz.func159, Tryz.ntmps159
    go_wp2_with fail
    go_ret
    exact ⟨_, rfl, Below.refl _ _, own_none _ _ _ _⟩
  · have hp : 0 < n := by omega
    have hpi : (0 : Int) < (n : Int) := by omega
    have hby := Lib.hid (show Tryz.t41.bytes = 72 by kernel_rfl)
    have hnx := Lib.hid (show Builtin.nextslicecap n 0 = n by unfold Builtin.nextslicecap; rw [if_pos (by omega)])
    have hc1 := Lib.hid (grownCap_ge w n 0 41)
    have hc2 := Lib.hid (grownCap_le_maxLen w n 0 41 (by unfold maxLen; omega))
    clear hm1 hi0 hz0 hz1 hz2
    go_enter Tryz.func159, Tryz.ntmps159
    go_wp2_with fail
    all_goals replace hby := hby.out
    all_goals replace hnx := hnx.out
    all_goals try (exfalso; simp only [hby, hnx] at *; omega)
    all_goals
      go_ret
      refine ⟨_, rfl, below_drew (below_al (Below.refl _ _) _), rfl, .inr ⟨w.heap.size, _, _, rfl, Nat.le_refl _, heap_alloc_new w _, Nat.zero_le _, hc2.out, ?_, by simp⟩⟩
      have h1 := hc1.out
      unfold grownCap at h1
      simp only [Array.size_append, zeroCells_sizeW]
      show n * 5 + _ * 5 = _
      omega
set_option maxHeartbeats 1000000 in
set_option maxRecDepth 20000 in
/-- Two rows of binds, one behind the other. -/
theorem pconcat2 (g0 o0 c0 : Nat) (av bv : Value) (xs ys : List (ByteArray × VL)) (ha : BindsRd w 0 av xs) (hb : BindsRd w 0 bv ys) (hla : xs.length ≤ 1000) (hlb : ys.length ≤ 1000) (h0 : w.cell? ⟨g0, o0, none⟩ = some av) (h1 : w.cell? ⟨g0, o0 + 1, none⟩ = some bv) :
    Calls Tryz.prog 132 #[.slice (some ⟨g0, o0, none⟩) 2 c0] w fun e w' => ∃ (v : Value) (ps : List BP), e = .returned v ∧ Below w.heap.size w w' ∧ w'.ownsRow w.heap.size 41 5 v ps.length (bpsCells ps) ∧ ps.map (·.1) = xs ++ ys ∧ LeafP ps := by
  obtain ⟨i0, hi0, hz0, hz1, hz2⟩ := info_parts info_bindW
  have HA := Lib.hid ha
  have HB := Lib.hid hb
  obtain ⟨ao, ac, rfl, -⟩ := ha
  obtain ⟨bo, bc, rfl, -⟩ := hb
  obtain ⟨pa, a1, a2, a3, a4, a5⟩ := binds_src HA.out
  obtain ⟨pb, b1, b2, b3, b4, b5⟩ := binds_src HB.out
  have PA := Lib.hid (And.intro a1 (And.intro a2 (And.intro a3 (And.intro a4 a5))))
  have PB := Lib.hid (And.intro b1 (And.intro b2 (And.intro b3 (And.intro b4 b5))))
  clear a1 a2 a3 a4 a5 b1 b2 b3 b4 b5 HA HB
  go_enter Tryz.func132, Tryz.ntmps132
  go_wp2_with fail
  go_loopg [3, 11] 2 (fun m sv iv wr => w = wr ∧ ((iv = .int .i64 0 ∧ sv = .int .i64 0 ∧ 2 ≤ m) ∨ (iv = .int .i64 1 ∧ sv = .int .i64 (xs.length : Nat) ∧ 1 ≤ m) ∨ (iv = .int .i64 2 ∧ sv = .int .i64 ((xs.length : Int) + (ys.length : Int)))))
  case atStart => exact ⟨rfl, .inl ⟨rfl, rfl, Nat.le_refl _⟩⟩
  case round =>
    obtain ⟨rfl, h⟩ := hrel
    rcases h with ⟨rfl, rfl, hm⟩ | ⟨rfl, rfl, hm⟩ | ⟨rfl, rfl⟩
    · have HM := Lib.hid hm
      clear hm
      go_wp2_with fail
      go_roundg 1
      case rel => exact ⟨rfl, .inr (.inl ⟨rfl, rfl, Nat.le_refl _⟩)⟩
      case measure => have := HM.out; omega
    · have HM := Lib.hid hm
      clear hm
      have e0 : ¬ (xs.length : Int) + (ys.length : Int) < 0 := by omega
      go_wp2_with fail
      go_roundg 0
      case rel => exact ⟨rfl, .inr (.inr ⟨rfl, rfl⟩)⟩
      case measure => have := HM.out; omega
    · go_wp2_with fail
      have PG := Lib.hid (pgrow w (xs.length + ys.length) (by omega))
      rw [Int.natCast_add] at PG
      refine PG.out.mono ?_
      rintro e w1 ⟨v, rfl, hb1, ho1⟩
      have B1 := Lib.hid hb1
      have O1 := Lib.hid ho1
      obtain ⟨vo, vc, rfl⟩ := own_len ho1
      clear hb1 ho1 PG
      go_wp2_with fail
      go_loopg [6, 27] 2 (fun m rv iv w2 => ∃ v2, rv = v2 ∧ Below w.heap.size w w2 ∧ ((iv = .int .i64 0 ∧ w2.ownsRow w.heap.size 41 5 v2 ([] : List BP).length (bpsCells []) ∧ 2 ≤ m) ∨ (iv = .int .i64 1 ∧ w2.ownsRow w.heap.size 41 5 v2 pa.length (bpsCells pa) ∧ 1 ≤ m) ∨ (iv = .int .i64 2 ∧ w2.ownsRow w.heap.size 41 5 v2 (pa ++ pb).length (bpsCells (pa ++ pb)))))
      case atStart => exact ⟨_, rfl, B1.out, .inl ⟨rfl, O1.out, Nat.le_refl _⟩⟩
      case round =>
        obtain ⟨v2, rfl, hb2, h⟩ := hrel
        rcases h with ⟨rfl, ho2, hm⟩ | ⟨rfl, ho2, hm⟩ | ⟨rfl, ho2⟩
        · have HM := Lib.hid hm
          have B2 := Lib.hid hb2
          have O2 := Lib.hid ho2
          obtain ⟨ro, rc, rfl⟩ := own_len ho2
          clear hm hb2 ho2
          have k0 := hold B2.out h0
          have k1 := hold B2.out h1
          have LT := Lib.hid (fun k hk => (World.ownsRow.lt O2.out k hk).1)
          go_wp2_with (at_builtin; refine wpList_append_any _ rfl _ _ 36 rfl w.heap.size 41 i0 _ 5 72 Tryz.underlying36 hi0 hz0 hz1 hz2 rfl (by decide) (.slice ro ([] : List BP).length rc) ([] : List BP).length (bpsCells ([] : List BP)) rfl O2.out ao xs.length ac (bpsCells pa) rfl (by rw [bps_len, PA.out.2.1]) PA.out.2.2.2.1 (fun ad had j u hj => hold B2.out (PA.out.2.2.2.2 ad had j u hj)) PA.out.2.2.1.one (by unfold maxLen; simp; omega) (by simp; omega) B2.out.size ?_; intro v' w6 hown hgrow)
          have O6 := Lib.hid (show w6.ownsRow w.heap.size 41 5 v' pa.length (bpsCells pa) by rw [PA.out.2.1]; simpa [bpsCells] using hown)
          have B6 := Lib.hid (Below.grown B2.out hgrow B2.out.size (fun k hk => LT.out k hk))
          clear hown hgrow
          go_roundg 1
          case rel => exact ⟨_, rfl, B6.out, .inr (.inl ⟨rfl, O6.out, Nat.le_refl _⟩)⟩
          case measure => have := HM.out; omega
        · have HM := Lib.hid hm
          have B2 := Lib.hid hb2
          have O2 := Lib.hid ho2
          obtain ⟨ro, rc, rfl⟩ := own_len ho2
          clear hm hb2 ho2
          have k0 := hold B2.out h0
          have k1 := hold B2.out h1
          have LT := Lib.hid (fun k hk => (World.ownsRow.lt O2.out k hk).1)
          go_wp2_with (at_builtin; refine wpList_append_any _ rfl _ _ 36 rfl w.heap.size 41 i0 _ 5 72 Tryz.underlying36 hi0 hz0 hz1 hz2 rfl (by decide) (.slice ro pa.length rc) pa.length (bpsCells pa) rfl O2.out bo ys.length bc (bpsCells pb) rfl (by rw [bps_len, PB.out.2.1]) PB.out.2.2.2.1 (fun ad had j u hj => hold B2.out (PB.out.2.2.2.2 ad had j u hj)) PB.out.2.2.1.one (by unfold maxLen; rw [PA.out.2.1]; omega) (by rw [PA.out.2.1]; omega) B2.out.size ?_; intro v' w6 hown hgrow)
          have O6 := Lib.hid (show w6.ownsRow w.heap.size 41 5 v' (pa ++ pb).length (bpsCells (pa ++ pb)) by rw [bps_app, List.length_append, PB.out.2.1]; exact hown)
          have B6 := Lib.hid (Below.grown B2.out hgrow B2.out.size (fun k hk => LT.out k hk))
          clear hown hgrow
          go_roundg 0
          case rel => exact ⟨_, rfl, B6.out, .inr (.inr ⟨rfl, O6.out⟩)⟩
          case measure => have := HM.out; omega
        · have O2 := Lib.hid ho2
          have B2 := Lib.hid hb2
          clear ho2 hb2
          go_wp2_with fail
          go_ret
          exact ⟨_, _, rfl, B2.out, O2.out, by rw [List.map_append, PA.out.1, PB.out.1], PA.out.2.2.1.app PB.out.2.2.1⟩
end
end Go.Proofs.YtndeihmclecmcaaGreatDoor
namespace Go.Proofs.YtndeihmclecmcaaGreatDoor
open Go.RowKit
set_option linter.unusedVariables false
set_option linter.unusedSimpArgs false
def askOne (L : ByteArray → Option VL) (x : ByteArray) : List (ByteArray × VL) := match L x with | some v => [(x, v)] | none => []
def askParts (L : ByteArray → Option VL) (ps : List PartL) : List (ByteArray × VL) := ps.flatMap fun p => if p.1 then askOne L p.2 else []
def askNode (L : ByteArray → Option VL) (n : NodeL) : List (ByteArray × VL) := (if n.kind = 4 then askOne L n.text else []) ++ askParts L n.parts
/-- The binds that nodes ask for. -/
def askedL (L : ByteArray → Option VL) (ns : List NodeL) : List (ByteArray × VL) := ns.flatMap (askNode L)
/-- Not many nodes, nor long ones. -/
structure Tame (ns : List NodeL) : Prop where
  few : ns.length ≤ 1000
  text : ∀ n ∈ ns, n.text.size ≤ 100000
  parts : ∀ n ∈ ns, n.parts.length ≤ 1000
  part : ∀ n ∈ ns, ∀ p ∈ n.parts, p.2.size ≤ 100000
/-- The boxes of a walk for binds: the names, the row so far. -/
structure AkAt (w : World) (g nn : Nat) (L : ByteArray → Option VL) (ps : List BP) (wr : World) (rv : Value) : Prop where
  box0 : wr.heap[w.heap.size]? = some (.cells #[.map (some g)] 69 (0, 0))
  box1 : wr.heap[w.heap.size + 1]? = some (.cells #[rv] 36 (0, 0))
  row : wr.ownsRow w.heap.size 41 5 rv ps.length (bpsCells ps)
  leaf : LeafP ps
  below : Below w.heap.size w wr
theorem own_typeW {w : World} {B e z n g : Nat} {v : Value} {xs : List Value} (h : w.ownsRow B e z v n xs) (hg : v.ownBlock = some g) : ∃ c, w.heap[g]? = some (.cells c e (0, 0)) := by
  rcases h.2 with ⟨rfl, h0⟩ | ⟨g', cap, cur, rfl, hB, hg', r⟩
  · cases hg
  · simp [Value.ownBlock] at hg
    subst hg
    exact ⟨cur, hg'⟩
theorem AkAt.ne {w wr : World} {g nn : Nat} {L : ByteArray → Option VL} {ps : List BP} {rv : Value} (h : AkAt w g nn L ps wr rv) : ∀ k, rv.ownBlock = some k → w.heap.size + 1 < k := by
  intro k hk
  obtain ⟨c, hc⟩ := own_typeW h.row hk
  have h1 := (World.ownsRow.lt h.row k hk).1
  have n0 : k ≠ w.heap.size := by
    rintro rfl
    rw [h.box0] at hc
    simp at hc
  have n1 : k ≠ w.heap.size + 1 := by
    rintro rfl
    rw [h.box1] at hc
    simp at hc
  omega
theorem AkAt.alloc {w wr : World} {g nn : Nat} {L : ByteArray → Option VL} {ps : List BP} {rv : Value} (h : AkAt w g nn L ps wr rv) (O : Obj) : AkAt w g nn L ps (wr.alloc O) rv :=
  ⟨(heap_alloc_old wr O (Array.getElem?_eq_some_iff.1 h.box0).1).trans h.box0, (heap_alloc_old wr O (Array.getElem?_eq_some_iff.1 h.box1).1).trans h.box1, h.row.alloc O, h.leaf, below_al h.below O⟩
theorem own_heapW {w w' : World} {B e z n : Nat} {v : Value} {xs : List Value} (h : w.ownsRow B e z v n xs) (hb : ∀ g, v.ownBlock = some g → w'.heap[g]? = w.heap[g]?) : w'.ownsRow B e z v n xs := by
  refine ⟨h.1, ?_⟩
  rcases h.2 with hn | ⟨g, cap, cur, rfl, hB, hg, r⟩
  · exact .inl hn
  · exact .inr ⟨g, cap, cur, rfl, hB, (hb g (by simp [Value.ownBlock])).trans hg, r⟩
theorem AkAt.put {w wx w6 : World} {g nn : Nat} {L : ByteArray → Option VL} {ps : List BP} {rv v' : Value} {q : BP} (h : AkAt w g nn L ps wx rv) (hg : wx.grownBy w6 rv.ownBlock) (ho : w6.ownsRow w.heap.size 41 5 v' (ps.length + 1) (bpsCells ps ++ bpCells q)) (hq : LeafP [q]) :
    AkAt w g nn L (ps ++ [q]) (w6.setCell ⟨w.heap.size + 1, 0, none⟩ v') v' := by
  have n := h.ne
  have l0 := (Array.getElem?_eq_some_iff.1 h.box0).1
  have l1 := (Array.getElem?_eq_some_iff.1 h.box1).1
  have x0 := (hg.block _ l0 (fun q => absurd (n _ q.symm) (by omega))).trans h.box0
  have x1 := (hg.block _ l1 (fun q => absurd (n _ q.symm) (by omega))).trans h.box1
  have n2 : ∀ k, v'.ownBlock = some k → k ≠ w.heap.size + 1 := by
    rintro k hk rfl
    obtain ⟨c, hc⟩ := own_typeW ho hk
    rw [x1] at hc
    simp at hc
  refine ⟨(heap_setCell_other w6 ⟨w.heap.size + 1, 0, none⟩ w.heap.size v' (by simp)).trans x0, ?_, ?_, h.leaf.app hq, ?_⟩
  · rw [heap_setCell_same w6 _ 0 _ _ v' x1]
    rfl
  · refine own_heapW ?_ fun k hk => heap_setCell_other w6 ⟨w.heap.size + 1, 0, none⟩ k v' (n2 k hk)
    rw [bps_app, List.length_append]
    simpa [bpsCells] using ho
  · exact (Below.grown h.below hg h.below.size (fun k hk => by have := n k hk; omega)).setCell (by show w.heap.size ≤ w.heap.size + 1; omega) _
section
variable (w : World)
set_option maxHeartbeats 1000000 in
set_option maxRecDepth 20000 in
theorem pask (g nn : Nat) (L : ByteArray → Option VL) (hs : ScopeAt w 0 g nn L) (ps : List BP) (wr : World) (rv : Value) (h : AkAt w g nn L ps wr rv) (x : ByteArray) (hx : x.size ≤ 100000) (hl : ps.length ≤ 1100000) :
    Calls Tryz.prog 52 #[.string x, .pointer (some ⟨w.heap.size, 0, none⟩), .pointer (some ⟨w.heap.size + 1, 0, none⟩)] wr fun e w' => e = .returned (.tuple #[]) ∧ ∃ rv' qs, AkAt w g nn L (ps ++ qs) w' rv' ∧ qs.map (·.1) = askOne L x ∧ ∀ k, k < wr.heap.size → w.heap.size + 1 < k → some k ≠ rv.ownBlock → w'.heap[k]? = wr.heap[k]? := by
  obtain ⟨i0, hi0, hz0, hz1, hz2⟩ := info_parts info_bindW
  have H := Lib.hid h
  have SB := Lib.hid (hs.below h.below)
  have c0 := cell_of_row _ _ 0 _ _ _ h.box0
  have c1 := cell_of_row _ _ 0 _ _ _ h.box1
  simp at c0 c1
  have HX := Lib.hid (show x.size ≤ maxLen by unfold maxLen; omega)
  obtain ⟨ro, rc, rfl⟩ := own_len h.row
  obtain ⟨d, hm, hd⟩ := hs.below h.below
  have M0 := Lib.hid hm
  clear h
  cases hL : L x with
  | none =>
    obtain ⟨h1, h2⟩ := (hd x).1 hL
    have H1 := Lib.hid h1
    have H2 := Lib.hid h2
    have E := Lib.hid (show askOne L x = [] by unfold askOne; rw [hL])
    clear hd hm hL h1 h2 hs
    unfold zeroV at H2
    go_enter Tryz.func52, Tryz.ntmps52
    go_wp2_with (at_lookup; refine wpList_lookup_names _ rfl _ _ rfl g nn d rfl (by first | exact M0.out | exact World.ownsMap.alloc M0.out _) x rfl HX.out _ H2.out false H1.out ?_)
    exact bodyPost_end (v := .tuple #[]) (by simp [results, Tryz.results52, go_sem]) rfl ⟨rfl, _, [], by rw [List.append_nil]; exact H.out.alloc _, E.out.symm, fun k hk _ _ => heap_alloc_old _ _ hk⟩
  | some v =>
    obtain ⟨h1, hi, lv, h2, h3⟩ := (hd x).2 v hL
    obtain ⟨hk, ao, cap, rfl⟩ := h3
    have H1 := Lib.hid h1
    have H2 := Lib.hid h2
    have HK := Lib.hid hk
    have E := Lib.hid (show askOne L x = [(x, v)] by unfold askOne; rw [hL])
    have NE := Lib.hid H.out.ne
    clear hd hm hL h1 h2 hs hk
    unfold VL.val at H2
    have e1 : ∀ W : World, (W.alloc (.cells #[.int .i64 v.kind, .int .i64 v.num, .string v.text, .slice ao 0 cap] 39)).heap.size = W.heap.size + 1 := fun W => by simp
    have B2 := Lib.hid (H.out.alloc (.cells #[.int .i64 v.kind, .int .i64 v.num, .string v.text, .slice ao 0 cap] 39) |>.alloc (.cells #[.string x, .int .i64 v.kind, .int .i64 v.num, .string v.text, .slice ao 0 cap] 41))
    have NW := Lib.hid (news_new (wr.alloc (.cells #[.int .i64 v.kind, .int .i64 v.num, .string v.text, .slice ao 0 cap] 39)) #[.string x, .int .i64 v.kind, .int .i64 v.num, .string v.text, .slice ao 0 cap] 41)
    rw [e1] at NW
    clear e1
    have c1a : (wr.alloc (.cells #[.int .i64 v.kind, .int .i64 v.num, .string v.text, .slice ao 0 cap] 39)).cell? ⟨w.heap.size + 1, 0, none⟩ = some (.slice ro ps.length rc) := hold (below_al (Below.refl _ _) _) c1
    go_enter Tryz.func52, Tryz.ntmps52
    go_wp2_with (first
      | (at_lookup; refine wpList_lookup_names _ rfl _ _ rfl g nn d rfl (by first | exact M0.out | exact World.ownsMap.alloc M0.out _) x rfl HX.out _ H2.out true H1.out ?_)
      | (at_builtin; refine wpList_append_own _ rfl _ _ 36 rfl w.heap.size 41 i0 _ 5 72 Tryz.underlying36 hi0 hz0 hz1 hz2 rfl (by decide) (.slice ro ps.length rc) ps.length (bpsCells ps) rfl B2.out.row ⟨wr.heap.size + 1, 0, none⟩ 1 1 [.string x, .int .i64 v.kind, .int .i64 v.num, .string v.text, .slice ao 0 cap] rfl rfl ?a1 ?b1 ?c1 ?d1 ?e1 ?_; rotate_right; intro v' w6 hown hgrow _; obtain ⟨no, nc, rfl⟩ := own_len hown; have c6 := cell_of_row _ _ 0 _ _ _ ((hgrow.block (w.heap.size + 1) (Array.getElem?_eq_some_iff.1 B2.out.box1).1 (fun q => absurd (NE.out _ q.symm) (Nat.lt_irrefl _))).trans B2.out.box1); have f6 := frozen_of_row _ _ 0 _ _ ((hgrow.block (w.heap.size + 1) (Array.getElem?_eq_some_iff.1 B2.out.box1).1 (fun q => absurd (NE.out _ q.symm) (Nat.lt_irrefl _))).trans B2.out.box1); simp at c6))
    case b1 => simp [Value.oneCell']
    case c1 => unfold maxLen; omega
    case d1 => omega
    case e1 => have := H.out.below.size; simp; omega
    exact bodyPost_end (v := .tuple #[]) (by simp [results, Tryz.results52, go_sem]) rfl ⟨rfl, _, [((x, v), .slice ao 0 cap)], B2.out.put hgrow hown (fun p hp => by
      obtain rfl := List.mem_singleton.1 hp
      exact ⟨HK.out, ao, cap, rfl⟩), by rw [E.out]; rfl, fun k hk h1 h2 => by
        rw [heap_setCell_other _ _ _ _ (by show k ≠ w.heap.size + 1; omega), hgrow.block k (by simp; omega) h2, heap_alloc_old _ _ (by simp; omega), heap_alloc_old _ _ hk]⟩
def AkRel (w : World) (g nn : Nat) (L : ByteArray → Option VL) (ns : List NodeL) (m : Nat) (iv : Value) (wr : World) : Prop :=
  ∃ (j : Nat) (rv : Value) (ps : List BP), iv = .int .i64 j ∧ ns.length - j ≤ m ∧ j ≤ ns.length ∧ AkAt w g nn L ps wr rv ∧ ps.map (·.1) = askedL L (ns.take j)
def ApRel (w : World) (g nn : Nat) (L : ByteArray → Option VL) (hd : List (ByteArray × VL)) (qs : List PartL) (m : Nat) (iv : Value) (wr : World) : Prop :=
  ∃ (j : Nat) (rv : Value) (ps : List BP), iv = .int .i64 j ∧ qs.length - j ≤ m ∧ j ≤ qs.length ∧ AkAt w g nn L ps wr rv ∧ ps.map (·.1) = hd ++ askParts L (qs.take j)
theorem askOne_len (L : ByteArray → Option VL) (x : ByteArray) : (askOne L x).length ≤ 1 := by unfold askOne; split <;> simp
theorem askParts_len (L : ByteArray → Option VL) (ps : List PartL) : (askParts L ps).length ≤ ps.length := by
  induction ps with
  | nil => simp [askParts]
  | cons p ps ih =>
    have e : askParts L (p :: ps) = (if p.1 then askOne L p.2 else []) ++ askParts L ps := rfl
    have := askOne_len L p.2
    rw [e, List.length_append, List.length_cons]
    split
    · omega
    · simp; omega
theorem parts_cellW {w : World} {ps : List PartL} {ao : Option Addr} {n cap : Nat} (h : PartsRd w (.slice ao n cap) ps) {q : Nat} {p : PartL} (hp : ps[q]? = some p) : ∃ g o, ao = some ⟨g, o, none⟩ ∧ w.cell? ⟨g, o + q * 2, none⟩ = some (.bool p.1) ∧ w.cell? ⟨g, o + q * 2 + 1, none⟩ = some (.string p.2) := by
  obtain ⟨ao', cap', e, hc⟩ := h
  simp only [Value.slice.injEq] at e
  obtain ⟨rfl, -, -⟩ := e
  have key : ∀ (ps : List PartL) (q : Nat), ps[q]? = some p → (partCells ps)[q * 2]? = some (.bool p.1) ∧ (partCells ps)[q * 2 + 1]? = some (.string p.2) := by
    intro ps
    induction ps with
    | nil => intro q h; simp at h
    | cons a ps ih =>
      intro q h
      have e : partCells (a :: ps) = .bool a.1 :: .string a.2 :: partCells ps := rfl
      rw [e]
      cases q with
      | zero => simp at h; subst h; exact ⟨rfl, rfl⟩
      | succ q =>
        have := ih q (by simpa using h)
        rw [show (q + 1) * 2 = q * 2 + 1 + 1 by omega, show q * 2 + 1 + 1 + 1 = (q * 2 + 1) + 1 + 1 by omega]
        simpa using this
  obtain ⟨k0, k1⟩ := key ps q hp
  obtain ⟨g, o, e0, c0⟩ := hc _ _ k0
  obtain ⟨g', o', e1, c1⟩ := hc _ _ k1
  rw [e0] at e1
  simp at e1
  obtain ⟨rfl, rfl⟩ := e1
  exact ⟨g, o, e0, c0, by rw [Nat.add_assoc]; exact c1⟩
theorem askedL_len (L : ByteArray → Option VL) (ns : List NodeL) (hp : ∀ n ∈ ns, n.parts.length ≤ 1000) : (askedL L ns).length ≤ ns.length * 1001 := by
  have h1 : ∀ x, (askOne L x).length ≤ 1 := fun x => by unfold askOne; split <;> simp
  have h2 : ∀ ps : List PartL, (askParts L ps).length ≤ ps.length := fun ps => by
    induction ps with
    | nil => simp [askParts]
    | cons p ps ih =>
      have e : askParts L (p :: ps) = (if p.1 then askOne L p.2 else []) ++ askParts L ps := rfl
      have := h1 p.2
      rw [e, List.length_append, List.length_cons]
      split
      · omega
      · simp; omega
  induction ns with
  | nil => simp [askedL]
  | cons n ns ih =>
    have e : askedL L (n :: ns) = askNode L n ++ askedL L ns := rfl
    have := ih (fun m hm => hp m (List.mem_cons_of_mem _ hm))
    have k := h2 n.parts
    have k2 := hp n (by simp)
    have k3 : (askNode L n).length ≤ 1001 := by
      unfold askNode
      have := h1 n.text
      rw [List.length_append]
      split
      · omega
      · simp; omega
    rw [e, List.length_append, List.length_cons]
    omega
set_option maxHeartbeats 4000000 in
set_option maxRecDepth 20000 in
theorem pasked (g nn : Nat) (L : ByteArray → Option VL) (nv : Value) (ns : List NodeL) (hs : ScopeAt w 0 g nn L) (hn : NodesRd w nv ns) (ht : Tame ns) :
    Calls Tryz.prog 34 #[.map (some g), nv] w fun e w' => ∃ (v : Value) (ps : List BP), e = .returned v ∧ Below w.heap.size w w' ∧ w'.ownsRow w.heap.size 41 5 v ps.length (bpsCells ps) ∧ ps.map (·.1) = askedL L ns ∧ LeafP ps := by
  have HS := Lib.hid hs
  have HN := Lib.hid hn
  have T := Lib.hid ht
  obtain ⟨ao, cap, rfl, -⟩ := hn.at
  have hl := ht.few
  have A0 := Lib.hid (show AkAt w g nn L [] ((w.alloc (.cells #[.map (some g)] 69)).alloc (.cells #[.slice none 0 0] 36)) (.slice none 0 0) from
    ⟨(heap_alloc_old _ _ (by simp)).trans (heap_alloc_new w _), heap_at (by simp), own_none _ _ _ _, LeafP.nil, below_al (below_al (Below.refl _ _) _) _⟩)
  have FE : ∀ a W, (callFunc 52 a).run Tryz.prog W = .ok (.enter 52 a) W := fun a W => run_enter Tryz.func52 (by kernel_rfl) (by kernel_rfl) a W
  clear hs hn ht
  go_enter Tryz.func34, Tryz.ntmps34
  go_wp2_with fail
  go_loopg [14] ns.length (fun m iv wr => AkRel w g nn L ns m iv wr)
  case atStart => exact ⟨0, _, [], rfl, Nat.le_refl _, Nat.zero_le _, A0.out, rfl⟩
  case round =>
    obtain ⟨j, rv, ps, rfl, hm, hj, ha, hp⟩ := hrel
    have HM := Lib.hid hm
    have HA := Lib.hid ha
    have HP := Lib.hid hp
    clear hm hp
    by_cases hjl : j < ns.length
    · obtain ⟨n, hn⟩ : ∃ n, ns[j]? = some n := ⟨_, List.getElem?_eq_getElem hjl⟩
      have hmem := List.mem_of_getElem? hn
      have TX := Lib.hid (T.out.text n hmem)
      have TP := Lib.hid (T.out.parts n hmem)
      have TQ := Lib.hid (T.out.part n hmem)
      have TK := Lib.hid (show askedL L (ns.take (j + 1)) = askedL L (ns.take j) ++ askNode L n by unfold askedL; rw [List.take_add_one, hn]; simp)
      obtain ⟨ao2, cap2, e2, hat⟩ := HN.out.at
      simp at e2
      obtain ⟨rfl, rfl⟩ := e2
      obtain ⟨g3, o, pv, kv, rfl, hpv, hkv, c0, c1, c2, c3, c4⟩ := hat j n hn
      replace c0 := hold ha.below c0
      replace c1 := hold ha.below c1
      replace c2 := hold ha.below c2
      replace c3 := hold ha.below c3
      replace c4 := hold ha.below c4
      obtain ⟨pao, pcap, rfl⟩ : ∃ a c, pv = .slice a n.parts.length c := by obtain ⟨a, c, e, -⟩ := hpv; exact ⟨a, c, e⟩
      obtain ⟨kao, kcap, rfl⟩ := hkv.len
      have PV := Lib.hid hpv
      have AA := Lib.hid (ha.alloc (.cells #[.int .i64 n.kind, .int .i64 n.num, .string n.text, .slice pao n.parts.length pcap, .slice kao n.kids.length kcap] 35))
      have NB := Lib.hid (heap_alloc_new wr (.cells #[.int .i64 n.kind, .int .i64 n.num, .string n.text, .slice pao n.parts.length pcap, .slice kao n.kids.length kcap] 35))
      clear hat hn hkv hpv hmem ha
      by_cases k4 : n.kind = 4
      · have g4 : (n.kind == 4) = true := by simpa using k4
        have PL : ps.length ≤ 1100000 := by have h := congrArg List.length HP.out; rw [List.length_map] at h; have := askedL_len L (ns.take j) (fun m hm => T.out.parts m (List.mem_of_mem_take hm)); rw [List.length_take] at this; omega
        have PC := Lib.hid (fun ps W u => pask w g nn L HS.out ps W u)
        clear k4
        go_wp2_with fail
        refine (PC.out ps _ _ AA.out n.text TX.out PL).mono ?_
        rintro e w6 ⟨rfl, rv6, qs, ha6, hq6, hf6⟩
        have c3' : w6.cell? ⟨wr.heap.size, 3, none⟩ = some (.slice pao n.parts.length pcap) := by
          have := cell_of_row _ _ 3 _ _ _ ((hf6 wr.heap.size (by simp) (by have := HA.out.below.size; have := (Array.getElem?_eq_some_iff.1 HA.out.box1).1; omega) (fun q => absurd (World.ownsRow.lt HA.out.row _ q.symm).2 (Nat.lt_irrefl _))).trans NB.out)
          simpa using this
        have A6 := Lib.hid ha6
        have Q6 := Lib.hid (show (ps ++ qs).map (·.1) = (askedL L (ns.take j) ++ askOne L n.text) ++ askParts L (n.parts.take 0) by rw [List.map_append, HP.out, hq6]; simp [askParts])
        have KN := Lib.hid (show askNode L n = askOne L n.text ++ askParts L n.parts by unfold askNode; rw [if_pos (by simpa using g4)])
        clear ha6 hq6 hf6 AA NB c0 c1 c2 c3 c4
        have tp := TP.out
        generalize ps ++ qs = ps6 at *
        go_wp2_with fail
        go_loopg [28] n.parts.length (fun m iv wx => ApRel w g nn L (askedL L (ns.take j) ++ askOne L n.text) n.parts m iv wx)
        case atStart => exact ⟨0, _, ps6, rfl, Nat.le_refl _, Nat.zero_le _, A6.out, Q6.out⟩
        case round =>
          obtain ⟨q, rv7, ps7, rfl, hm7, hq7, ha7, hp7⟩ := hrel
          have M7 := Lib.hid hm7
          have P7 := Lib.hid hp7
          clear hm7 hp7
          by_cases hql : q < n.parts.length
          · obtain ⟨p, hp⟩ : ∃ p, n.parts[q]? = some p := ⟨_, List.getElem?_eq_getElem hql⟩
            have TK2 := Lib.hid (show askParts L (n.parts.take (q + 1)) = askParts L (n.parts.take q) ++ (if p.1 then askOne L p.2 else []) by unfold askParts; rw [List.take_add_one, hp]; simp)
            obtain ⟨gp, op, rfl, d0, d1⟩ := parts_cellW (Rds.below PV.out ha7.below) hp
            have PX := Lib.hid (TQ.out p (List.mem_of_getElem? hp))
            have A8 := Lib.hid (ha7.alloc (.cells #[.bool p.1, .string p.2] 63))
            have PL7 : ps7.length ≤ 1100000 := by
              have h := congrArg List.length P7.out
              have h2 := askedL_len L (ns.take j) (fun m hm => T.out.parts m (List.mem_of_mem_take hm))
              have h3 := askParts_len L (n.parts.take q)
              have h4 := TP.out
              rw [List.length_map, List.length_append] at h
              rw [List.length_take] at h2 h3
              have h5 := askOne_len L n.text
              rw [List.length_append] at h
              omega
            clear hp ha7
            cases hpr : p.1 with
            | true =>
              rw [hpr] at d0 A8 TK2
              clear hpr
              go_wp2_with fail
              refine (PC.out ps7 _ _ A8.out p.2 PX.out PL7).mono ?_
              rintro e w8 ⟨rfl, rv8, qs8, ha8, hq8, -⟩
              have A9 := Lib.hid ha8
              have Q9 := Lib.hid (show (ps7 ++ qs8).map (·.1) = (askedL L (ns.take j) ++ askOne L n.text) ++ askParts L (n.parts.take (q + 1)) by rw [List.map_append, P7.out, hq8, TK2.out]; simp)
              clear ha8 hq8 A8
              generalize ps7 ++ qs8 = ps8 at *
              go_wp2_with fail
              go_roundg (n.parts.length - (q + 1))
              case rel => exact ⟨q + 1, _, ps8, rfl, Nat.le_refl _, hql, A9.out, Q9.out⟩
              case measure => have := M7.out; omega
            | false =>
              rw [hpr] at d0 A8 TK2
              clear hpr
              go_wp2_with fail
              go_roundg (n.parts.length - (q + 1))
              case rel => exact ⟨q + 1, _, ps7, rfl, Nat.le_refl _, hql, A8.out, by rw [TK2.out, P7.out]; simp⟩
              case measure => have := M7.out; omega
          · have hz : q = n.parts.length := by omega
            subst hz
            have A9 := Lib.hid ha7
            have Q9 := Lib.hid (show ps7.map (·.1) = askedL L (ns.take (j + 1)) by rw [P7.out, TK.out, KN.out, List.take_length]; try simp)
            clear ha7
            go_wp2_with fail
            go_roundg (ns.length - (j + 1))
            case rel => exact ⟨j + 1, _, ps7, rfl, Nat.le_refl _, hjl, A9.out, Q9.out⟩
            case measure => have := HM.out; omega
      · have g4 : (n.kind == 4) = false := by simpa using k4
        have PC := Lib.hid (fun ps W u => pask w g nn L HS.out ps W u)
        have c3' := cell_of_row _ _ 3 _ _ _ NB.out
        simp at c3'
        have KN := Lib.hid (show askNode L n = askParts L n.parts by unfold askNode; rw [if_neg k4]; rfl)
        have A6 := AA
        have Q6 := Lib.hid (show ps.map (·.1) = askedL L (ns.take j) ++ askParts L (n.parts.take 0) by rw [HP.out]; simp [askParts])
        clear AA NB k4
        have tp := TP.out
        go_wp2_with fail
        go_loopg [28] n.parts.length (fun m iv wx => ApRel w g nn L (askedL L (ns.take j)) n.parts m iv wx)
        case atStart => exact ⟨0, _, ps, rfl, Nat.le_refl _, Nat.zero_le _, A6.out, Q6.out⟩
        case round =>
          obtain ⟨q, rv7, ps7, rfl, hm7, hq7, ha7, hp7⟩ := hrel
          have M7 := Lib.hid hm7
          have P7 := Lib.hid hp7
          clear hm7 hp7
          by_cases hql : q < n.parts.length
          · obtain ⟨p, hp⟩ : ∃ p, n.parts[q]? = some p := ⟨_, List.getElem?_eq_getElem hql⟩
            have TK2 := Lib.hid (show askParts L (n.parts.take (q + 1)) = askParts L (n.parts.take q) ++ (if p.1 then askOne L p.2 else []) by unfold askParts; rw [List.take_add_one, hp]; simp)
            obtain ⟨gp, op, rfl, d0, d1⟩ := parts_cellW (Rds.below PV.out ha7.below) hp
            have PX := Lib.hid (TQ.out p (List.mem_of_getElem? hp))
            have A8 := Lib.hid (ha7.alloc (.cells #[.bool p.1, .string p.2] 63))
            have PL7 : ps7.length ≤ 1100000 := by
              have h := congrArg List.length P7.out
              have h2 := askedL_len L (ns.take j) (fun m hm => T.out.parts m (List.mem_of_mem_take hm))
              have h3 := askParts_len L (n.parts.take q)
              have h4 := TP.out
              rw [List.length_map, List.length_append] at h
              rw [List.length_take] at h2 h3
              skip
              omega
            clear hp ha7
            cases hpr : p.1 with
            | true =>
              rw [hpr] at d0 A8 TK2
              clear hpr
              go_wp2_with fail
              refine (PC.out ps7 _ _ A8.out p.2 PX.out PL7).mono ?_
              rintro e w8 ⟨rfl, rv8, qs8, ha8, hq8, -⟩
              have A9 := Lib.hid ha8
              have Q9 := Lib.hid (show (ps7 ++ qs8).map (·.1) = (askedL L (ns.take j)) ++ askParts L (n.parts.take (q + 1)) by rw [List.map_append, P7.out, hq8, TK2.out]; simp)
              clear ha8 hq8 A8
              generalize ps7 ++ qs8 = ps8 at *
              go_wp2_with fail
              go_roundg (n.parts.length - (q + 1))
              case rel => exact ⟨q + 1, _, ps8, rfl, Nat.le_refl _, hql, A9.out, Q9.out⟩
              case measure => have := M7.out; omega
            | false =>
              rw [hpr] at d0 A8 TK2
              clear hpr
              go_wp2_with fail
              go_roundg (n.parts.length - (q + 1))
              case rel => exact ⟨q + 1, _, ps7, rfl, Nat.le_refl _, hql, A8.out, by rw [TK2.out, P7.out]; simp⟩
              case measure => have := M7.out; omega
          · have hz : q = n.parts.length := by omega
            subst hz
            have A9 := Lib.hid ha7
            have Q9 := Lib.hid (show ps7.map (·.1) = askedL L (ns.take (j + 1)) by rw [P7.out, TK.out, KN.out, List.take_length]; try simp)
            clear ha7
            go_wp2_with fail
            go_roundg (ns.length - (j + 1))
            case rel => exact ⟨j + 1, _, ps7, rfl, Nat.le_refl _, hjl, A9.out, Q9.out⟩
            case measure => have := HM.out; omega
    · have hz : j = ns.length := by omega
      subst hz
      have c1 := cell_of_row _ _ 0 _ _ _ HA.out.box1
      simp at c1
      go_wp2_with fail
      go_ret
      exact ⟨_, ps, rfl, HA.out.below, HA.out.row, by rw [HP.out, List.take_length], HA.out.leaf⟩
end
end Go.Proofs.YtndeihmclecmcaaGreatDoor
