/- Package eval: Locals of values without lists. -/
import Derived.Test.YtdaphajnioiakaaGreatDoorEvKa
import Derived.Test.YtdaphajnioiakaaGreatDoorRcN
namespace Go.Proofs.YtdaphajnioiakaaGreatDoor
open Go.RowKit
set_option linter.unusedVariables false
set_option linter.unusedSimpArgs false
theorem info_bind : (Tryz.prog.info? 52).map (fun i => (i.zero, i.size, i.bytes)) = some (some (.agg #[.string ⟨#[]⟩, .int .i64 0, .int .i64 0, .string ⟨#[]⟩, .slice none 0 0]), 5, 72) := by kernel_rfl
def locName (s : ByteArray) : ByteArray := ⟨#[108, 111, 99, 97, 108, 46]⟩ ++ s
/-- What names stand for, behind so many places. -/
def scopeL (al : List (ByteArray × List NodeL)) (out : List Int) (vq : Nat → VL) (L0 : ByteArray → Option VL) : Nat → ByteArray → Option VL
  | 0 => L0
  | q + 1 => match out[q]? with
    | some x => match al[x.toNat]? with
      | some a => fun y => if y = locName a.1 then some (vq q) else scopeL al out vq L0 q y
      | none => scopeL al out vq L0 q
    | none => scopeL al out vq L0 q
def doneL (al : List (ByteArray × List NodeL)) (out : List Int) (vq : Nat → VL) : Nat → List (ByteArray × VL)
  | 0 => List.replicate al.length (⟨#[]⟩, vz)
  | q + 1 => match out[q]? with
    | some x => match al[x.toNat]? with
      | some a => (doneL al out vq q).set x.toNat (locName a.1, vq q)
      | none => doneL al out vq q
    | none => doneL al out vq q
def bOne (b : ByteArray × VL) : List Value := [.string b.1, .int .i64 b.2.kind, .int .i64 b.2.num, .string b.2.text, .slice none 0 0]
def bsCells (l : List (ByteArray × VL)) : List Value := l.flatMap bOne
theorem bsCells_len (l : List (ByteArray × VL)) : (bsCells l).length = l.length * 5 := by
  induction l with
  | nil => rfl
  | cons a l ih =>
    show (bOne a ++ bsCells l).length = _
    rw [List.length_append, ih, List.length_cons]
    show 5 + _ = _
    omega
theorem bsCells_at : ∀ (l : List (ByteArray × VL)) (i : Nat) (b : ByteArray × VL), l[i]? = some b → ∀ r, r < 5 → (bsCells l)[i * 5 + r]? = (bOne b)[r]? := by
  intro l
  induction l with
  | nil => intro i p h; simp at h
  | cons a l ih =>
    intro i p h r hr
    show (bOne a ++ bsCells l)[i * 5 + r]? = _
    cases i with
    | zero =>
      simp at h; subst h
      rw [List.getElem?_append_left (by show 0 * 5 + r < 5; omega)]
      congr 1; omega
    | succ i =>
      rw [List.getElem?_append_right (by show 5 ≤ (i + 1) * 5 + r; omega), ← ih i p (by simpa using h) r hr]
      congr 1
      show (i + 1) * 5 + r - 5 = _
      omega
theorem bsCells_set (l : List (ByteArray × VL)) (i : Nat) (hi : i < l.length) (b : ByteArray × VL) :
    (((((bsCells l).set (i * 5) (.string b.1)).set (i * 5 + 1) (.int .i64 b.2.kind)).set (i * 5 + 2) (.int .i64 b.2.num)).set (i * 5 + 3) (.string b.2.text)).set (i * 5 + 4) (.slice none 0 0) = bsCells (l.set i b) := by
  apply List.ext_getElem?
  intro j
  by_cases hj : j < l.length * 5
  · obtain ⟨p, r, hr, rfl⟩ : ∃ p r, r < 5 ∧ j = p * 5 + r := ⟨j / 5, j % 5, by omega, by omega⟩
    have hp : p < l.length := by omega
    by_cases hpi : p = i
    · subst hpi
      have e : (l.set p b)[p]? = some b := List.getElem?_set_self hp
      rw [bsCells_at _ p b e r hr]
      have hl : ∀ k, k < 5 → p * 5 + k < (bsCells l).length := fun k hk => by rw [bsCells_len]; omega
      match r, hr with
      | 0, _ =>
        rw [List.getElem?_set_ne (by omega), List.getElem?_set_ne (by omega), List.getElem?_set_ne (by omega), List.getElem?_set_ne (by omega), Nat.add_zero, List.getElem?_set_self (by simpa using hl 0 (by omega))]; rfl
      | 1, _ => rw [List.getElem?_set_ne (by omega), List.getElem?_set_ne (by omega), List.getElem?_set_ne (by omega), List.getElem?_set_self (by simpa using hl 1 (by omega))]; rfl
      | 2, _ => rw [List.getElem?_set_ne (by omega), List.getElem?_set_ne (by omega), List.getElem?_set_self (by simpa using hl 2 (by omega))]; rfl
      | 3, _ => rw [List.getElem?_set_ne (by omega), List.getElem?_set_self (by simpa using hl 3 (by omega))]; rfl
      | 4, _ => rw [List.getElem?_set_self (by simpa using hl 4 (by omega))]; rfl
      | k + 5, h => omega
    · have e : (l.set i b)[p]? = some l[p] := by rw [List.getElem?_set_ne (Ne.symm hpi)]; exact List.getElem?_eq_getElem hp
      rw [bsCells_at _ p _ e r hr, List.getElem?_set_ne (by omega), List.getElem?_set_ne (by omega), List.getElem?_set_ne (by omega), List.getElem?_set_ne (by omega), List.getElem?_set_ne (by omega), bsCells_at l p _ (List.getElem?_eq_getElem hp) r hr]
  · rw [List.getElem?_eq_none (by simp [bsCells_len]; omega), List.getElem?_eq_none (by rw [bsCells_len]; simp; omega)]
theorem bsCells_repl (n : Nat) : (madeCells (Value.agg #[.string ⟨#[]⟩, .int .i64 0, .int .i64 0, .string ⟨#[]⟩, .slice none 0 0]).cells (n * 5)).toList = bsCells (List.replicate n (⟨#[]⟩, vz)) := by
  have e : (Value.agg #[.string ⟨#[]⟩, .int .i64 0, .int .i64 0, .string ⟨#[]⟩, .slice none 0 0]).cells = #[.string ⟨#[]⟩, .int .i64 0, .int .i64 0, .string ⟨#[]⟩, .slice none 0 0] := by rfl
  rw [e]
  apply List.ext_getElem?
  intro j
  by_cases hj : j < n * 5
  · obtain ⟨p, r, hr, rfl⟩ : ∃ p r, r < 5 ∧ j = p * 5 + r := ⟨j / 5, j % 5, by omega, by omega⟩
    rw [bsCells_at _ p (⟨#[]⟩, vz) (by rw [List.getElem?_replicate]; simp; omega) r hr]
    have hm : (p * 5 + r) % 5 = r := by omega
    have q : (madeCells #[.string ⟨#[]⟩, .int .i64 0, .int .i64 0, .string ⟨#[]⟩, .slice none 0 0] (n * 5)).toList[p * 5 + r]? = some ((#[.string ⟨#[]⟩, .int .i64 0, .int .i64 0, .string ⟨#[]⟩, .slice none 0 0] : Array Value)[(p * 5 + r) % 5]!) := by
      simp [madeCells, hj]
    rw [q, hm]
    match r, hr with
    | 0, _ => rfl
    | 1, _ => rfl
    | 2, _ => rfl
    | 3, _ => rfl
    | 4, _ => rfl
    | k + 5, h => omega
  · rw [List.getElem?_eq_none (by simp [madeCells]; omega), List.getElem?_eq_none (by rw [bsCells_len]; simp; omega)]
end Go.Proofs.YtdaphajnioiakaaGreatDoor
namespace Go.Proofs.YtdaphajnioiakaaGreatDoor
open Go.RowKit
set_option linter.unusedVariables false
set_option linter.unusedSimpArgs false
theorem box_kept {w w6 : World} {g gv : Nat} {a b c d : Value} {t : TypeId} (h : w.heap[gv]? = some (.cells #[a, b, c, d] t (0, 0))) (hg : w.grownBy w6 (some g)) (hne : g < gv) :
    w6.cell? ⟨gv, 0, none⟩ = some a ∧ w6.cell? ⟨gv, 1, none⟩ = some b ∧ w6.cell? ⟨gv, 2, none⟩ = some c ∧ w6.cell? ⟨gv, 3, none⟩ = some d := by
  have k := (hg.block gv (Array.getElem?_eq_some_iff.1 h).1 (by simp; omega)).trans h
  exact ⟨cell_of_row _ _ 0 _ _ _ k, cell_of_row _ _ 1 _ _ _ k, cell_of_row _ _ 2 _ _ _ k, cell_of_row _ _ 3 _ _ _ k⟩
theorem own_kept {w w6 : World} {B e z n m cap g ga : Nat} {xs : List Value} (h : w.ownsRow B e z (.slice (some ⟨ga, 0, none⟩) m cap) n xs) (hg : w.grownBy w6 (some g)) (hne : g ≠ ga) (hm : m = n := by rfl) :
    w6.ownsRow B e z (.slice (some ⟨ga, 0, none⟩) m cap) n xs ∧ ∀ j, w6.frozen? ⟨ga, j, none⟩ = false := by
  subst hm
  have k := World.ownsRow.kept h hg (.inr (by simp [Value.ownBlock]; omega))
  exact ⟨k, fun j => World.ownsRow.frozenAt k j⟩
theorem row_cell {w : World} {B e z n cap ga : Nat} {xs : List Value} (h : w.ownsRow B e z (.slice (some ⟨ga, 0, none⟩) n cap) n xs) (j : Nat) (hj : j < n * z) : ∃ u, w.cell? ⟨ga, j, none⟩ = some u := by
  rw [World.ownsRow.cellAt h j hj]
  exact ⟨_, List.getElem?_eq_getElem (by rw [h.1]; exact hj)⟩
/-- A bind is stored. -/
theorem row_stored {w : World} {B n cap ga p : Nat} {l : List (ByteArray × VL)} (h : w.ownsRow B 52 5 (.slice (some ⟨ga, 0, none⟩) n cap) n (bsCells l)) (hp : p < l.length) (b : ByteArray × VL) (hB : B ≤ ga) :
    (((((w.setCell ⟨ga, p * 5, none⟩ (.string b.1)).setCell ⟨ga, p * 5 + 1, none⟩ (.int .i64 b.2.kind)).setCell ⟨ga, p * 5 + 2, none⟩ (.int .i64 b.2.num)).setCell ⟨ga, p * 5 + 3, none⟩ (.string b.2.text)).setCell ⟨ga, p * 5 + 4, none⟩ (.slice none 0 0)).ownsRow B 52 5 (.slice (some ⟨ga, 0, none⟩) n cap) n (bsCells (l.set p b)) ∧
    Below B w (((((w.setCell ⟨ga, p * 5, none⟩ (.string b.1)).setCell ⟨ga, p * 5 + 1, none⟩ (.int .i64 b.2.kind)).setCell ⟨ga, p * 5 + 2, none⟩ (.int .i64 b.2.num)).setCell ⟨ga, p * 5 + 3, none⟩ (.string b.2.text)).setCell ⟨ga, p * 5 + 4, none⟩ (.slice none 0 0)) ∧
    Below ga w (((((w.setCell ⟨ga, p * 5, none⟩ (.string b.1)).setCell ⟨ga, p * 5 + 1, none⟩ (.int .i64 b.2.kind)).setCell ⟨ga, p * 5 + 2, none⟩ (.int .i64 b.2.num)).setCell ⟨ga, p * 5 + 3, none⟩ (.string b.2.text)).setCell ⟨ga, p * 5 + 4, none⟩ (.slice none 0 0)) := by
  have k0 := (World.ownsRow.stored h (p * 5) (.string b.1)).1
  have k1 := (World.ownsRow.stored k0 (p * 5 + 1) (.int .i64 b.2.kind)).1
  have k2 := (World.ownsRow.stored k1 (p * 5 + 2) (.int .i64 b.2.num)).1
  have k3 := (World.ownsRow.stored k2 (p * 5 + 3) (.string b.2.text)).1
  have k4 := (World.ownsRow.stored k3 (p * 5 + 4) (.slice none 0 0)).1
  rw [bsCells_set l p hp b] at k4
  exact ⟨k4, (((((Below.refl B w).setCell hB _).setCell hB _).setCell hB _).setCell hB _).setCell hB _, (((((Below.refl ga w).setCell (Nat.le_refl _) _).setCell (Nat.le_refl _) _).setCell (Nat.le_refl _) _).setCell (Nat.le_refl _) _).setCell (Nat.le_refl _) _⟩
theorem doneL_len (al : List (ByteArray × List NodeL)) (out : List Int) (vq : Nat → VL) : ∀ q, (doneL al out vq q).length = al.length := by
  intro q
  induction q with
  | zero => simp [doneL]
  | succ q ih =>
    unfold doneL
    split
    · split
      · rw [List.length_set, ih]
      · exact ih
    · exact ih
theorem ScopeAt.leaf {w w' : World} {g n : Nat} {L : ByteArray → Option VL} (h : ScopeAt w 0 g n L) (hb : w'.heap[g]? = w.heap[g]?) : ScopeAt w' 0 g n L := by
  obtain ⟨d, hm, hx⟩ := h
  refine ⟨d, ?_, fun x => ⟨(hx x).1, fun v hv => ?_⟩⟩
  · obtain ⟨es, clock, hblk, r⟩ := hm
    exact ⟨es, clock, hb.trans hblk, r⟩
  · obtain ⟨h1, hi, lv, h2, h3⟩ := (hx x).2 v hv
    exact ⟨h1, hi, lv, h2, h3⟩
theorem own_baseL {w : World} {B B' e z n : Nat} {v : Value} {xs : List Value} (h : w.ownsRow B e z v n xs) (hB : B' ≤ B) : w.ownsRow B' e z v n xs := by
  refine ⟨h.1, ?_⟩
  rcases h.2 with hn | ⟨g, cap, cur, rfl, hbg, hg, r⟩
  · exact .inl hn
  · exact .inr ⟨g, cap, cur, rfl, Nat.le_trans hB hbg, hg, r⟩
def LocRel (w1 : World) (g ga nb n : Nat) (al : List (ByteArray × List NodeL)) (out : List Int) (vq : Nat → VL) (L0 : ByteArray → Option VL) (m : Nat) (iv : Value) (wr : World) : Prop :=
  ∃ q : Nat, iv = .int .i64 q ∧ out.length - q ≤ m ∧ q ≤ out.length ∧ ScopeAt wr 0 g (nb + q) (scopeL al out vq L0 q) ∧ wr.ownsRow w1.heap.size 52 5 (.slice (some ⟨ga, 0, none⟩) n n) n (bsCells (doneL al out vq q)) ∧ Below w1.heap.size w1 wr
section
variable (w : World)
set_option maxHeartbeats 4000000 in
set_option maxRecDepth 20000 in
theorem pLocals (av bv : Value) (al : List (ByteArray × List NodeL)) (hal : AttrsRd w av al) (hn : al.length ≤ 1000) (hz : ∀ a ∈ al, a.1.size ≤ 100000) (bs : List (ByteArray × VL)) (hbs : BindsRd w 0 bv bs) (hbl : bs.length ≤ 100000) (hbi : ∀ b ∈ bs, I64 b.2.num ∧ b.1.size ≤ 281474976710656)
    (r : Option (List Int × List (List Int))) (out : List Int) (hord : Calls Tryz.prog 8 #[av] w (OrderRes w al.length r out)) (hr : r ≠ none) (hlen : al.length ≤ out.length) (hol : out.length ≤ 100000) (hin : ∀ (q : Nat) (x : Int), out[q]? = some x → ∃ p : Nat, x = (p : Int) ∧ p < al.length)
    (vq : Nat → VL) (hvq : ∀ q, I64 (vq q).num ∧ (vq q).kids = []) (hwalk : ∀ (q p : Nat) (a : ByteArray × List NodeL), out[q]? = some (p : Int) → al[p]? = some a → ∃ M, Walk (fun _ => True) (scopeL al out vq (lookL bs) q) a.2 M (vq q, 0)) :
    Calls Tryz.prog 12 #[av, bv] w fun e w' => ∃ ga, e = .returned (.tuple #[.slice (some ⟨ga, 0, none⟩) al.length al.length, .int .i64 0]) ∧ Below w.heap.size w w' ∧ w'.ownsRow w.heap.size 52 5 (.slice (some ⟨ga, 0, none⟩) al.length al.length) al.length (bsCells (doneL al out vq out.length)) := by
  have H := Lib.hid hal
  have HB := Lib.hid hbs
  have HBI := Lib.hid hbi
  have HO := Lib.hid hord
  have HW := Lib.hid hwalk
  have HIN := Lib.hid hin
  have HVQ := Lib.hid hvq
  have HZ := Lib.hid hz
  obtain ⟨i0, hi0, hz0, hz1, hz2⟩ := info_parts info_bind
  have hm1 : ∀ W : World, (Instr.makeSlice 45 (.int .i64 (al.length : Int)) (.int .i64 (al.length : Int))).run Tryz.prog W = .ok (.slice (some ⟨W.heap.size, 0, none⟩) al.length al.length) (W.alloc (.cells (madeCells (#[.string ⟨#[]⟩, .int .i64 0, .int .i64 0, .string ⟨#[]⟩, .slice none 0 0] : Array Value) (al.length * 5)) 52)) := fun W => by
    have := run_make (P := Tryz.prog) W 45 52 i0 _ Tryz.underlying45 hi0 hz0 .i64 .i64 al.length al.length (by omega) (Int.le_refl _) (by rw [hz2]; omega) (by omega)
    rw [hz1, Int.toNat_natCast] at this
    exact this
  obtain ⟨ao, cap, rfl, -⟩ := hal
  obtain ⟨bo, bc, rfl, -⟩ := hbs
  clear hbi hord hwalk hin hvq hz
  go_enter Tryz.func12, Tryz.ntmps12
  go_wp2_with fail
  refine HO.out.mono ?_
  rintro e w1 ⟨hb1, h1⟩
  rcases h1 with ⟨h, -⟩ | ⟨-, h, -⟩ | ⟨-, h, v, rfl, hv⟩
  · exact absurd h hr
  · omega
  have IV := Lib.hid hv
  have B1 := Lib.hid hb1
  obtain ⟨vo, vc, rfl⟩ := hv.shape
  clear hv hb1 h
  go_wp2_with fail
  refine (pscope w1 0 _ bs (HB.out.below B1.out) hbl HBI.out).mono ?_
  rintro e w2 ⟨rfl, hb2, hs2⟩
  have B2 := Lib.hid hb2
  have S3 := Lib.hid (hs2.below (below_al (Below.refl w2.heap.size w2) (.cells (madeCells (#[.string ⟨#[]⟩, .int .i64 0, .int .i64 0, .string ⟨#[]⟩, .slice none 0 0] : Array Value) (al.length * 5)) 52)))
  have LT := Lib.hid hs2.lt
  clear hb2 hs2
  go_wp2_with fail
  have B3 := Lib.hid (below_al B2.out (.cells (madeCells (#[.string ⟨#[]⟩, .int .i64 0, .int .i64 0, .string ⟨#[]⟩, .slice none 0 0] : Array Value) (al.length * 5)) 52))
  have O3 := Lib.hid (show (w2.alloc (.cells (madeCells (#[.string ⟨#[]⟩, .int .i64 0, .int .i64 0, .string ⟨#[]⟩, .slice none 0 0] : Array Value) (al.length * 5)) 52)).ownsRow w1.heap.size 52 5 (.slice (some ⟨w2.heap.size, 0, none⟩) al.length al.length) al.length (bsCells (doneL al out vq 0)) from by
    have := World.ownsRow_lit (base := w1.heap.size) (size := 5) (e := 52) w2 (madeCells (#[.string ⟨#[]⟩, .int .i64 0, .int .i64 0, .string ⟨#[]⟩, .slice none 0 0] : Array Value) (al.length * 5)) al.length B2.out.size (by unfold maxLen; omega) (by rw [size_madeCells])
    exact (show _ = bsCells (doneL al out vq 0) from bsCells_repl al.length) ▸ this)
  generalize w2.alloc (.cells (madeCells (#[.string ⟨#[]⟩, .int .i64 0, .int .i64 0, .string ⟨#[]⟩, .slice none 0 0] : Array Value) (al.length * 5)) 52) = w3 at *
  generalize w2.heap.size = ga at *
  have NE := Lib.hid (show w1.heap.size ≠ ga from Nat.ne_of_lt LT.out)
  clear hm1
  go_loopg [30] out.length (fun m iv wr => LocRel w1 w1.heap.size ga bs.length al.length al out vq (lookL bs) m iv wr)
  case atStart => exact ⟨0, rfl, Nat.le_refl _, Nat.zero_le _, S3.out, O3.out, B3.out⟩
  case round =>
    obtain ⟨q, rfl, hm, hq, hs4, ho4, hb4⟩ := hrel
    have M4 := Lib.hid hm
    have S4 := Lib.hid hs4
    have O4 := Lib.hid ho4
    have B4 := Lib.hid hb4
    clear hm hs4 ho4 hb4
    by_cases hql : q < out.length
    · obtain ⟨x, hx⟩ : ∃ x, out[q]? = some x := ⟨_, List.getElem?_eq_getElem hql⟩
      obtain ⟨p, rfl, hp⟩ := HIN.out q x hx
      obtain ⟨a, ha⟩ : ∃ a, al[p]? = some a := ⟨_, List.getElem?_eq_getElem hp⟩
      obtain ⟨M, hw⟩ := HW.out q p a hx ha
      have HW1 := Lib.hid hw
      obtain ⟨vo2, vc2, ev, hcc⟩ := IV.out.below B4.out
      simp only [Value.slice.injEq] at ev
      obtain ⟨rfl, -, rfl⟩ := ev
      obtain ⟨g5, o5, rfl, hc5⟩ := hcc q _ hx
      obtain ⟨ao2, cap2, e2, hat⟩ := H.out.below (B1.out.trans (B4.out.mono B1.out.size))
      simp at e2
      obtain ⟨rfl, rfl⟩ := e2
      obtain ⟨g6, o6, no, nc, rfl, c0, c1, hnd⟩ := hat p a ha
      have SZ := Lib.hid (HZ.out a (List.mem_of_getElem? ha))
      have PV := Lib.hid (pvalue wr (fun _ => True) trivial w1.heap.size (bs.length + q) (.slice no a.2.length nc) _ a.2 M (vq q, 0) S4.out hnd HW1.out)
      have HX := Lib.hid hx
      have HA := Lib.hid ha
      have p0 : (0 : Int) ≤ (p : Int) := by omega
      have p1 : (p : Int) < (al.length : Int) := by omega
      clear hcc hat hx ha hw hnd
      go_wp2_with fail
      refine PV.out.mono ?_
      rintro e w5 ⟨rfl, hb5⟩

      have BX := Lib.hid (below_al hb5 (.cells #[.int .i64 (vq q).kind, .int .i64 (vq q).num, .string (vq q).text, .slice none 0 0] 50))
      have c0' := hold BX.out c0
      have NX := Lib.hid (heap_alloc_new w5 (.cells #[.int .i64 (vq q).kind, .int .i64 (vq q).num, .string (vq q).text, .slice none 0 0] 50))
      have S5 := Lib.hid (S4.out.below BX.out)
      have O5 := Lib.hid (own_below O4.out BX.out)
      have hs1 : (⟨#[108, 111, 99, 97, 108, 46]⟩ : ByteArray).size = 6 := rfl
      have hsa : a.1.size ≤ 100000 := SZ.out
      have hss : 6 + a.1.size ≤ 9223372036854775807 := by omega
      have HS5 := Lib.hid hb5.size
      clear hb5 c0 c1 hc5
      have SNX := Lib.hid (show scopeL al out vq (lookL bs) (q + 1) = fun y => if y = locName a.1 then some (vq q) else scopeL al out vq (lookL bs) q y by
        rw [scopeL, HX.out]; dsimp only; rw [Int.toNat_natCast, HA.out])
      have DNX := Lib.hid (show doneL al out vq (q + 1) = (doneL al out vq q).set p (locName a.1, vq q) by
        rw [doneL, HX.out]; dsimp only; rw [Int.toNat_natCast, HA.out])
      have HSX := Lib.hid (show ((⟨#[108, 111, 99, 97, 108, 46]⟩ : ByteArray) ++ a.1).size ≤ maxLen by
        rw [ByteArray.size_append, hs1]; unfold maxLen; omega)
      obtain ⟨d, hmap, hxx⟩ := S5.out
      have M1 := Lib.hid hmap
      have XX := Lib.hid hxx
      have GV := Lib.hid (show w1.heap.size < w5.heap.size from by have := B4.out.size; have := HS5.out; have := S4.out.lt; omega)
      clear hmap hxx
      go_wp2_with (at_mapUpdate; refine wpList_mapUpdate_own _ rfl _ _ _ 68 rfl 9 50 strKeyed Tryz.underlying68 heldV w1.heap.size (bs.length + q) d rfl M1.out (by unfold maxLen; omega) (.string ((⟨#[108, 111, 99, 97, 108, 46]⟩ : ByteArray) ++ a.1)) ((vq q).val (.slice none 0 0)) (keyLit ((⟨#[108, 111, 99, 97, 108, 46]⟩ : ByteArray) ++ a.1)) rfl rfl (Go.WideMaps.keyOf_string_mk Tryz.underlying9 HSX.out) _ [] rfl ?_; intro w6 hown6 hgrow6; obtain ⟨j0, j1, j2, j3⟩ := box_kept NX.out hgrow6 GV.out; have HG6 := Lib.hid hgrow6; have HO6 := Lib.hid hown6; obtain ⟨t1, t2⟩ := own_kept O5.out hgrow6 NE.out; have O6 := Lib.hid t1; have fz := t2 (p * 5); have fz1 := t2 (p * 5 + 1); have fz2 := t2 (p * 5 + 2); have fz3 := t2 (p * 5 + 3); have fz4 := t2 (p * 5 + 4); obtain ⟨u0, d0⟩ := row_cell t1 (p * 5) (by omega); obtain ⟨u1, d1⟩ := row_cell t1 (p * 5 + 1) (by omega); obtain ⟨u2, d2⟩ := row_cell t1 (p * 5 + 2) (by omega); obtain ⟨u3, d3⟩ := row_cell t1 (p * 5 + 3) (by omega); obtain ⟨u4', d4⟩ := row_cell t1 (p * 5 + 4) (by omega); clear hown6 hgrow6 t1 t2)
      obtain ⟨r1, r2, r3⟩ := row_stored O6.out (by rw [doneL_len]; exact hp) (locName a.1, vq q) (Nat.le_of_lt LT.out)
      have S6 := Lib.hid (ScopeAt.put M1.out XX.out HO6.out HG6.out (HVQ.out q).1 (show RowRd _ 0 (vq q).kids (.slice none 0 0) by rw [(HVQ.out q).2]; exact RowRd.nil _ _ _ _))
      have S7 := Lib.hid (S6.out.leaf (r3.block w1.heap.size LT.out))
      have B6 := Lib.hid (Below.grown (B4.out.trans (BX.out.mono B4.out.size)) HG6.out (Nat.le_trans B4.out.size BX.out.size) (fun k hk => by simp at hk; omega))
      go_roundg (out.length - (q + 1))
      case rel => exact ⟨q + 1, rfl, Nat.le_refl _, hql, (by rw [SNX.out]; exact S7.out), (by rw [DNX.out]; exact r1), B6.out.trans r2⟩
      case measure => have := M4.out; omega
    · have hz : q = out.length := by omega
      subst hz
      go_wp2_with fail
      exact bodyPost_ret (v := .tuple #[.slice (some ⟨ga, 0, none⟩) al.length al.length, .int .i64 0]) (by simp [results, Tryz.results12, go_sem]) rfl ⟨ga, rfl, B1.out.trans (B4.out.mono B1.out.size), own_baseL O4.out (Nat.le_trans B1.out.size (Nat.le_refl _))⟩
end
end Go.Proofs.YtdaphajnioiakaaGreatDoor
