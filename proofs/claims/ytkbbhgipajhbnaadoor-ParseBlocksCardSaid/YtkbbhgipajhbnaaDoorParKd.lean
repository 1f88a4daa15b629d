/- The law of blocks, walked. -/
import Derived.Test.YtkbbhgipajhbnaaDoorParKm
import Derived.Test.YtkbbhgipajhbnaaDoorParQ
import Derived.Test.YtkbbhgipajhbnaaDoorSameC
import Derived.Test.YtkbbhgipajhbnaaDoorLexX
import Derived.Deep.DeepCutAuto
import Derived.Deep.RegionHeld3
import Derived.IntWalk
namespace Go.Proofs.YtkbbhgipajhbnaaDoor
open Go.RowKit
set_option linter.unusedVariables false
set_option linter.unusedSimpArgs false
def TX (l : List UInt8) : ByteArray := ⟨l.toArray⟩
theorem tx_app (a b : List UInt8) : TX a ++ TX b = TX (a ++ b) := by unfold TX; apply ByteArray.ext; simp
theorem tx_size (a : List UInt8) : (TX a).size = a.length := by simp [TX, ByteArray.size]
theorem blocks_snoc2 (n : Nat) (k : Nat) (y : Bool) : ∀ ks, blocksL n y (ks ++ [k]) = blocksL n false ks ++ blockL k n y := by
  intro ks
  induction ks with
  | nil => rfl
  | cons a l ih =>
    cases l with
    | nil => rfl
    | cons b l =>
      show blockL a n false ++ blocksL n y ((b :: l) ++ [k]) = _
      rw [ih]
      simp [blocksL]
/-- The text of the first i blocks. -/
def accL (n : Nat) (x : Bool) (ks : List Nat) (i : Nat) : List UInt8 := if i < ks.length then blocksL n false (ks.take i) else blocksL n x ks
theorem acc_step {n : Nat} {x : Bool} {ks : List Nat} {i k : Nat} (h : ks[i]? = some k) : accL n x ks (i + 1) = accL n x ks i ++ blockL k n (x && decide (i + 1 = ks.length)) := by
  have hi : i < ks.length := (List.getElem?_eq_some_iff.1 h).1
  have ht : ks.take (i + 1) = ks.take i ++ [k] := by rw [List.take_add_one, h]; rfl
  unfold accL
  rw [if_pos hi]
  by_cases hl : i + 1 < ks.length
  · have hd : decide (i + 1 = ks.length) = false := by simp; omega
    rw [if_pos hl, ht, blocks_snoc2, hd, Bool.and_false]
  · have he : i + 1 = ks.length := by omega
    have hd : decide (i + 1 = ks.length) = true := by simpa using he
    rw [if_neg hl, hd, Bool.and_true]
    have hk : ks = ks.take i ++ [k] := by rw [← ht, he, List.take_length]
    calc blocksL n x ks = blocksL n x (ks.take i ++ [k]) := by rw [← hk]
      _ = _ := blocks_snoc2 n k x _
theorem dec_len2 (j : Nat) (h : j < 10) : (decTo j []).length ≤ 1 := by
  have := dec_len 1 j [] (by simpa using h) (by decide)
  simpa using this
theorem attrsL_len : ∀ n, n < 7 → (attrsL n).length ≤ 8 * n := by
  intro n
  induction n with
  | zero => intro _; exact Nat.le_refl _
  | succ n ih =>
    intro h
    have := ih (by omega)
    have h1 := dec_len2 n (by omega)
    simp only [attrsL, pieceL, List.length_append, List.length_cons, List.length_nil]
    omega
theorem headL_len (k : Nat) : (headL k).length ≤ 14 := by
  match k with
  | 0 => decide
  | 1 => decide
  | 2 => decide
  | 3 => decide
  | n + 4 => show (headL 4).length ≤ 14; decide
theorem blockL_len (k n : Nat) (x : Bool) (hn : n < 6) : (blockL k n x).length ≤ 80 := by
  have h1 := headL_len k
  have h2 := attrsL_len n (by omega)
  have h3 : (extraL x).length ≤ 10 := by cases x <;> decide
  simp only [blockL, List.length_append, List.length_cons, List.length_nil]
  omega
theorem acc_len {n : Nat} {x : Bool} {ks : List Nat} (hn : n < 6) : ∀ i, i ≤ ks.length → (accL n x ks i).length ≤ 80 * i := by
  intro i
  induction i with
  | zero =>
    intro _
    unfold accL
    split
    · simp [blocksL]
    · have : ks = [] := List.eq_nil_of_length_eq_zero (by omega)
      subst this; simp [blocksL]
  | succ i ih =>
    intro h
    rw [acc_step (List.getElem?_eq_getElem (by omega : i < ks.length)), List.length_append]
    have := ih (by omega)
    have := blockL_len ks[i] n (x && decide (i + 1 = ks.length)) hn
    omega
theorem att_txt (A : List UInt8) (j : Nat) : TX (A ++ attrsL j) ++ ⟨#[32, 97]⟩ ++ decB j ++ ⟨#[32, 61, 32]⟩ ++ decB j = TX (A ++ attrsL (j + 1)) := by
  unfold TX decB
  apply ByteArray.ext
  simp [attrsL, pieceL]
theorem extra_txt (A : List UInt8) : TX A ++ ⟨#[32, 97, 48, 32, 61, 32, 49]⟩ = TX (A ++ extraL true) := by
  have e : extraL true = [32, 97, 48, 32, 61, 32, 49] := by decide +kernel
  rw [e]; unfold TX; apply ByteArray.ext; simp
theorem close_txt (A : List UInt8) : TX A ++ ⟨#[32, 125, 10]⟩ = TX (A ++ [32, 125, 10]) := by unfold TX; apply ByteArray.ext; simp
theorem all_txt (n : Nat) (x : Bool) (ks : List Nat) : TX (blocksL n x ks) ++ ⟨#[100, 101, 102, 105, 110, 101, 32, 34, 100, 34, 32, 123, 32]⟩ ++ TX (blocksL n x ks) ++ ⟨#[32, 125]⟩ = TX (allL n x ks) := by
  unfold TX allL defL; apply ByteArray.ext; simp
def hdArr : Array Value := #[.string ⟨#[]⟩, .string ⟨#[118, 97, 114, 105, 97, 98, 108, 101, 32, 34, 118, 34, 32, 123]⟩, .string ⟨#[108, 111, 99, 97, 108, 115, 32, 123]⟩, .string ⟨#[110, 111, 100, 101, 32, 34, 110, 34, 32, 123]⟩, .string ⟨#[109, 111, 100, 117, 108, 101, 32, 34, 109, 34, 32, 123]⟩]
theorem hd_cell (k : Nat) (h1 : 1 ≤ k) (h2 : k ≤ 4) (W : World) : (W.alloc (.cells hdArr 9)).cell? ⟨W.heap.size, k, none⟩ = some (.string (TX (headL k))) := by
  rw [cell_of_row _ _ k _ _ _ (heap_alloc_new W _)]
  match k, h1, h2 with
  | 1, _, _ => rfl
  | 2, _, _ => rfl
  | 3, _, _ => rfl
  | 4, _, _ => rfl
def BldRel (w : World) (n : Nat) (x : Bool) (ks : List Nat) (m : Nat) (sv iv : Value) (wr : World) : Prop :=
  ∃ i : Nat, iv = .int .i64 i ∧ sv = .string (TX (accL n x ks i)) ∧ ks.length - i ≤ m ∧ i ≤ ks.length ∧ Below w.heap.size w wr
def AttRel (w : World) (n : Nat) (A : List UInt8) (m : Nat) (sv jv : Value) (wr : World) : Prop :=
  ∃ j : Nat, jv = .int .i64 j ∧ sv = .string (TX (A ++ attrsL j)) ∧ n - j ≤ m ∧ j ≤ n ∧ Below w.heap.size w wr
theorem BRowRd.get {w : World} {Q : Value → List BlockL → Prop} : ∀ (l : List BlockL) (xs : List Value) (i : Nat) {b : BlockL}, BRowRd w Q l xs → l[i]? = some b → ∃ av bv, AttrsRd w av b.attrs ∧ Q bv b.blocks ∧ xs[i * 4]? = some (.int .i64 b.kind) ∧ xs[i * 4 + 1]? = some (.string b.label) ∧ xs[i * 4 + 2]? = some av ∧ xs[i * 4 + 3]? = some bv := by
  intro l
  induction l with
  | nil => intro xs i b _ h; simp at h
  | cons c l ih =>
    intro xs i b hr hi
    obtain ⟨av, bv, rest, rfl, h1, h2, h3⟩ := hr
    cases i with
    | zero => simp at hi; subst hi; exact ⟨av, bv, h1, h2, rfl, rfl, rfl, rfl⟩
    | succ i =>
      obtain ⟨av', bv', k1, k2, k3, k4, k5, k6⟩ := ih rest i h3 (by simpa using hi)
      refine ⟨av', bv', k1, k2, ?_, ?_, ?_, ?_⟩
      · rw [show (i + 1) * 4 = i * 4 + 4 by omega]; simpa using k3
      · rw [show (i + 1) * 4 + 1 = i * 4 + 1 + 4 by omega]; simpa using k4
      · rw [show (i + 1) * 4 + 2 = i * 4 + 2 + 4 by omega]; simpa using k5
      · rw [show (i + 1) * 4 + 3 = i * 4 + 3 + 4 by omega]; simpa using k6
theorem own_cap {w : World} {B e z n : Nat} {v : Value} {xs : List Value} (h : w.ownsRow B e z v n xs) : ∃ ao cap, v = .slice ao n cap ∧ n ≤ cap := by
  rcases h.2 with ⟨rfl, h0⟩ | ⟨g, cap, cur, rfl, -, -, hmc, -⟩
  · exact ⟨none, 0, by rw [h0], by omega⟩
  · exact ⟨_, _, rfl, hmc⟩
/-- One block within a row, with where it lies. -/
structure BlkAt (w : World) (g o : Nat) (b : BlockL) (av bv : Value) : Prop where
  attrs : AttrsRd w av b.attrs
  blocks : BlocksRd 1 w bv b.blocks
  caps : ∃ ao cap, bv = .slice ao b.blocks.length cap ∧ b.blocks.length ≤ cap
  kind : w.cell? ⟨g, o, none⟩ = some (.int .i64 b.kind)
  label : w.cell? ⟨g, o + 1, none⟩ = some (.string b.label)
  av_ : w.cell? ⟨g, o + 2, none⟩ = some av
  bv_ : w.cell? ⟨g, o + 3, none⟩ = some bv
theorem parsed_at {w : World} {v : Value} {bs : List BlockL} (h : Parsed w v bs) (hne : bs ≠ []) : ∃ g o cap, v = .slice (some ⟨g, o, none⟩) bs.length cap ∧ bs.length ≤ cap ∧ ∀ i b, bs[i]? = some b → ∃ av bv, BlkAt w g (o + i * 4) b av bv := by
  rcases h with ⟨h, -⟩ | ⟨C, b, ⟨xs, o, r⟩, h0⟩
  · exact absurd h hne
  · obtain ⟨ao, cap, rfl, hcap⟩ := own_cap o
    have hr := BRow.rd (Q' := fun v l => BlocksRd 1 w v l ∧ ∃ ao cap, v = .slice ao l.length cap ∧ l.length ≤ cap) h0 (fun v l hq => by
      obtain ⟨⟨ys, o1, r1⟩, -⟩ := hq
      exact ⟨⟨ys, Rds.of_own o1, BRow.rd h0 (fun v l hq => ⟨hq.2, none, 0, hq.1⟩) r1⟩, own_cap o1⟩) r
    obtain ⟨ao2, cap2, e2, hc⟩ := Rds.of_own o
    simp at e2
    obtain ⟨rfl, rfl⟩ := e2
    obtain ⟨b0, hb0⟩ : ∃ b0, bs[0]? = some b0 := by
      cases bs with
      | nil => exact absurd rfl hne
      | cons c l => exact ⟨c, rfl⟩
    obtain ⟨-, -, -, -, k3, -⟩ := BRowRd.get bs xs 0 hr hb0
    obtain ⟨g, of, rfl, -⟩ := hc _ _ k3
    refine ⟨g, of, cap, rfl, hcap, fun i b hi => ?_⟩
    obtain ⟨av, bv, h1, h2, h3, h4, h5, h6⟩ := BRowRd.get bs xs i hr hi
    have same : ∀ j u, xs[i * 4 + j]? = some u → w.cell? ⟨g, of + i * 4 + j, none⟩ = some u := fun j u hu => by
      obtain ⟨g', o', e', c1⟩ := hc _ _ hu
      simp at e'
      obtain ⟨rfl, rfl⟩ := e'
      rw [Nat.add_assoc]; exact c1
    exact ⟨av, bv, h1, h2.1, h2.2, same 0 _ h3, same 1 _ h4, same 2 _ h5, same 3 _ h6⟩
theorem BlkAt.below {w w' : World} {g o : Nat} {b : BlockL} {av bv : Value} (h : BlkAt w g o b av bv) (hb : Below w.heap.size w w') : BlkAt w' g o b av bv := by
  have mv : ∀ (p : Addr) (u : Value), w.cell? p = some u → w'.cell? p = some u := fun p u hu => (hb.cell (p := p) (World.block_lt_of_cell? _ _ hu)).trans hu
  exact ⟨h.attrs.below hb, h.blocks.below hb, h.caps, mv _ _ h.kind, mv _ _ h.label, mv _ _ h.av_, mv _ _ h.bv_⟩
/-- A row of one block. -/
theorem BlkAt.one {w : World} {g o : Nat} {b : BlockL} {av bv : Value} (h : BlkAt w g o b av bv) (cap : Nat) : BlocksRd 2 w (.slice (some ⟨g, o, none⟩) 1 cap) [b] := by
  refine ⟨[.int .i64 b.kind, .string b.label, av, bv], ⟨_, _, rfl, fun j u hj => ⟨g, o, rfl, ?_⟩⟩, av, bv, [], rfl, h.attrs, h.blocks, rfl⟩
  match j, hj with
  | 0, hj => cases hj; exact h.kind
  | 1, hj => cases hj; exact h.label
  | 2, hj => cases hj; exact h.av_
  | 3, hj => cases hj; exact h.bv_
  | j + 4, hj => simp at hj
theorem elemBlk : Tryd.prog.elem 26 = 33 := by kernel_rfl
theorem sizeBlk (w : World) : (sizeOf (Tryd.prog.elem 26)).run Tryd.prog w = .ok 4 w := by kernel_rfl
theorem sl_one (g o len cap i : Nat) (h : i + 1 ≤ cap) (W : World) : (Instr.slice 26 (.slice (some ⟨g, o, none⟩) len cap) (some (.int .i64 (i : Int))) (some (.int .i64 ((i : Int) + 1))) none).run Tryd.prog W = .ok (.slice (some ⟨g, o + i * 4, none⟩) 1 (cap - i)) W := by
  rw [run_slice_lh (P := Tryd.prog) W 26 (some ⟨g, o, none⟩) len cap (by rw [elemBlk]; exact Tryd.underlying26) .i64 .i64 (i : Int) ((i : Int) + 1) (by omega) (by omega) (by omega), sizeBlk]
  have e1 : ((i : Int) + 1).toNat = i + 1 := by omega
  have e2 : (i : Int).toNat = i := by omega
  show Result.ok (sliced (some ⟨g, o, none⟩) (i : Int).toNat ((i : Int) + 1).toNat cap 4) W = _
  rw [e1, e2]
  unfold sliced
  rw [if_neg (by omega)]
  simp [Addr.add]
theorem blockV_bnd (n k : Nat) (hn : n < 6) : BlkB 2 [blockV n k] := by
  have h : ∀ m, m ≤ 6 → ∀ a ∈ attrsV m, ∃ j, j < m ∧ a = ⟨aName j, [nuN j]⟩ := by
    intro m
    induction m with
    | zero => intro _ a ha; cases ha
    | succ m ih =>
      intro hm a ha
      rcases List.mem_append.1 ha with ha | ha
      · obtain ⟨j, h1, h2⟩ := ih (by omega) a ha; exact ⟨j, by omega, h2⟩
      · simp at ha; exact ⟨m, by omega, ha⟩
  refine ⟨by show 1 ≤ 100000; decide, fun b hb => ?_⟩
  simp at hb
  subst hb
  refine ⟨⟨by show (attrsV n).length ≤ _; rw [attrsV_len]; omega, fun a ha => ?_⟩, by show (0 : Nat) ≤ _; omega, fun b hb => by cases hb⟩
  obtain ⟨j, -, rfl⟩ := h n (by omega) a ha
  refine ⟨by show 1 ≤ 100000; decide, fun m hm => ?_⟩
  simp at hm
  subst hm
  exact ⟨Nat.zero_le _, Nat.zero_le _⟩
theorem attrsV_get : ∀ n j, j < n → (attrsV n)[j]? = some ⟨aName j, [nuN j]⟩ := by
  intro n
  induction n with
  | zero => intro j h; omega
  | succ n ih =>
    intro j h
    have hl := attrsV_len n
    by_cases hj : j < n
    · rw [attrsV, List.getElem?_append_left (by omega), ih j hj]
    · obtain rfl : j = n := by omega
      rw [attrsV, List.getElem?_append_right (by omega), hl, Nat.sub_self]
      rfl
theorem inner_at {w : World} {ao : Option Addr} {m cap : Nat} {bs : List BlockL} (h : BlocksRd 1 w (.slice ao m cap) bs) {i : Nat} {b : BlockL} (hi : bs[i]? = some b) : ∃ g o av bv, ao = some ⟨g, o, none⟩ ∧ BlkAt w g (o + i * 4) b av bv := by
  obtain ⟨ao2, cap2, e, hat⟩ := h.at
  simp only [Value.slice.injEq] at e
  obtain ⟨rfl, -, -⟩ := e
  obtain ⟨g, o, av, bv, e, h1, ⟨h2, bo, bc, rfl⟩, h3, h4, h5, h6⟩ := hat i b hi
  refine ⟨g, o, av, _, e, ⟨h1, ?_, ⟨bo, bc, by rw [h2]; rfl, by rw [h2]; exact Nat.zero_le _⟩, h3, h4, h5, h6⟩⟩
  rw [h2]
  exact ⟨[], ⟨bo, bc, rfl, fun j u h => by simp at h⟩, rfl⟩
theorem aName_app (j : Nat) : aName j = ⟨#[97]⟩ ++ decB j := by unfold aName decB; apply ByteArray.ext; simp
def ChkRel (w : World) (n m : Nat) (iv : Value) (wr : World) : Prop := ∃ i : Nat, iv = .int .i64 i ∧ n - i ≤ m ∧ i ≤ n ∧ Below w.heap.size w wr
section
variable (w : World)
set_option maxHeartbeats 4000000 in
set_option maxRecDepth 20000 in
theorem law_blocks (nv : Value) (xs : List Nat) (a : Nat) (tw : Bool) (hn : BytesRd w nv xs) (hx : ∀ x ∈ xs, x < 256) (hl : xs.length ≤ maxLen) (ha : a < 256) (hv : ErrVar w) : Calls Tryd.prog 3 #[nv, .int .u8 a, .bool tw] w (Made (.bool true) w) := by
  have V := Lib.hid hv
  obtain ⟨nao, ncap, rfl, hnc⟩ := hn
  have NC := Lib.hid hnc
  have HX := Lib.hid hx
  unfold maxLen at hl
  clear hv hnc hx
  by_cases h1 : 20 < xs.length
  · go_enter Tryd.func3, Tryd.ntmps3
    go_wp2_with fail
    refine (pawake w V.out).mono ?_
    rintro e w1 ⟨rfl, hb1⟩
    have B1 := Lib.hid hb1
    clear hb1
    go_wp2_with fail
    go_ret
    exact ⟨rfl, B1.out⟩
  have hn6 : a % 6 < 6 := by omega
  have hna : (a : Int) % 6 = ((a % 6 : Nat) : Int) := by omega
  generalize hN : a % 6 = n at *
  clear hN
  have KS : ∃ ks : List Nat, ks = xs.map (fun x => 1 + x % 4) ∧ ks.length = xs.length := ⟨_, rfl, by simp⟩
  obtain ⟨ks, hks, hkl⟩ := KS
  have HK := Lib.hid hks
  have KL := Lib.hid hkl
  have XB : ∃ x : Bool, x = (tw && decide (0 < n) && decide (0 < xs.length)) := ⟨_, rfl⟩
  obtain ⟨x, hxb⟩ := XB
  have HXB := Lib.hid hxb
  have AL := Lib.hid (fun i (h : i ≤ xs.length) => acc_len (n := n) (x := x) (ks := ks) hn6 i (by rw [hkl]; exact h))
  clear hks hkl hxb
  go_enter Tryd.func3, Tryd.ntmps3
  go_wp2_with fail
  rw [hna]
  go_loopg [8, 9] xs.length (fun m sv iv wr => BldRel w n x ks m sv iv wr)
  case atStart => exact ⟨0, rfl, by unfold accL; split <;> (try rfl); have : ks = [] := List.eq_nil_of_length_eq_zero (by omega); subst this; rfl, by rw [KL.out]; exact Nat.le_refl _, Nat.zero_le _, Below.refl _ _⟩
  case round =>
    obtain ⟨i, rfl, rfl, hm, hi, hb⟩ := hrel
    rw [KL.out] at hm hi
    have HM := Lib.hid hm
    have BR := Lib.hid hb
    clear hm hb
    by_cases hil : i < xs.length
    · obtain ⟨y, hy⟩ : ∃ y, xs[i]? = some y := ⟨_, List.getElem?_eq_getElem hil⟩
      have y256 := HX.out y (List.mem_of_getElem? hy)
      obtain ⟨gb, ob, rfl, hc⟩ := NC.out i (.int .u8 (y : Int)) (by rw [List.getElem?_map, hy]; rfl)
      have cy := (BR.out.cell (p := ⟨gb, ob + i, none⟩) (World.block_lt_of_cell? _ _ hc)).trans hc
      have hky : ks[i]? = some (1 + y % 4) := by rw [HK.out, List.getElem?_map, hy]; rfl
      have hk4 : (1 : Int) + (y : Int) % 4 = ((1 + y % 4 : Nat) : Int) := by omega
      have k1 : 1 ≤ 1 + y % 4 := by omega
      have k2 : 1 + y % 4 ≤ 4 := by omega
      generalize 1 + y % 4 = k at *
      have ST := Lib.hid (acc_step (n := n) (x := x) hky)
      have HD := Lib.hid (hd_cell k k1 k2)
      have al := AL.out i (by omega)
      have hh := headL_len k
      generalize hA : accL n x ks i = A at *
      have AX := Lib.hid hA
      clear hA hc hy hky
      have f1 : (wr.alloc (.cells #[.string ⟨#[]⟩, .string ⟨#[118, 97, 114, 105, 97, 98, 108, 101, 32, 34, 118, 34, 32, 123]⟩, .string ⟨#[108, 111, 99, 97, 108, 115, 32, 123]⟩, .string ⟨#[110, 111, 100, 101, 32, 34, 110, 34, 32, 123]⟩, .string ⟨#[109, 111, 100, 117, 108, 101, 32, 34, 109, 34, 32, 123]⟩] 9)).cell? ⟨wr.heap.size, k, none⟩ = some (.string (TX (headL k))) := HD.out wr
      have sA : (TX A).size ≤ 1600 := by rw [tx_size]; omega
      have sH : (TX (headL k)).size ≤ 14 := by rw [tx_size]; exact hh
      have B2 := Lib.hid (show Below w.heap.size w (wr.alloc (.cells #[.string ⟨#[]⟩, .string ⟨#[118, 97, 114, 105, 97, 98, 108, 101, 32, 34, 118, 34, 32, 123]⟩, .string ⟨#[108, 111, 99, 97, 108, 115, 32, 123]⟩, .string ⟨#[110, 111, 100, 101, 32, 34, 110, 34, 32, 123]⟩, .string ⟨#[109, 111, 100, 117, 108, 101, 32, 34, 109, 34, 32, 123]⟩] 9)) from BR.out.alloc BR.out.size _)
      go_upto_region 10 with fail
      have E1 := tx_app A (headL k)
      rw [E1]
      clear E1 f1
      generalize wr.alloc (.cells #[.string ⟨#[]⟩, .string ⟨#[118, 97, 114, 105, 97, 98, 108, 101, 32, 34, 118, 34, 32, 123]⟩, .string ⟨#[108, 111, 99, 97, 108, 115, 32, 123]⟩, .string ⟨#[110, 111, 100, 101, 32, 34, 110, 34, 32, 123]⟩, .string ⟨#[109, 111, 100, 117, 108, 101, 32, 34, 109, 34, 32, 123]⟩] 9) = w2 at *
      have A2 := Lib.hid (show (A ++ headL k).length ≤ 1614 by rw [List.length_append]; omega)
      generalize hA2 : A ++ headL k = A2L at *
      have HA2 := Lib.hid hA2
      clear hA2 sA sH al hh cy
      go_wp2_with fail
      go_loopg [8, 11] n (fun m sv jv wr => AttRel w n A2L m sv jv wr)
      case atStart => exact ⟨0, rfl, by rw [show attrsL 0 = [] from rfl, List.append_nil], Nat.le_refl _, Nat.zero_le _, B2.out⟩
      case round =>
        obtain ⟨j, rfl, rfl, hmj, hj, hbj⟩ := hrel
        have HMj := Lib.hid hmj
        have BJ := Lib.hid hbj
        clear hmj hbj
        have l1 := attrsL_len j (by omega)
        have sT : (TX (A2L ++ attrsL j)).size ≤ 1660 := by rw [tx_size, List.length_append]; have := A2.out; omega
        by_cases hjn : j < n
        · have TXT := Lib.hid (att_txt A2L j)
          have sD : (decB j).size ≤ 1 := by have := dec_len2 j (by omega); simpa [decB, ByteArray.size] using this
          have DG := Lib.hid (fun W => rdigits_any W j (j : Int) rfl (by omega))
          have z1 : (⟨#[32, 97]⟩ : ByteArray).size = 2 := rfl
          have z2 : (⟨#[32, 61, 32]⟩ : ByteArray).size = 3 := rfl
          generalize TX (A2L ++ attrsL j) = TA at *
          generalize decB j = DJ at *
          go_wp2_with fail
          refine (DG.out _).mono ?_
          rintro e w3 ⟨rfl, hb3⟩
          have B3 := Lib.hid (BJ.out.trans (hb3.mono BJ.out.size))
          clear hb3
          go_wp2_with fail
          refine (DG.out _).mono ?_
          rintro e w4 ⟨rfl, hb4⟩
          have B4 := Lib.hid (B3.out.trans (hb4.mono B3.out.size))
          clear hb4
          go_wp2_with fail
          go_roundg (n - (j + 1))
          case rel => exact ⟨j + 1, rfl, by rw [TXT.out], Nat.le_refl _, hjn, B4.out⟩
          case measure => have := HMj.out; omega
        · obtain rfl : j = n := by omega
          have z3 : (⟨#[32, 125, 10]⟩ : ByteArray).size = 3 := rfl
          have z4 : (⟨#[32, 97, 48, 32, 61, 32, 49]⟩ : ByteArray).size = 7 := rfl
          by_cases hext : (x && decide (i + 1 = ks.length)) = true
          · have FIN := Lib.hid (show TX (A2L ++ attrsL j) ++ ⟨#[32, 97, 48, 32, 61, 32, 49]⟩ ++ ⟨#[32, 125, 10]⟩ = TX (accL j x ks (i + 1)) by
              rw [extra_txt, close_txt, ST.out, hext, ← HA2.out]; simp [blockL])
            have hx0 := HXB.out
            simp only [Bool.and_eq_true, decide_eq_true_eq] at hext
            rw [hext.1] at hx0
            replace hx0 := hx0.symm
            simp only [Bool.and_eq_true, decide_eq_true_eq] at hx0
            obtain ⟨⟨htw, hj0⟩, -⟩ := hx0
            have hlast : i + 1 = xs.length := by rw [← KL.out]; exact hext.2
            have e1 : ((i : Int) == (xs.length : Int) - 1) = true := by rw [beq_iff_eq]; omega
            have e2 : decide ((j : Int) > 0) = true := decide_eq_true (by omega)
            clear hext hlast
            subst htw
            have sT2 : (TX (A2L ++ attrsL j) ++ ⟨#[32, 97, 48, 32, 61, 32, 49]⟩).size ≤ 1700 := by rw [ByteArray.size_append]; omega
            generalize TX (A2L ++ attrsL j) = TA at *
            go_wp2_with fail
            go_roundg (xs.length - (i + 1))
            case rel => exact ⟨i + 1, rfl, by rw [FIN.out], by rw [KL.out]; exact Nat.le_refl _, by rw [KL.out]; exact hil, BJ.out⟩
            case measure => have := HM.out; omega
          · have hext : (x && decide (i + 1 = ks.length)) = false := by simpa using hext
            have FIN := Lib.hid (show TX (A2L ++ attrsL j) ++ ⟨#[32, 125, 10]⟩ = TX (accL j x ks (i + 1)) by
              rw [close_txt, ST.out, hext, ← HA2.out]; simp [blockL, extraL])
            have HE := Lib.hid hext
            clear hext
            generalize TX (A2L ++ attrsL j) = TA at *
            cases tw with
            | false =>
              go_wp2_with fail
              go_roundg (xs.length - (i + 1))
              case rel => exact ⟨i + 1, rfl, by rw [FIN.out], by rw [KL.out]; exact Nat.le_refl _, by rw [KL.out]; exact hil, BJ.out⟩
              case measure => have := HM.out; omega
            | true =>
              by_cases hlast : i + 1 = xs.length
              · have e1 : ((i : Int) == (xs.length : Int) - 1) = true := by rw [beq_iff_eq]; omega
                have hj0 : j = 0 := by
                  by_cases hj0 : 0 < j
                  · exfalso
                    have h := HE.out
                    have hxt : x = true := by
                      rw [HXB.out]
                      simp only [Bool.and_eq_true, decide_eq_true_eq, true_and]
                      exact ⟨hj0, by omega⟩
                    have hd : decide (i + 1 = ks.length) = true := by rw [KL.out]; simpa using hlast
                    rw [hxt, hd] at h
                    cases h
                  · omega
                have e2 : decide (0 < j) = false := by simp [hj0]
                have hj1 : ¬ 0 < j := by omega
                clear hj0 hlast
                go_wp2_with fail
                go_roundg (xs.length - (i + 1))
                case rel => exact ⟨i + 1, rfl, by rw [FIN.out], by rw [KL.out]; exact Nat.le_refl _, by rw [KL.out]; exact hil, BJ.out⟩
                case measure => have := HM.out; omega
              · have e1 : ((i : Int) == (xs.length : Int) - 1) = false := by rw [beq_eq_false_iff_ne]; omega
                clear hlast
                go_wp2_with fail
                go_roundg (xs.length - (i + 1))
                case rel => exact ⟨i + 1, rfl, by rw [FIN.out], by rw [KL.out]; exact Nat.le_refl _, by rw [KL.out]; exact hil, BJ.out⟩
                case measure => have := HM.out; omega
    · obtain rfl : i = xs.length := by omega
      have hS : accL n x ks xs.length = blocksL n x ks := by unfold accL; rw [if_neg (by rw [KL.out]; exact Nat.lt_irrefl _)]
      have al := AL.out xs.length (Nat.le_refl _)
      rw [hS] at al
      rw [hS]
      have hkk : ∀ k ∈ ks, 1 ≤ k ∧ k ≤ 4 := fun k hk => by
        rw [HK.out] at hk
        obtain ⟨y, -, rfl⟩ := List.mem_map.1 hk
        omega
      have sB : (TX (blocksL n x ks)).size ≤ 1600 := by rw [tx_size]; omega
      have ALL := Lib.hid (all_txt n x ks)
      have SZ := Lib.hid (show (TX (blocksL n x ks) ++ ⟨#[100, 101, 102, 105, 110, 101, 32, 34, 100, 34, 32, 123, 32]⟩ ++ TX (blocksL n x ks) ++ ⟨#[32, 125]⟩).size ≤ 6000 by
        simp only [ByteArray.size_append]
        have : (⟨#[100, 101, 102, 105, 110, 101, 32, 34, 100, 34, 32, 123, 32]⟩ : ByteArray).size = 13 := rfl
        have : (⟨#[32, 125]⟩ : ByteArray).size = 2 := rfl
        omega)
      have z1 : (⟨#[100, 101, 102, 105, 110, 101, 32, 34, 100, 34, 32, 123, 32]⟩ : ByteArray).size = 13 := rfl
      have z2 : (⟨#[32, 125]⟩ : ByteArray).size = 2 := rfl
      have TXT := Lib.hid (all_text (s := TX (blocksL n x ks) ++ ⟨#[100, 101, 102, 105, 110, 101, 32, 34, 100, 34, 32, 123, 32]⟩ ++ TX (blocksL n x ks) ++ ⟨#[32, 125]⟩) (n := n) (x := x) hn6 ks SZ.out (by rw [ALL.out]; rfl))
      have HKK := Lib.hid hkk
      clear hS al hkk HM
      generalize hTB : TX (blocksL n x ks) = TB at *
      clear hTB
      by_cases hxx : x = true
      · have hx0 := HXB.out
        rw [hxx] at hx0
        replace hx0 := hx0.symm
        simp only [Bool.and_eq_true, decide_eq_true_eq] at hx0
        obtain ⟨⟨htw, hn0⟩, hl0⟩ := hx0
        have PR := Lib.hid (show parseM evN 9001 (TB ++ ⟨#[100, 101, 102, 105, 110, 101, 32, 34, 100, 34, 32, 123, 32]⟩ ++ TB ++ ⟨#[32, 125]⟩) = some (3, []) by
          rw [TXT.out, hxx]
          have hne : ks ≠ [] := fun e => by have := KL.out; rw [e] at this; simp at this; omega
          have hdl : ks.dropLast ++ [ks.getLast hne] = ks := List.dropLast_concat_getLast hne
          rw [← hdl]
          exact all_bad (by decide) (by decide) hn6 hn0 _ _ (by rw [hdl]; exact HKK.out) (by rw [hdl, KL.out]; omega))
        have e1 : decide ((n : Int) > 0) = true := decide_eq_true (by omega)
        have e2 : decide ((xs.length : Int) > 0) = true := decide_eq_true (by omega)
        subst htw
        clear hxx
        go_wp2_with fail
        refine (pparse _ _ evN 9001 3 [] (by have := SZ.out; unfold maxLen; omega) (V.out.below BR.out V.out.lt) PR.out).mono ?_
        rintro e w3 ⟨xv, rfl, hb3, hp3⟩
        have B3 := Lib.hid (BR.out.trans (hb3.mono BR.out.size))
        obtain ⟨xao, xcap, rfl⟩ := parsed_nil hp3
        clear hb3 hp3
        go_wp2_with fail
        refine (num_pany _ 3 (by omega) (by omega)).mono ?_
        rintro e w4 ⟨rfl, rfl⟩
        go_wp2_with fail
        refine (pawake _ (V.out.below B3.out V.out.lt)).mono ?_
        rintro e w8 ⟨rfl, hb8⟩
        have B8 := Lib.hid (B3.out.trans (hb8.mono B3.out.size))
        clear hb8
        go_wp2_with fail
        go_ret
        exact ⟨rfl, B8.out⟩
      · have hxf : x = false := by simpa using hxx
        have PR := Lib.hid (show parseM evN 9001 (TB ++ ⟨#[100, 101, 102, 105, 110, 101, 32, 34, 100, 34, 32, 123, 32]⟩ ++ TB ++ ⟨#[32, 125]⟩) = some (0, ks.map (blockV n) ++ [defV (ks.map (blockV n))]) by
          rw [TXT.out, hxf]
          exact all_good (by decide) (by decide) hn6 ks HKK.out (by rw [KL.out]; omega))
        have hnx : tw = false ∨ n = 0 ∨ xs.length = 0 := by
          have h := HXB.out
          rw [hxf] at h
          cases tw with
          | false => exact .inl rfl
          | true =>
            right
            by_cases h0 : 0 < n
            · right
              by_cases h2 : 0 < xs.length
              · simp [h0, h2] at h
              · omega
            · left; omega
        have NX := Lib.hid hnx
        clear hxx hxf hnx
        have HBL := Lib.hid (show (ks.map (blockV n) ++ [defV (ks.map (blockV n))]).length = xs.length + 1 by simp [KL.out])
        go_wp2_with fail
        refine (pparse _ _ evN 9001 0 _ (by have := SZ.out; unfold maxLen; omega) (V.out.below BR.out V.out.lt) PR.out).mono ?_
        rintro e w3 ⟨xv, rfl, hb3, hp3⟩
        have B3 := Lib.hid (BR.out.trans (hb3.mono BR.out.size))
        obtain ⟨g, o, cap, rfl, hcap, hat⟩ := parsed_at hp3 (by simp)
        rw [HBL.out] at hcap
        rw [HBL.out]
        have HAT := Lib.hid hat
        clear hb3 hp3 hat
        go_upto_region 18 with fail
        go_cut [90] (fun s90 wx => s90 = .bool false ∧ w3 = wx)
        case first =>
          rcases NX.out with h | h | h
          · subst h
            go_wp2_with fail
            go_meet
            case rel => exact ⟨rfl, rfl⟩
          · have e1 : decide ((n : Int) > 0) = false := decide_eq_false (by omega)
            have e3 : ¬ 0 < n := by omega
            clear h
            cases tw
            all_goals go_wp2_with fail
            all_goals go_meet
            all_goals (case rel => exact ⟨rfl, rfl⟩)
          · have e1 : decide ((xs.length : Int) > 0) = false := decide_eq_false (by omega)
            have e3 : ¬ 0 < xs.length := by omega
            clear h
            cases tw
            all_goals by_cases hn0 : 0 < n
            all_goals go_wp2_with fail
            all_goals go_meet
            all_goals (case rel => exact ⟨rfl, rfl⟩)
        case rest =>
          obtain ⟨rfl, rfl⟩ := hcut
          obtain ⟨dav, dbv, hdef⟩ := HAT.out xs.length (defV (ks.map (blockV n))) (by rw [List.getElem?_append_right (by simp [KL.out]), List.length_map, KL.out, Nat.sub_self]; rfl)
          obtain ⟨bao, bcap, rfl, hbcap⟩ := hdef.caps
          have hbl : (defV (ks.map (blockV n))).blocks.length = xs.length := by show (ks.map (blockV n)).length = _; rw [List.length_map, KL.out]
          have DEF := Lib.hid hdef
          have c3 := hdef.bv_
          rw [hbl] at hbcap c3
          clear hdef
          go_wp2_with fail
          refine (num_pany _ 0 (by omega) (by omega)).mono ?_
          rintro e w4 ⟨rfl, rfl⟩
          go_wp2_with fail
          have C3 := Lib.hid c3
          clear c3
          go_loopg [14] xs.length (fun m iv wr => ChkRel w3 xs.length m iv wr)
          case atStart => exact ⟨0, rfl, Nat.le_refl _, Nat.zero_le _, Below.refl _ _⟩
          case round =>
            obtain ⟨i, rfl, hmi, hi, hbi⟩ := hrel
            have HMi := Lib.hid hmi
            have BI := Lib.hid hbi
            clear hmi hbi
            by_cases hil : i < xs.length
            · obtain ⟨y, hy⟩ : ∃ y, xs[i]? = some y := ⟨_, List.getElem?_eq_getElem hil⟩
              have y256 := HX.out y (List.mem_of_getElem? hy)
              obtain ⟨gb, ob, rfl, hc⟩ := NC.out i (.int .u8 (y : Int)) (by rw [List.getElem?_map, hy]; rfl)
              have BW := Lib.hid (B3.out.trans (BI.out.mono B3.out.size))
              have cy := (BW.out.cell (p := ⟨gb, ob + i, none⟩) (World.block_lt_of_cell? _ _ hc)).trans hc
              have hky : ks[i]? = some (1 + y % 4) := by rw [HK.out, List.getElem?_map, hy]; rfl
              have hbi : (ks.map (blockV n))[i]? = some (blockV n (1 + y % 4)) := by rw [List.getElem?_map, hky]; rfl
              obtain ⟨av, bv, hba⟩ := HAT.out i (blockV n (1 + y % 4)) (by rw [List.getElem?_append_left (by simp [KL.out]; omega)]; exact hbi)
              obtain ⟨g2, o2, av2, bv2, rfl, hbb⟩ := inner_at DEF.out.blocks hbi
              have ha1 := hba.below BI.out
              have ha2 := hbb.below BI.out
              obtain ⟨aao, acap, rfl, hatt⟩ := ha1.attrs.at
              have hal : (blockV n (1 + y % 4)).attrs.length = n := attrsV_len n
              rw [hal] at *
              have ATT := Lib.hid (show ∀ j, j < n → ∃ ga oa nv, aao = some ⟨ga, oa, none⟩ ∧ NodesRd wr nv [nuN j] ∧ wr.cell? ⟨ga, oa + j * 2, none⟩ = some (.string (aName j)) ∧ wr.cell? ⟨ga, oa + j * 2 + 1, none⟩ = some nv from fun j hj => hatt j _ (attrsV_get n j hj))
              have SB := Lib.hid (fun W (hw : Below wr.heap.size wr W) => sameBlocks_any 2 W _ _ _ (((ha1.one (cap - i))).below hw) ((ha2.one (bcap - i)).below hw) (blockV_bnd n (1 + y % 4) hn6))
              have c0 : wr.cell? ⟨g, o + i * 4, none⟩ = some (.int .i64 ((1 + y % 4 : Nat) : Int)) := ha1.kind
              have c2 : wr.cell? ⟨g, o + i * 4 + 2, none⟩ = some (.slice aao n acap) := by
                have h := ha1.av_
                rw [show (blockV n (1 + y % 4)).attrs.length = n from attrsV_len n] at h
                exact h
              have c3 := (BI.out.cell (p := ⟨g, o + xs.length * 4 + 3, none⟩) (World.block_lt_of_cell? _ _ C3.out)).trans C3.out
              have sl1 := fun W => sl_one g o (xs.length + 1) cap i (by omega) W
              have sl2 := fun W => sl_one g2 o2 xs.length bcap i (by omega) W
              have hk4 : (1 : Int) + (y : Int) % 4 = ((1 + y % 4 : Nat) : Int) := by omega
              generalize 1 + y % 4 = k at *
              have n3 : (y : Int).tmod 4 = (y : Int) % 4 := Int.tmod_eq_emod_of_nonneg (by omega)
              have n5 : IntKind.i64.wrap (y : Int) = (y : Int) := IntWalk.i64_in _ (by omega)
              have n6 : IntKind.i64.wrap ((y : Int) % 4) = (y : Int) % 4 := IntWalk.i64_in _ (by omega)
              have n7 : IntKind.i64.wrap ((1 : Int) + (y : Int) % 4) = (k : Int) := by rw [hk4]; exact IntWalk.i64_in _ (by omega)
              have n8 : IntKind.i64.wrap ((i : Int) + 1) = (i : Int) + 1 := IntWalk.i64_in _ (by omega)
              have b1 : (0 : Int) ≤ (i : Int) := by omega
              have n10 : IntKind.i64.wrap (k : Int) = (k : Int) := IntWalk.i64_in _ (by omega)
              clear hk4
              have b2 : (i : Int) < (xs.length : Int) := by omega
              have b3 : (i : Int) < (xs.length : Int) + 1 := by omega
              have b6 : (xs.length : Int) < (xs.length : Int) + 1 := by omega
              have b7 : (0 : Int) ≤ (xs.length : Int) := by omega
              clear hc hy hky hbi hba hbb ha1 ha2 hatt hal
              go_upto_region 25 with fail
              go_cut [172] (fun s172 wx => s172 = .bool false ∧ Below wr.heap.size wr wx)
              case first =>
                go_region_held3 (fun w' => w'.cell? ⟨g, o + i * 4, none⟩ = some (.int .i64 (k : Int)) ∧ w'.cell? ⟨g, o + i * 4 + 2, none⟩ = some (.slice aao n acap) ∧ w'.cell? ⟨gb, ob + i, none⟩ = some (.int .u8 y) ∧ w'.cell? ⟨g, o + xs.length * 4 + 3, none⟩ = some (.slice (some ⟨g2, o2, none⟩) xs.length bcap)) (first | exact ⟨HKx.out _ _ c0, HKx.out _ _ c2, HKx.out _ _ cy, HKx.out _ _ c3⟩ | go_keep) (first
                  | (go_at_call 9; (with_reducible refine (SB.out _ ?_).mono ?_); exact below_drewN (Below.refl _ _) _; rintro e w' ⟨rfl, hbx⟩; have HBx := Lib.hid (show Below wr.heap.size wr w' from ⟨hbx.os, hbx.tape, hbx.output, hbx.size, hbx.block⟩); have HKx := Lib.hid (fun (p : Addr) (u : Value) (hu : wr.cell? p = some u) => (HBx.out.cell (p := p) (World.block_lt_of_cell? _ _ hu)).trans hu); clear hbx))
                all_goals go_wp2
                all_goals go_meet
                all_goals (case rel => exact ⟨rfl, HBx.out⟩)
              case rest =>
                obtain ⟨rfl, hbx⟩ := hcut
                have BX := Lib.hid hbx
                clear hbx c0 cy c3 sl1 sl2 n3 n5 n6 n7 n10 y256 b3 SB BW
                obtain ⟨W0, hW0⟩ : ∃ W, W = wr := ⟨_, rfl⟩
                subst hW0
                have C2 := Lib.hid c2
                clear c2
                go_wp2_with fail
                go_loopg [15] n (fun m jv wj => ChkRel W0 n m jv wj)
                case atStart => exact ⟨0, rfl, Nat.le_refl _, Nat.zero_le _, BX.out⟩
                case round =>
                  obtain ⟨j, rfl, hmj, hj, hbj⟩ := hrel
                  have HMj := Lib.hid hmj
                  have BJ := Lib.hid hbj
                  clear hmj hbj
                  by_cases hjn : j < n
                  · obtain ⟨ga, oa, nv, hao, hnd, d0, d1⟩ := ATT.out j hjn
                    obtain ⟨nao, ncap2, hnv, hnat⟩ := hnd.at
                    obtain ⟨gn, on, pv, kv, hno, -, -, -, e1, -, -, -⟩ := hnat 0 (nuN j) rfl
                    have d2 := C2.out
                    rw [hnv, hno] at d1
                    rw [hao] at d2
                    rw [aName_app] at d0
                    replace d1 : W0.cell? ⟨ga, oa + j * 2 + 1, none⟩ = some (.slice (some ⟨gn, on, none⟩) 1 ncap2) := d1
                    replace e1 : W0.cell? ⟨gn, on + 1, none⟩ = some (.int .i64 (j : Int)) := by simpa [nuN] using e1
                    replace d0 := (BJ.out.cell (p := ⟨ga, oa + j * 2, none⟩) (World.block_lt_of_cell? _ _ d0)).trans d0
                    replace d1 := (BJ.out.cell (p := ⟨ga, oa + j * 2 + 1, none⟩) (World.block_lt_of_cell? _ _ d1)).trans d1
                    replace d2 := (BJ.out.cell (p := ⟨g, o + i * 4 + 2, none⟩) (World.block_lt_of_cell? _ _ d2)).trans d2
                    replace e1 := (BJ.out.cell (p := ⟨gn, on + 1, none⟩) (World.block_lt_of_cell? _ _ e1)).trans e1
                    clear hnv hno hao hnat hnd
                    have sD : (decB j).size ≤ 1 := by have := dec_len2 j (by omega); simpa [decB, ByteArray.size] using this
                    have DG := Lib.hid (fun W => rdigits_any W j (j : Int) rfl (by omega))
                    have z1 : (⟨#[97]⟩ : ByteArray).size = 1 := rfl
                    generalize decB j = DJ at *
                    have m1 : ¬ 9223372036854775807 < 1 + DJ.size := by omega
                    have b4 : (0 : Int) ≤ (j : Int) := by omega
                    have b5 : (j : Int) < (n : Int) := by omega
                    have b3 : (i : Int) < (xs.length : Int) + 1 := by omega
                    obtain ⟨WJ, hWJ⟩ : ∃ W, W = wr := ⟨_, rfl⟩
                    subst hWJ
                    clear sD
                    go_upto_region 30 with fail
                    go_cut [219] (fun s219 wx => s219 = .bool false ∧ Below W0.heap.size W0 wx)
                    case first =>
                      go_region_held3 (fun w' => w'.cell? ⟨g, o + i * 4 + 2, none⟩ = some (.slice (some ⟨ga, oa, none⟩) n acap) ∧ w'.cell? ⟨ga, oa + j * 2, none⟩ = some (.string (⟨#[97]⟩ ++ DJ)) ∧ w'.cell? ⟨ga, oa + j * 2 + 1, none⟩ = some (.slice (some ⟨gn, on, none⟩) 1 ncap2) ∧ w'.cell? ⟨gn, on + 1, none⟩ = some (.int .i64 (j : Int))) (first | exact ⟨HKy.out _ _ d2, HKy.out _ _ d0, HKy.out _ _ d1, HKy.out _ _ e1⟩ | go_keep) (first
                        | (go_at_call 6; (with_reducible refine (DG.out _).mono ?_); rintro e w' ⟨rfl, hby⟩; have HBy := Lib.hid (show Below WJ.heap.size WJ w' from ⟨hby.os, hby.tape, hby.output, hby.size, hby.block⟩); have HKy := Lib.hid (fun (p : Addr) (u : Value) (hu : WJ.cell? p = some u) => (HBy.out.cell (p := p) (World.block_lt_of_cell? _ _ hu)).trans hu); clear hby))
                      all_goals go_wp2
                      all_goals go_meet
                      all_goals (case rel => exact ⟨rfl, BJ.out.trans (HBy.out.mono BJ.out.size)⟩)
                    case rest =>
                      obtain ⟨rfl, hby⟩ := hcut
                      have BY := Lib.hid hby
                      clear hby d0 d1 d2 e1
                      have n9 : IntKind.i64.wrap ((j : Int) + 1) = (j : Int) + 1 := IntWalk.i64_in _ (by omega)
                      go_wp2_with fail
                      go_roundg (n - (j + 1))
                      case rel => exact ⟨j + 1, rfl, Nat.le_refl _, hjn, BY.out⟩
                      case measure => have := HMj.out; omega
                  · obtain rfl : j = n := by omega
                    go_wp2_with fail
                    go_roundg (xs.length - (i + 1))
                    case rel => exact ⟨i + 1, rfl, Nat.le_refl _, hil, BI.out.trans (BJ.out.mono BI.out.size)⟩
                    case measure => have := HMi.out; omega
            · go_wp2_with fail
              refine (pawake _ (V.out.below (B3.out.trans (BI.out.mono B3.out.size)) V.out.lt)).mono ?_
              rintro e w9 ⟨rfl, hb9⟩
              have B9 := Lib.hid ((B3.out.trans (BI.out.mono B3.out.size)).trans (hb9.mono (B3.out.trans (BI.out.mono B3.out.size)).size))
              clear hb9
              go_wp2_with fail
              go_ret
              exact ⟨rfl, B9.out⟩
end
end Go.Proofs.YtkbbhgipajhbnaaDoor
