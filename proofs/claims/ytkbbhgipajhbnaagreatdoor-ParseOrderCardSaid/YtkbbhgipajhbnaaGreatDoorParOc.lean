/- The law of order, walked. -/
import Derived.Test.YtkbbhgipajhbnaaGreatDoorParOb
import Derived.Test.YtkbbhgipajhbnaaGreatDoorParQ
import Derived.Test.YtkbbhgipajhbnaaGreatDoorBytesIn
import Derived.Test.YtkbbhgipajhbnaaGreatDoorLexX
import Derived.Deep.DeepCutAuto
import Derived.Deep.RegionHeld3
import Derived.IntWalk
namespace Go.Proofs.YtkbbhgipajhbnaaGreatDoor
open Go.RowKit
set_option linter.unusedVariables false
set_option linter.unusedSimpArgs false
def sev (xs : List Nat) : List Nat := xs.map (· % 7)
theorem sev_lt (xs : List Nat) : ∀ o ∈ sev xs, o < 7 := by
  intro o ho
  obtain ⟨x, -, rfl⟩ := List.mem_map.1 ho
  exact Nat.mod_lt _ (by decide)
theorem sev_get {xs : List Nat} {i y : Nat} (h : xs[i]? = some y) : (sev xs).getD i 0 = y % 7 := by
  unfold sev
  rw [List.getD_eq_getElem?_getD, List.getElem?_map, h]
  rfl
theorem restB_snoc : ∀ (a : List Nat) (o j : Nat), restB (a ++ [o]) j = restB a j ++ 32 :: ((oSign o).data.toList ++ 32 :: decTo (j + a.length) []) := by
  intro a
  induction a with
  | nil => intro o j; simp [restB]
  | cons b a ih => intro o j; simp only [List.cons_append, restB, ih, List.length_cons]; rw [show j + 1 + a.length = j + (a.length + 1) by omega]; simp
/-- The text up to its i-th operator. -/
def ordS (xs : List Nat) (i : Nat) : ByteArray := ⟨(ordB ((sev xs).take i)).toArray⟩
theorem ordS_step {xs : List Nat} {i y : Nat} (h : xs[i]? = some y) : ordS xs (i + 1) = ordS xs i ++ ⟨#[32]⟩ ++ oSign (y % 7) ++ ⟨#[32]⟩ ++ decB (i + 1) := by
  have hi : i < xs.length := (List.getElem?_eq_some_iff.1 h).1
  have h1 : (sev xs).take (i + 1) = (sev xs).take i ++ [y % 7] := by
    have hs : (sev xs)[i]? = some (y % 7) := by unfold sev; rw [List.getElem?_map, h]; rfl
    rw [List.take_add_one, hs]; rfl
  have hl : ((sev xs).take i).length = i := by unfold sev; simp; omega
  unfold ordS ordB
  rw [h1, restB_snoc, hl]
  apply ByteArray.ext
  apply Array.ext'
  simp [decB, Nat.add_comm 1 i]
theorem sign_size (o : Nat) : (oSign o).size ≤ 2 := by
  match o with
  | 0 => decide
  | 1 => decide
  | 2 => decide
  | 3 => decide
  | 4 => decide
  | 5 => decide
  | n + 6 => show (⟨#[37]⟩ : ByteArray).size ≤ 2; decide
theorem dec_size2 (u : Nat) (h : u < 100) : (decB u).size ≤ 2 := by
  have := dec_len 2 u [] (by simpa using h) (by decide)
  simpa [decB, ByteArray.size] using this
theorem ordS_size {xs : List Nat} : ∀ i, i ≤ xs.length → i ≤ 90 → (ordS xs i).size ≤ 1 + 6 * i := by
  intro i
  induction i with
  | zero => intro _ _; exact Nat.le_refl 1
  | succ i ih =>
    intro h h2
    rw [ordS_step (List.getElem?_eq_getElem (by omega : i < xs.length))]
    have := ih (by omega) (by omega)
    have h3 := sign_size (xs[i] % 7)
    have h4 := dec_size2 (i + 1) (by omega)
    simp only [ByteArray.size_append]
    have : (⟨#[32]⟩ : ByteArray).size = 1 := rfl
    omega
theorem least_step {os : List Nat} {i k : Nat} (h : (i = 0 ∧ k = 0) ∨ Least os 0 i k) :
    (oRank (os.getD i 0) ≤ oRank (os.getD k 0) → Least os 0 (i + 1) i) ∧ (¬ oRank (os.getD i 0) ≤ oRank (os.getD k 0) → Least os 0 (i + 1) k) := by
  rcases h with ⟨rfl, rfl⟩ | ⟨h1, h2, h3, h4⟩
  · refine ⟨fun _ => ⟨Nat.le_refl _, by omega, fun q _ hq => ?_, fun q h1 h2 => by omega⟩, fun h => absurd (Nat.le_refl _) h⟩
    obtain rfl : q = 0 := by omega
    exact Nat.le_refl _
  · refine ⟨fun h => ⟨Nat.zero_le _, by omega, fun q _ hq => ?_, fun q h1 h2 => by omega⟩, fun h => ⟨Nat.zero_le _, by omega, fun q _ hq => ?_, fun q q1 q2 => ?_⟩⟩
    · rcases Nat.lt_or_ge q i with hlt | hge
      · exact Nat.le_trans h (h3 q (Nat.zero_le _) hlt)
      · obtain rfl : q = i := by omega
        exact Nat.le_refl _
    · rcases Nat.lt_or_ge q i with hlt | hge
      · exact h3 q (Nat.zero_le _) hlt
      · obtain rfl : q = i := by omega
        omega
    · rcases Nat.lt_or_ge q i with hlt | hge
      · exact h4 q q1 hlt
      · obtain rfl : q = i := by omega
        omega
theorem least_one {os : List Nat} {i k l : Nat} (h : Least os 0 i k) (g : Least os 0 i l) : k = l := by
  obtain ⟨-, h2, h3, h4⟩ := h
  obtain ⟨-, g2, g3, g4⟩ := g
  rcases Nat.lt_trichotomy k l with h | h | h
  · have := h4 l h g2; have := g3 k (Nat.zero_le _) h2; omega
  · exact h
  · have := g4 k h h2; have := h3 l (Nat.zero_le _) g2; omega
def OrdRel (w : World) (xs : List Nat) (m : Nat) (sv kv iv : Value) (wr : World) : Prop :=
  ∃ i k : Nat, iv = .int .i64 i ∧ kv = .int .i64 k ∧ sv = .string (ordS xs i) ∧ xs.length - i ≤ m ∧ i ≤ xs.length ∧ k < xs.length ∧ ((i = 0 ∧ k = 0) ∨ Least (sev xs) 0 i k) ∧ Below w.heap.size w wr
def sgArr : Array Value := #[.string ⟨#[124, 124]⟩, .string ⟨#[38, 38]⟩, .string ⟨#[43]⟩, .string ⟨#[45]⟩, .string ⟨#[42]⟩, .string ⟨#[47]⟩, .string ⟨#[37]⟩]
def kdArr : Array Value := #[.int .i64 11, .int .i64 12, .int .i64 19, .int .i64 20, .int .i64 21, .int .i64 22, .int .i64 23]
def rkArr : Array Value := #[.int .i64 0, .int .i64 1, .int .i64 3, .int .i64 3, .int .i64 4, .int .i64 4, .int .i64 4]
def oRk (o : Nat) : Int := (oRank o : Int) - 1
theorem arr_get (o : Nat) (h : o < 7) : sgArr[o]? = some (.string (oSign o)) ∧ kdArr[o]? = some (.int .i64 (oKind o)) ∧ rkArr[o]? = some (.int .i64 (oRk o)) := by
  match o, h with
  | 0, _ => exact ⟨rfl, rfl, rfl⟩
  | 1, _ => exact ⟨rfl, rfl, rfl⟩
  | 2, _ => exact ⟨rfl, rfl, rfl⟩
  | 3, _ => exact ⟨rfl, rfl, rfl⟩
  | 4, _ => exact ⟨rfl, rfl, rfl⟩
  | 5, _ => exact ⟨rfl, rfl, rfl⟩
  | 6, _ => exact ⟨rfl, rfl, rfl⟩
/-- The three tables that the law lays first. -/
def Tables (W : World) (B : Nat) : Prop := ∀ o, o < 7 → W.cell? ⟨B, o, none⟩ = some (.string (oSign o)) ∧ W.cell? ⟨B + 1, o, none⟩ = some (.int .i64 (oKind o)) ∧ W.cell? ⟨B + 2, o, none⟩ = some (.int .i64 (oRk o))
theorem Tables.below {W W' : World} {B : Nat} (h : Tables W B) (hb : Below W.heap.size W W') : Tables W' B := fun o ho => by
  obtain ⟨a, b, c⟩ := h o ho
  exact ⟨(hb.cell (p := ⟨B, o, none⟩) (World.block_lt_of_cell? _ _ a)).trans a, (hb.cell (p := ⟨B + 1, o, none⟩) (World.block_lt_of_cell? _ _ b)).trans b, (hb.cell (p := ⟨B + 2, o, none⟩) (World.block_lt_of_cell? _ _ c)).trans c⟩
theorem tables_new (w : World) : Tables (((w.alloc (.cells sgArr 9)).alloc (.cells kdArr 3)).alloc (.cells rkArr 3)) w.heap.size := fun o ho => by
  obtain ⟨a, b, c⟩ := arr_get o ho
  have h1 := heap_alloc_new w (.cells sgArr 9)
  have h2 := heap_alloc_new (w.alloc (.cells sgArr 9)) (.cells kdArr 3)
  have h3 := heap_alloc_new ((w.alloc (.cells sgArr 9)).alloc (.cells kdArr 3)) (.cells rkArr 3)
  have s1 : (w.alloc (.cells sgArr 9)).heap.size = w.heap.size + 1 := by simp
  have s2 : ((w.alloc (.cells sgArr 9)).alloc (.cells kdArr 3)).heap.size = w.heap.size + 2 := by simp
  have b2 : Below (w.alloc (.cells sgArr 9)).heap.size (w.alloc (.cells sgArr 9)) ((w.alloc (.cells sgArr 9)).alloc (.cells kdArr 3)) := (Below.refl _ _).alloc (Nat.le_refl _) _
  have b3 : Below ((w.alloc (.cells sgArr 9)).alloc (.cells kdArr 3)).heap.size ((w.alloc (.cells sgArr 9)).alloc (.cells kdArr 3)) (((w.alloc (.cells sgArr 9)).alloc (.cells kdArr 3)).alloc (.cells rkArr 3)) := (Below.refl _ _).alloc (Nat.le_refl _) _
  rw [s1] at h2 b2
  rw [s2] at h3 b3
  have h1' := ((b3.block w.heap.size (by omega)).trans (b2.block w.heap.size (by omega))).trans h1
  have h2' := (b3.block (w.heap.size + 1) (by omega)).trans h2
  exact ⟨by rw [cell_of_row _ _ o _ _ _ h1']; exact a, by rw [cell_of_row _ _ o _ _ _ h2']; exact b, by rw [cell_of_row _ _ o _ _ _ h3]; exact c⟩
section
variable (w : World)
set_option maxHeartbeats 4000000 in
set_option maxRecDepth 20000 in
theorem law_order (nv : Value) (xs : List Nat) (hn : BytesRd w nv xs) (hx : ∀ x ∈ xs, x < 256) (hl : xs.length ≤ maxLen) (hv : ErrVar w) : Calls Tryz.prog 3 #[nv] w (Made (.bool true) w) := by
  have V := Lib.hid hv
  obtain ⟨nao, ncap, rfl, hnc⟩ := hn
  have NC := Lib.hid hnc
  have HX := Lib.hid hx
  unfold maxLen at hl
  clear hv hnc hx
  have T0 := Lib.hid (tables_new w)
  have B0 := Lib.hid (show Below w.heap.size w (((w.alloc (.cells sgArr 9)).alloc (.cells kdArr 3)).alloc (.cells rkArr 3)) from (((Below.refl _ _).alloc (Nat.le_refl _) _).alloc (by simp) _).alloc (by simp; omega) _)
  by_cases hempty : xs.length = 0
  · have e0 : ((xs.length : Int) == 0) = true := by rw [beq_iff_eq]; omega
    clear hempty
    go_enter Tryz.func3, Tryz.ntmps3
    go_upto_region 4 with fail
    have hfold : ((w.alloc (.cells #[.string ⟨#[124, 124]⟩, .string ⟨#[38, 38]⟩, .string ⟨#[43]⟩, .string ⟨#[45]⟩, .string ⟨#[42]⟩, .string ⟨#[47]⟩, .string ⟨#[37]⟩] 9)).alloc (.cells #[.int .i64 11, .int .i64 12, .int .i64 19, .int .i64 20, .int .i64 21, .int .i64 22, .int .i64 23] 3)).alloc (.cells #[.int .i64 0, .int .i64 1, .int .i64 3, .int .i64 3, .int .i64 4, .int .i64 4, .int .i64 4] 3) = ((w.alloc (.cells sgArr 9)).alloc (.cells kdArr 3)).alloc (.cells rkArr 3) := rfl
    rw [hfold]
    clear hfold
    generalize ((w.alloc (.cells sgArr 9)).alloc (.cells kdArr 3)).alloc (.cells rkArr 3) = w1 at *
    go_wp2_with fail
    refine (pawake _ (V.out.below B0.out V.out.lt)).mono ?_
    rintro e w2 ⟨rfl, hb2⟩
    have B2 := Lib.hid (B0.out.trans (hb2.mono B0.out.size))
    clear hb2
    go_wp2_with fail
    go_ret
    exact ⟨rfl, B2.out⟩
  by_cases hmany : 20 < xs.length
  · have e0 : ((xs.length : Int) == 0) = false := by rw [beq_eq_false_iff_ne]; omega
    have N0 := Lib.hid hempty
    clear hempty
    go_enter Tryz.func3, Tryz.ntmps3
    go_upto_region 4 with fail
    have hfold : ((w.alloc (.cells #[.string ⟨#[124, 124]⟩, .string ⟨#[38, 38]⟩, .string ⟨#[43]⟩, .string ⟨#[45]⟩, .string ⟨#[42]⟩, .string ⟨#[47]⟩, .string ⟨#[37]⟩] 9)).alloc (.cells #[.int .i64 11, .int .i64 12, .int .i64 19, .int .i64 20, .int .i64 21, .int .i64 22, .int .i64 23] 3)).alloc (.cells #[.int .i64 0, .int .i64 1, .int .i64 3, .int .i64 3, .int .i64 4, .int .i64 4, .int .i64 4] 3) = ((w.alloc (.cells sgArr 9)).alloc (.cells kdArr 3)).alloc (.cells rkArr 3) := rfl
    rw [hfold]
    clear hfold
    generalize ((w.alloc (.cells sgArr 9)).alloc (.cells kdArr 3)).alloc (.cells rkArr 3) = w1 at *
    go_wp2_with fail
    refine (pawake _ (V.out.below B0.out V.out.lt)).mono ?_
    rintro e w2 ⟨rfl, hb2⟩
    have B2 := Lib.hid (B0.out.trans (hb2.mono B0.out.size))
    clear hb2
    go_wp2_with fail
    go_ret
    exact ⟨rfl, B2.out⟩
  have h0 : 0 < xs.length := by omega
  have h20 : xs.length ≤ 20 := by omega
  have e0 : ((xs.length : Int) == 0) = false := by rw [beq_eq_false_iff_ne]; omega
  have N0 := Lib.hid hempty
  clear hempty hmany
  go_enter Tryz.func3, Tryz.ntmps3
  go_upto_region 4 with fail
  have hfold : ((w.alloc (.cells #[.string ⟨#[124, 124]⟩, .string ⟨#[38, 38]⟩, .string ⟨#[43]⟩, .string ⟨#[45]⟩, .string ⟨#[42]⟩, .string ⟨#[47]⟩, .string ⟨#[37]⟩] 9)).alloc (.cells #[.int .i64 11, .int .i64 12, .int .i64 19, .int .i64 20, .int .i64 21, .int .i64 22, .int .i64 23] 3)).alloc (.cells #[.int .i64 0, .int .i64 1, .int .i64 3, .int .i64 3, .int .i64 4, .int .i64 4, .int .i64 4] 3) = ((w.alloc (.cells sgArr 9)).alloc (.cells kdArr 3)).alloc (.cells rkArr 3) := rfl
  rw [hfold]
  clear hfold
  generalize ((w.alloc (.cells sgArr 9)).alloc (.cells kdArr 3)).alloc (.cells rkArr 3) = w1 at *
  go_wp2_with fail
  have g1 : w.heap.size + 1 + 1 = w.heap.size + 2 := rfl
  rw [g1]
  clear g1
  generalize hB : w.heap.size = B at *
  have HB := Lib.hid hB
  clear hB
  have NC1 := Lib.hid (fun j u h => (NC.out j u h))
  go_loopg [6, 7, 8] xs.length (fun m sv kv iv wr => OrdRel w1 xs m sv kv iv wr)
  case atStart => exact ⟨0, 0, rfl, rfl, rfl, Nat.le_refl _, Nat.zero_le _, h0, .inl ⟨rfl, rfl⟩, Below.refl _ _⟩
  case round =>
    obtain ⟨i, k, rfl, rfl, rfl, hm, hi, hk, hls, hb⟩ := hrel
    have HM := Lib.hid hm
    have BR := Lib.hid hb
    have LS := Lib.hid hls
    clear hm hb hls
    by_cases hil : i < xs.length
    · obtain ⟨y, hy⟩ : ∃ y, xs[i]? = some y := ⟨_, List.getElem?_eq_getElem hil⟩
      obtain ⟨z, hz⟩ : ∃ z, xs[k]? = some z := ⟨_, List.getElem?_eq_getElem hk⟩
      have y256 := HX.out y (List.mem_of_getElem? hy)
      have z256 := HX.out z (List.mem_of_getElem? hz)
      obtain ⟨gb, ob, rfl, hc⟩ := NC.out i (.int .u8 (y : Int)) (by rw [List.getElem?_map, hy]; rfl)
      obtain ⟨gb2, ob2, e2, hc2⟩ := NC.out k (.int .u8 (z : Int)) (by rw [List.getElem?_map, hz]; rfl)
      simp only [Option.some.injEq, Addr.mk.injEq, and_true] at e2
      obtain ⟨rfl, rfl⟩ := e2
      have BW := Lib.hid (show Below w.heap.size w wr by rw [HB.out]; exact B0.out.trans (BR.out.mono (by have := B0.out.size; rw [HB.out] at this; exact this)))
      have cy := (BW.out.cell (p := ⟨gb, ob + i, none⟩) (World.block_lt_of_cell? _ _ hc)).trans hc
      have cz := (BW.out.cell (p := ⟨gb, ob + k, none⟩) (World.block_lt_of_cell? _ _ hc2)).trans hc2
      have TW := Lib.hid (T0.out.below BR.out)
      have y7 : y % 7 < 7 := Nat.mod_lt _ (by decide)
      have z7 : z % 7 < 7 := Nat.mod_lt _ (by decide)
      obtain ⟨ty1, -, ty3⟩ := TW.out (y % 7) y7
      obtain ⟨-, -, tz3⟩ := TW.out (z % 7) z7
      have ST := Lib.hid (ordS_step hy)
      have RY := Lib.hid (And.intro (sev_get hy) (sev_get hz))
      have za := ordS_size (xs := xs) i hi (by omega)
      have zb := sign_size (y % 7)
      have zc := dec_size2 (i + 1) (by omega)
      have z1 : (⟨#[32]⟩ : ByteArray).size = 1 := rfl
      have DG := Lib.hid (fun W (x : Int) (hx : x = ((i + 1 : Nat) : Int)) => rdigits_any W (i + 1) x hx (by omega))
      have DV := Lib.hid (And.intro (show ordS xs (i + 1) = ordS xs (i + 1) from rfl) (show oRk (y % 7) = (oRank (y % 7) : Int) - 1 ∧ oRk (z % 7) = (oRank (z % 7) : Int) - 1 from ⟨rfl, rfl⟩))
      clear hc hc2 hy hz
      generalize hA : ordS xs i = A at *
      generalize hC : oSign (y % 7) = C at *
      generalize hD : decB (i + 1) = D at *
      generalize oRk (y % 7) = ry at *
      generalize oRk (z % 7) = rz at *
      clear hA hC hD
      have zd : A.size + 1 + C.size + 1 + D.size ≤ 200 := by omega
      have m1 : ¬ 9223372036854775807 < A.size + 1 := by omega
      have m2 : ¬ 9223372036854775807 < A.size + 1 + C.size := by omega
      have m3 : ¬ 9223372036854775807 < A.size + 1 + C.size + 1 := by omega
      have m4 : ¬ 9223372036854775807 < A.size + 1 + C.size + 1 + D.size := by omega
      have n1 : (0 : Int) ≤ (y : Int) % 7 := by omega
      have n2 : (y : Int) % 7 < 7 := by omega
      have n4 : ((y : Int) % 7).toNat = y % 7 := by omega
      have n3 : (y : Int).tmod 7 = (y : Int) % 7 := Int.tmod_eq_emod_of_nonneg (by omega)
      have n5 : IntKind.i64.wrap (y : Int) = (y : Int) := IntWalk.i64_in _ (by omega)
      have n7 : IntKind.i64.wrap ((i : Int) + 1) = (i : Int) + 1 := IntWalk.i64_in _ (by omega)
      have D7 := Lib.hid (show (i : Int) + 1 = ((i + 1 : Nat) : Int) by omega)
      have n6 : IntKind.i64.wrap ((y : Int) % 7) = (y : Int) % 7 := IntWalk.i64_in _ (by omega)
      go_upto_region 11 with fail
      go_cut [6] (fun s6 wx => s6 = .string (A ++ ⟨#[32]⟩ ++ C ++ ⟨#[32]⟩ ++ D) ∧ Below wr.heap.size wr wx)
      case first =>
        go_region_held3 (fun w' => w'.cell? ⟨gb, ob + i, none⟩ = some (.int .u8 y) ∧ w'.cell? ⟨B, y % 7, none⟩ = some (.string C)) (first | exact ⟨HK.out _ _ cy, HK.out _ _ ty1⟩ | go_keep) (first
          | (go_at_call 5; (with_reducible refine (DG.out _ _ D7.out).mono ?_); rintro e w' ⟨rfl, hb⟩; have HB := Lib.hid (show Below wr.heap.size wr w' from ⟨hb.os, hb.tape, hb.output, hb.size, hb.block⟩); have HK := Lib.hid (fun (p : Addr) (u : Value) (hu : wr.cell? p = some u) => (hb.cell (p := p) (World.block_lt_of_cell? _ _ hu)).trans hu); clear hb))
        all_goals go_wp2
        all_goals go_meet
        all_goals (case rel => exact ⟨rfl, HB.out⟩)
      case rest =>
        obtain ⟨rfl, hb2⟩ := hcut
        rw [← ST.out]
        clear m1 m2 m3 m4 n1 n2 n3 n4 n5 n6 n7 ty1 za zb zc zd
        have B2 := Lib.hid hb2
        clear hb2
        replace cy := (B2.out.cell (p := ⟨gb, ob + i, none⟩) (World.block_lt_of_cell? _ _ cy)).trans cy
        replace cz := (B2.out.cell (p := ⟨gb, ob + k, none⟩) (World.block_lt_of_cell? _ _ cz)).trans cz
        replace ty3 := (B2.out.cell (p := ⟨B + 2, y % 7, none⟩) (World.block_lt_of_cell? _ _ ty3)).trans ty3
        replace tz3 := (B2.out.cell (p := ⟨B + 2, z % 7, none⟩) (World.block_lt_of_cell? _ _ tz3)).trans tz3
        have RW := Lib.hid (least_step LS.out)
        by_cases hle : ry ≤ rz
        · have LN := Lib.hid (show Least (sev xs) 0 (i + 1) i from RW.out.1 (by
            rw [RY.out.1, RY.out.2]
            have h := DV.out.2
            omega))
          have hd : decide (ry ≤ rz) = true := decide_eq_true hle
          have n1 : (0 : Int) ≤ (y : Int) % 7 := by omega
          have n2 : (y : Int) % 7 < 7 := by omega
          have n4 : ((y : Int) % 7).toNat = y % 7 := by omega
          have p1 : (0 : Int) ≤ (z : Int) % 7 := by omega
          have p2 : (z : Int) % 7 < 7 := by omega
          have p4 : ((z : Int) % 7).toNat = z % 7 := by omega
          have n3 : (y : Int).tmod 7 = (y : Int) % 7 := Int.tmod_eq_emod_of_nonneg (by omega)
          have p3 : (z : Int).tmod 7 = (z : Int) % 7 := Int.tmod_eq_emod_of_nonneg (by omega)
          have n5 : IntKind.i64.wrap (y : Int) = (y : Int) := IntWalk.i64_in _ (by omega)
          have p5 : IntKind.i64.wrap (z : Int) = (z : Int) := IntWalk.i64_in _ (by omega)
          have n6 : IntKind.i64.wrap ((y : Int) % 7) = (y : Int) % 7 := IntWalk.i64_in _ (by omega)
          have p6 : IntKind.i64.wrap ((z : Int) % 7) = (z : Int) % 7 := IntWalk.i64_in _ (by omega)
          go_upto_region 12 with fail
          go_quiet (fail)
          clear n1 n2 n3 n4 n5 n6 p1 p2 p3 p4 p5 p6
          go_wp2_with fail
          go_roundg (xs.length - (i + 1))
          case rel => exact ⟨i + 1, i, rfl, rfl, rfl, Nat.le_refl _, hil, hil, .inr LN.out, below_drewN (BR.out.trans (B2.out.mono BR.out.size)) _⟩
          case measure => have := HM.out; omega
        · have LN := Lib.hid (show Least (sev xs) 0 (i + 1) k from RW.out.2 (by
            rw [RY.out.1, RY.out.2]
            have h := DV.out.2
            omega))
          have hd : decide (ry ≤ rz) = false := decide_eq_false hle
          have n1 : (0 : Int) ≤ (y : Int) % 7 := by omega
          have n2 : (y : Int) % 7 < 7 := by omega
          have n4 : ((y : Int) % 7).toNat = y % 7 := by omega
          have p1 : (0 : Int) ≤ (z : Int) % 7 := by omega
          have p2 : (z : Int) % 7 < 7 := by omega
          have p4 : ((z : Int) % 7).toNat = z % 7 := by omega
          have n3 : (y : Int).tmod 7 = (y : Int) % 7 := Int.tmod_eq_emod_of_nonneg (by omega)
          have p3 : (z : Int).tmod 7 = (z : Int) % 7 := Int.tmod_eq_emod_of_nonneg (by omega)
          have n5 : IntKind.i64.wrap (y : Int) = (y : Int) := IntWalk.i64_in _ (by omega)
          have p5 : IntKind.i64.wrap (z : Int) = (z : Int) := IntWalk.i64_in _ (by omega)
          have n6 : IntKind.i64.wrap ((y : Int) % 7) = (y : Int) % 7 := IntWalk.i64_in _ (by omega)
          have p6 : IntKind.i64.wrap ((z : Int) % 7) = (z : Int) % 7 := IntWalk.i64_in _ (by omega)
          go_upto_region 12 with fail
          go_quiet (fail)
          clear n1 n2 n3 n4 n5 n6 p1 p2 p3 p4 p5 p6
          go_wp2_with fail
          go_roundg (xs.length - (i + 1))
          case rel => exact ⟨i + 1, k, rfl, rfl, rfl, Nat.le_refl _, hil, hk, .inr LN.out, below_drewN (BR.out.trans (B2.out.mono BR.out.size)) _⟩
          case measure => have := HM.out; omega
    · obtain rfl : i = xs.length := by omega
      have LS2 := Lib.hid (show Least (sev xs) 0 xs.length k by rcases LS.out with h | h; exact absurd h.1 N0.out; exact h)
      have hsl : (sev xs).length = xs.length := by unfold sev; simp
      have hsz := ordS_size (xs := xs) xs.length (Nat.le_refl _) (by omega)
      obtain ⟨ns, hx1, hP⟩ := ord_text (sev xs) (sev_lt xs) (by rw [hsl]; exact h20) (ordS xs xs.length) (by omega) (by unfold ordS; rw [← hsl, List.take_length])
      rw [hsl] at hP
      obtain ⟨k', pre, hk', hns⟩ := hP.top h0
      obtain rfl := least_one LS2.out hk'
      have htr : treeP ns = true := by
        unfold treeP
        have := hP.stack [] []
        rw [List.append_nil] at this
        rw [show (0 : Int) = ((0 : Nat) : Int) from rfl, this]
        rfl
      have hlen : ns.length = 2 * xs.length + 1 := by rw [hP.len]; omega
      have hlast : ns[2 * xs.length]? = some (opNode ((sev xs).getD k 0) ((2 * k : Nat) : Int) ((2 * xs.length - 1 : Nat) : Int)) := by
        have e1 : 0 + 2 * (k - 0) = 2 * k := by omega
        have e2 : 0 + 2 * (xs.length - 0) - 1 = 2 * xs.length - 1 := by omega
        rw [e1, e2] at hns
        have hp : pre.length = 2 * xs.length := by rw [hns] at hlen; simp at hlen; omega
        rw [hns, List.getElem?_append_right (by omega), show 2 * xs.length - pre.length = 0 by omega]
        rfl
      have he : ∀ n ∈ ns, Easy n ∧ n.text.size ≤ 100000 ∧ n.kids.length ≤ 100000 := fun n hn => by
        obtain ⟨e1, e2, e3, e4⟩ := hP.easy n hn
        exact ⟨⟨e1, e2⟩, by rw [e3]; exact Nat.zero_le _, by omega⟩
      have X1 := Lib.hid hx1
      have TR := Lib.hid htr
      have LEN := Lib.hid hlen
      have LAST := Lib.hid hlast
      have HE := Lib.hid he
      have SZ := Lib.hid (show (ordS xs xs.length).size ≤ maxLen by unfold maxLen; omega)
      have BA := Lib.hid (show Below w.heap.size w wr by rw [HB.out]; exact B0.out.trans (BR.out.mono (by have := B0.out.size; rw [HB.out] at this; exact this)))
      have TW := Lib.hid (T0.out.below BR.out)
      obtain ⟨z, hz⟩ : ∃ z, xs[k]? = some z := ⟨_, List.getElem?_eq_getElem hk⟩
      have z256 := HX.out z (List.mem_of_getElem? hz)
      obtain ⟨gb, ob, rfl, hc⟩ := NC.out k (.int .u8 (z : Int)) (by rw [List.getElem?_map, hz]; rfl)
      have CZ := Lib.hid ((BA.out.cell (p := ⟨gb, ob + k, none⟩) (World.block_lt_of_cell? _ _ hc)).trans hc)
      have SG := Lib.hid (sev_get hz)
      clear hx1 hP hk' hns htr hlen hlast he hsz hsl hz hc LS HM
      go_wp2_with fail
      refine (pexpr _ _ 1100 0 ns SZ.out (V.out.below BA.out V.out.lt) X1.out).mono ?_
      rintro e w2 ⟨v, rfl, hb2, hn2⟩
      have B2 := Lib.hid (BR.out.trans (hb2.mono BR.out.size))
      have BA2 := Lib.hid (BA.out.trans (hb2.mono BA.out.size))
      have N2 := Lib.hid hn2
      obtain ⟨nao, ncap2, rfl, hat⟩ := hn2.at
      have tt := ptreeT _ _ ns N2.out HE.out (by rw [LEN.out]; omega) (V.out.below BA2.out V.out.lt)
      rw [LEN.out, TR.out] at tt
      have TT := Lib.hid tt
      clear tt
      have CZ2 := Lib.hid ((hb2.cell (p := ⟨gb, ob + k, none⟩) (World.block_lt_of_cell? _ _ CZ.out)).trans CZ.out)
      have TW2 := Lib.hid (TW.out.below hb2)
      clear hat hb2 hn2
      rw [LEN.out]
      go_wp2_with fail
      refine (num_pany _ 0 (by omega) (by omega)).mono ?_
      rintro e w3 ⟨rfl, rfl⟩
      go_wp2_with fail
      (with_reducible refine TT.out.mono ?_)
      rintro e w4 ⟨rfl, hb4⟩
      have B4 := Lib.hid hb4
      clear hb4
      go_upto_region 17 with fail
      obtain ⟨ao4, cap4, e4, hat⟩ := (N2.out.below B4.out).at
      simp only [Value.slice.injEq, true_and] at e4
      obtain ⟨rfl, rfl⟩ := e4
      obtain ⟨g, o, pv, kv, rfl, hpv, hkv, c0, c1, c2, c3, c4⟩ := hat _ _ LAST.out
      obtain ⟨gk, ok, kcap, rfl, hki⟩ := IntsRd.cell hkv (by show 0 < 2; decide)
      obtain ⟨pao, pcap, rfl, -⟩ := hpv
      have k0 := hki 0 (by show 0 < 2; decide)
      have k1 := hki 1 (by show 1 < 2; decide)
      rw [SG.out] at c0 c1 c2 c3 c4 k0 k1
      replace c0 : w4.cell? ⟨g, o + 2 * xs.length * 5, none⟩ = some (.int .i64 (oKind (z % 7))) := c0
      replace c1 : w4.cell? ⟨g, o + 2 * xs.length * 5 + 1, none⟩ = some (.int .i64 0) := c1
      replace c2 : w4.cell? ⟨g, o + 2 * xs.length * 5 + 2, none⟩ = some (.string ⟨#[]⟩) := c2
      replace c3 : w4.cell? ⟨g, o + 2 * xs.length * 5 + 3, none⟩ = some (.slice pao 0 pcap) := c3
      replace c4 : w4.cell? ⟨g, o + 2 * xs.length * 5 + 4, none⟩ = some (.slice (some ⟨gk, ok, none⟩) 2 kcap) := c4
      replace k0 : w4.cell? ⟨gk, ok, none⟩ = some (.int .i64 ((2 * k : Nat) : Int)) := k0
      replace k1 : w4.cell? ⟨gk, ok + 1, none⟩ = some (.int .i64 ((2 * xs.length - 1 : Nat) : Int)) := k1
      have hk1 : ((2 * xs.length - 1 : Nat) : Int) = ((2 * xs.length : Nat) : Int) + 1 - 2 := by omega
      rw [hk1] at k1
      have L40 : 2 * xs.length ≤ 40 := by omega
      have TB := Lib.hid (TW2.out.below B4.out)
      have CZ4 := Lib.hid ((B4.out.cell (p := ⟨gb, ob + k, none⟩) (World.block_lt_of_cell? _ _ CZ2.out)).trans CZ2.out)
      have BA4 := Lib.hid (BA2.out.trans (B4.out.mono BA2.out.size))
      clear hat hki hkv hk1 TR TT LAST N2 B2 BA2 CZ2 TW2 TW CZ SG
      generalize hL : 2 * xs.length = L at *
      have HL := Lib.hid hL
      clear hL
      have NB := Lib.hid (heap_alloc_new w4 (.cells #[.int .i64 (oKind (z % 7)), .int .i64 0, .string ⟨#[]⟩, .slice pao 0 pcap, .slice (some ⟨gk, ok, none⟩) 2 kcap] 35))
      have B5 := Lib.hid (show Below w4.heap.size w4 (w4.alloc (.cells #[.int .i64 (oKind (z % 7)), .int .i64 0, .string ⟨#[]⟩, .slice pao 0 pcap, .slice (some ⟨gk, ok, none⟩) 2 kcap] 35)) from (Below.refl _ _).alloc (Nat.le_refl _) _)
      go_upto_region 18 with fail
      generalize w4.alloc (.cells #[.int .i64 (oKind (z % 7)), .int .i64 0, .string ⟨#[]⟩, .slice pao 0 pcap, .slice (some ⟨gk, ok, none⟩) 2 kcap] 35) = w5 at *
      have n0 := cell_of_row _ _ 0 _ _ _ NB.out
      have n4 := cell_of_row _ _ 4 _ _ _ NB.out
      simp only [List.getElem?_toArray, List.getElem?_cons_zero, List.getElem?_cons_succ] at n0 n4
      replace k0 := (B5.out.cell (p := ⟨gk, ok, none⟩) (World.block_lt_of_cell? _ _ k0)).trans k0
      replace k1 := (B5.out.cell (p := ⟨gk, ok + 1, none⟩) (World.block_lt_of_cell? _ _ k1)).trans k1
      have cz := (B5.out.cell (p := ⟨gb, ob + k, none⟩) (World.block_lt_of_cell? _ _ CZ4.out)).trans CZ4.out
      have z7 : z % 7 < 7 := Nat.mod_lt _ (by decide)
      have tk := ((TB.out.below B5.out) (z % 7) z7).2.1
      have BA5 := Lib.hid (BA4.out.trans (B5.out.mono BA4.out.size))
      clear c0 c1 c2 c3 c4
      generalize hG : w4.heap.size = G at *
      generalize oKind (z % 7) = kd at *
      have hk0 : ((2 * k : Nat) : Int) = 2 * (k : Int) := by omega
      rw [hk0] at k0
      have hk1 : (L : Int) + 1 - 2 = (L : Int) - 1 := by omega
      rw [hk1] at k1
      clear hk0 hk1 hG
      have p1 : (0 : Int) ≤ (z : Int) % 7 := by omega
      have p2 : (z : Int) % 7 < 7 := by omega
      have p4 : ((z : Int) % 7).toNat = z % 7 := by omega
      have p3 : (z : Int).tmod 7 = (z : Int) % 7 := Int.tmod_eq_emod_of_nonneg (by omega)
      have p5 : IntKind.i64.wrap (z : Int) = (z : Int) := IntWalk.i64_in _ (by omega)
      have p6 : IntKind.i64.wrap ((z : Int) % 7) = (z : Int) % 7 := IntWalk.i64_in _ (by omega)
      have p7 : IntKind.i64.wrap (2 * (k : Int)) = 2 * (k : Int) := IntWalk.i64_in _ (by omega)
      have p8 : IntKind.i64.wrap ((L : Int) + 1 - 2) = (L : Int) - 1 := (IntWalk.i64_in _ (by omega)).trans (by omega)
      have p9 : IntKind.i64.wrap ((L : Int) - 1) = (L : Int) - 1 := IntWalk.i64_in _ (by omega)
      have AW := Lib.hid (fun W (hw : Below w.heap.size w W) => pawake W (V.out.below hw V.out.lt))
      clear NB TB CZ4 BA4 B4 B5
      go_region_held3 (fun w' => w'.cell? ⟨G, 0, none⟩ = some (.int .i64 kd) ∧ w'.cell? ⟨G, 4, none⟩ = some (.slice (some ⟨gk, ok, none⟩) 2 kcap) ∧ w'.cell? ⟨gb, ob + k, none⟩ = some (.int .u8 z) ∧ w'.cell? ⟨B + 1, z % 7, none⟩ = some (.int .i64 kd) ∧ w'.cell? ⟨gk, ok, none⟩ = some (.int .i64 (2 * (k : Int))) ∧ w'.cell? ⟨gk, ok + 1, none⟩ = some (.int .i64 ((L : Int) - 1))) (first | exact ⟨HK.out _ _ n0, HK.out _ _ n4, HK.out _ _ cz, HK.out _ _ tk, HK.out _ _ k0, HK.out _ _ k1⟩ | go_keep) (first
        | (go_at_call 4; (with_reducible refine (AW.out _ ?_).mono ?_); exact below_drewN BA5.out _; rintro e w' ⟨rfl, hb⟩; have HB := Lib.hid (show Below w5.heap.size w5 w' from ⟨hb.os, hb.tape, hb.output, hb.size, hb.block⟩); have HK := Lib.hid (fun (p : Addr) (u : Value) (hu : w5.cell? p = some u) => (HB.out.cell (p := p) (World.block_lt_of_cell? _ _ hu)).trans hu); clear hb))
      all_goals go_wp2
      all_goals go_ret
      all_goals exact ⟨rfl, BA5.out.trans (HB.out.mono BA5.out.size)⟩
end
end Go.Proofs.YtkbbhgipajhbnaaGreatDoor
