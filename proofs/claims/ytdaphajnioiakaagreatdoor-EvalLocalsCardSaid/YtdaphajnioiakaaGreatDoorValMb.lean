/- The document's Digits at one sign. -/
import Derived.Test.YtdaphajnioiakaaGreatDoorValU
import Derived.Test.YtdaphajnioiakaaGreatDoorValH
import Derived.Laws.BytesArg
namespace Go.Proofs.YtdaphajnioiakaaGreatDoor
open Go.RowKit
set_option linter.unusedVariables false
set_option linter.unusedSimpArgs false

def dig3 (k : Int) : ByteArray := if k = 0 then ⟨#[48]⟩ else if k = 1 then ⟨#[49]⟩ else ⟨#[50]⟩
def kidsN (xs : List Int) (n : Int) : Nat := min (xs.length - 1) (n / 5 % 6).toNat
def subL (xs : List Int) (i : Nat) (c : Int) : List Int := (xs.drop i).take (c + 1).toNat
/-- A value by numbers. -/
def makeV : Nat → ByteArray → List Int → VL
  | 0, _, _ => vnum 0
  | _ + 1, _, [] => vnum 0
  | f + 1, s, n :: l =>
    if n % 5 = 0 then (if s.size ≤ 60 then vstr (s ++ dig3 (n / 5 % 3)) else vnum (n / 5 - 20))
    else if n % 5 = 1 then .mk 3 (n / 5 % 2) ⟨#[]⟩ []
    else if n % 5 = 2 then vlist ((List.range (kidsN (n :: l) n)).map fun j => makeV f s (subL (n :: l) (j + 1) (n / 30 % 3)))
    else vnum (n / 5 - 20)
def kidV (f : Nat) (s : ByteArray) (xs : List Int) (n : Int) (j : Nat) : VL := makeV f s (subL xs (j + 1) (n / 30 % 3))
theorem make_nil (f : Nat) (s : ByteArray) : makeV f s [] = vnum 0 := by cases f <;> rfl
theorem make_list (f : Nat) (s : ByteArray) (n : Int) (l : List Int) (h : n % 5 = 2) : makeV (f + 1) s (n :: l) = vlist ((List.range (kidsN (n :: l) n)).map (kidV f s (n :: l) n)) := by
  show (if n % 5 = 0 then _ else _) = _
  rw [if_neg (by omega), if_neg (by omega), if_pos h]
  rfl
theorem make_text (f : Nat) (s : ByteArray) (n : Int) (l : List Int) (h : n % 5 = 0) (hs : s.size ≤ 60) : makeV (f + 1) s (n :: l) = vstr (s ++ dig3 (n / 5 % 3)) := by
  show (if n % 5 = 0 then _ else _) = _
  rw [if_pos h, if_pos hs]
theorem make_bool (f : Nat) (s : ByteArray) (n : Int) (l : List Int) (h : n % 5 = 1) : makeV (f + 1) s (n :: l) = .mk 3 (n / 5 % 2) ⟨#[]⟩ [] := by
  show (if n % 5 = 0 then _ else _) = _
  rw [if_neg (by omega), if_pos h]
theorem make_num (f : Nat) (s : ByteArray) (n : Int) (l : List Int) (h : (n % 5 = 0 ∧ 60 < s.size) ∨ n % 5 = 3 ∨ n % 5 = 4) : makeV (f + 1) s (n :: l) = vnum (n / 5 - 20) := by
  show (if n % 5 = 0 then _ else _) = _
  rcases h with ⟨h1, h2⟩ | h | h
  · rw [if_pos h1, if_neg (by omega)]
  · rw [if_neg (by omega), if_neg (by omega), if_neg (by omega)]
  · rw [if_neg (by omega), if_neg (by omega), if_neg (by omega)]
theorem make_cases (f : Nat) (s : ByteArray) (n : Int) (l : List Int) :
    (n % 5 = 0 ∧ s.size ≤ 60) ∨ n % 5 = 1 ∨ n % 5 = 2 ∨ ((n % 5 = 0 ∧ 60 < s.size) ∨ n % 5 = 3 ∨ n % 5 = 4) := by omega
theorem dig3_size (k : Int) : (dig3 k).size = 1 := by
  unfold dig3; split
  · rfl
  · split <;> rfl
/-- What is made may be. -/
theorem make_may : ∀ (f d : Nat), f ≤ d → ∀ (s : ByteArray) (xs : List Int), mayB d (makeV f s xs) = true := by
  have leaf : ∀ (d : Nat) (v : VL), v.kind ≠ 4 → leafB v = true → mayB d v = true := fun d v h1 h2 => by
    cases d with
    | zero => exact h2
    | succ d => unfold mayB; rw [if_neg h1]; exact h2
  have lnum : ∀ d n, mayB d (vnum n) = true := fun d n => leaf d _ (by simp [vnum, VL.kind]) (by simp [leafB, vnum, VL.kind, VL.text, VL.kids])
  intro f
  induction f with
  | zero => intro d _ s xs; exact lnum d 0
  | succ f ih =>
    intro d hd s xs
    cases xs with
    | nil => exact lnum d 0
    | cons n l =>
      rcases make_cases f s n l with h | h | h | h
      · rw [make_text f s n l h.1 h.2]
        refine leaf d _ (by simp [vstr, VL.kind]) ?_
        have h4 : (s ++ dig3 (n / 5 % 3)).size ≤ 400 := by rw [ByteArray.size_append, dig3_size]; omega
        generalize s ++ dig3 (n / 5 % 3) = t at h4
        simp [leafB, vstr, VL.kind, VL.num, VL.text, VL.kids, h4]
      · rw [make_bool f s n l h]
        refine leaf d _ (by simp [VL.kind]) ?_
        have h2 : n / 5 % 2 = 0 ∨ n / 5 % 2 = 1 := by omega
        rcases h2 with h2 | h2 <;> rw [h2] <;> simp [leafB, VL.kind, VL.num, VL.text, VL.kids]
      · rw [make_list f s n l h]
        cases d with
        | zero => omega
        | succ d =>
          have hk : kidsN (n :: l) n ≤ 64 := by unfold kidsN; omega
          have ha : ((List.range (kidsN (n :: l) n)).map (kidV f s (n :: l) n)).all (mayB d) = true := by
            rw [List.all_eq_true]
            intro u hu
            obtain ⟨j, -, rfl⟩ := List.mem_map.1 hu
            exact ih d (by omega) s _
          generalize hm : (List.range (kidsN (n :: l) n)).map (kidV f s (n :: l) n) = ks at ha
          have hkl : ks.length ≤ 64 := by rw [← hm]; simp; exact hk
          show (if (4 : Int) = 4 then ((0 : Int) == 0 && (⟨#[]⟩ : ByteArray).toList.isEmpty && decide (ks.length ≤ 64) && ks.all (mayB d)) else _) = true
          rw [if_pos rfl, ha, decide_eq_true hkl]
          simp
      · rw [make_num f s n l h]
        exact lnum d _
theorem make_i64 (f : Nat) (s : ByteArray) (xs : List Int) (hx : ∀ x ∈ xs, 0 ≤ x ∧ x ≤ 255) : I64 (makeV f s xs).num := by
  cases f with
  | zero => unfold I64; simp [makeV, vnum, VL.num]
  | succ f =>
    cases xs with
    | nil => unfold I64; simp [makeV, vnum, VL.num]
    | cons n l =>
      have hn := hx n (by simp)
      unfold I64
      rcases make_cases f s n l with h | h | h | h
      · rw [make_text f s n l h.1 h.2]; simp [vstr, VL.num]
      · rw [make_bool f s n l h]; simp only [VL.num]; omega
      · rw [make_list f s n l h]; simp [vlist, VL.num]
      · rw [make_num f s n l h]; simp only [vnum, VL.num]; omega
/-- A list that is made has neither number nor text; a number no text and no list. -/
theorem make_kind (f : Nat) (s : ByteArray) (xs : List Int) : ((makeV f s xs).kind = 4 → makeV f s xs = vlist (makeV f s xs).kids) ∧ ((makeV f s xs).kind = 1 → makeV f s xs = vnum (makeV f s xs).num) := by
  cases f with
  | zero => exact ⟨fun h => by simp [makeV, vnum, VL.kind] at h, fun _ => rfl⟩
  | succ f =>
    cases xs with
    | nil => exact ⟨fun h => by simp [makeV, vnum, VL.kind] at h, fun _ => rfl⟩
    | cons n l =>
      rcases make_cases f s n l with h | h | h | h
      · rw [make_text f s n l h.1 h.2]; exact ⟨fun h => by simp [vstr, VL.kind] at h, fun h => by simp [vstr, VL.kind] at h⟩
      · rw [make_bool f s n l h]; exact ⟨fun h => by simp [VL.kind] at h, fun h => by simp [VL.kind] at h⟩
      · rw [make_list f s n l h]; exact ⟨fun _ => rfl, fun h => by simp [vlist, VL.kind] at h⟩
      · rw [make_num f s n l h]; exact ⟨fun h => by simp [vnum, VL.kind] at h, fun _ => rfl⟩
/-- How deep, as the document reckons: more than may be is 1000. -/
def deepI : Nat → VL → Int
  | 0, v => if v.kind = 4 then 1000 else 0
  | d + 1, v => if v.kind = 4 then (v.kids.map (deepI d)).foldl max 0 + 1 else 0
def deepR (d : Nat) (l : List VL) : Int := (l.map (deepI d)).foldl max 0
theorem fold_max_le (l : List Int) : ∀ (a m : Int), a ≤ m → (∀ x ∈ l, x ≤ m) → l.foldl max a ≤ m := by
  induction l with
  | nil => intro a m h _; exact h
  | cons x l ih => intro a m h hl; exact ih _ _ (by have := hl x (by simp); omega) fun y hy => hl y (by simp [hy])
theorem fold_max_ge (l : List Int) : ∀ (a : Int), a ≤ l.foldl max a := by
  induction l with
  | nil => intro a; exact Int.le_refl _
  | cons x l ih => intro a; exact Int.le_trans (by omega) (ih (max a x))
theorem deepR_snoc (d : Nat) (l : List VL) (u : VL) : deepR d (l ++ [u]) = max (deepR d l) (deepI d u) := by
  unfold deepR; rw [List.map_append, List.foldl_append]; rfl
theorem deepI_bound : ∀ (d : Nat) (v : VL), 0 ≤ deepI d v ∧ deepI d v ≤ 1000 + d := by
  intro d
  induction d with
  | zero => intro v; unfold deepI; split <;> omega
  | succ d ih =>
    intro v
    unfold deepI
    split
    · have h1 := fold_max_ge (v.kids.map (deepI d)) 0
      have h2 := fold_max_le (v.kids.map (deepI d)) 0 (1000 + d) (by omega) (fun x hx => by
        obtain ⟨u, -, rfl⟩ := List.mem_map.1 hx
        exact (ih u).2)
      omega
    · omega
theorem deepR_bound (d : Nat) (l : List VL) : 0 ≤ deepR d l ∧ deepR d l ≤ 1000 + d := by
  refine ⟨fold_max_ge _ 0, fold_max_le _ 0 _ (by omega) fun x hx => ?_⟩
  obtain ⟨u, -, rfl⟩ := List.mem_map.1 hx
  exact (deepI_bound d u).2
/-- What may be is no deeper than may be. -/
theorem deep_may : ∀ (d : Nat) (v : VL), mayB d v = true → deepI d v ≤ d := by
  intro d
  induction d with
  | zero =>
    intro v h
    unfold deepI
    split
    · rename_i hk; rw [show mayB 0 v = leafB v from rfl, leaf_list hk] at h; cases h
    · omega
  | succ d ih =>
    intro v h
    unfold deepI
    split
    · rename_i hk
      have h2 := fold_max_le (v.kids.map (deepI d)) 0 d (by omega) (fun x hx => by
        obtain ⟨u, hu, rfl⟩ := List.mem_map.1 hx
        exact ih u ((may_kids h).2 u hu))
      omega
    · omega
end Go.Proofs.YtdaphajnioiakaaGreatDoor
namespace Go.Proofs.YtdaphajnioiakaaGreatDoor
open Go.RowKit
set_option linter.unusedVariables false
set_option linter.unusedSimpArgs false

theorem dig_new (w : World) (cs : Array Value) (t : TypeId) : ∀ j u, cs.toList[j]? = some u → (w.alloc (.cells cs t)).cell? ((⟨w.heap.size, 0, none⟩ : Addr).add j) = some u := by
  intro j u hu
  have hadd : (⟨w.heap.size, 0, none⟩ : Addr).add j = ⟨w.heap.size, j, none⟩ := by unfold Addr.add; split <;> simp_all
  rw [hadd, cell_of_row _ _ j cs t (0, 0) (heap_alloc_new w _)]
  simpa using hu
theorem dig_conv (wr : World) (x : Int) (c : UInt8) (hx : x = c.toNat) :
    Sem.run Tryz.prog (convert 22 9 (.slice (some ⟨wr.heap.size, 0, none⟩) 1 1)) (wr.alloc (.cells #[.int .u8 x] 5)) = .ok (.string ⟨#[c]⟩) (wr.alloc (.cells #[.int .u8 x] 5)) := by
  have h := run_convert_bytes_back (P := Tryz.prog) (wr.alloc (.cells #[.int .u8 x] 5)) 22 9 5 ⟨wr.heap.size, 0, none⟩ 1 [c] Tryz.underlying22 Tryz.underlying5 Tryz.underlying9 (by
    intro j hj
    have h0 : j = 0 := by simpa using hj
    subst h0
    exact dig_new wr #[.int .u8 x] 5 0 _ (by simp [hx]))
  exact h
section
variable (w : World)
set_option maxHeartbeats 4000000 in
set_option maxRecDepth 20000 in
theorem rdig1 (k : Nat) (c : UInt8) (hk : k ≤ 2) (hc : 48 + (k : Int) = c.toNat) :
    Calls Tryz.prog 11 #[.int .i64 (k : Int)] w (Made (.string ⟨#[c]⟩) w) := by
  have h0 : ¬ ((k : Int) < 0) := by omega
  have CV := Lib.hid (fun wr => dig_conv wr (48 + (k : Int)) c hc)
  have hs1 : (⟨#[c]⟩ : ByteArray).size = 1 := rfl
  have hs2 : (⟨#[c]⟩ : ByteArray) ++ (⟨#[]⟩ : ByteArray) = ⟨#[c]⟩ := by apply ByteArray.ext; simp [ByteArray.data_append]
  have S2 := Lib.hid hs2
  clear hs2 hc
  go_enter Tryz.func11, Tryz.ntmps11
  go_wp2_with fail
  go_loopg [3, 4] 0 (fun m uv sv wr => uv = .int .u64 (k : Int) ∧ sv = .string ⟨#[]⟩ ∧ wr = w)
  case atStart => exact ⟨rfl, rfl, rfl⟩
  case round =>
    obtain ⟨rfl, rfl, rfl⟩ := hrel
    have hcv := CV.out wr
    have h10 : ¬ 10 ≤ k := by omega
    have h0 : ¬ ((k : Int) < 0) := by omega
    go_wp2_with fail
    go_ret
    exact ⟨by rw [S2.out]; rfl, below_al (Below.refl _ _) _⟩
end
end Go.Proofs.YtdaphajnioiakaaGreatDoor
