/- The contracts of package lex's reader: what done, peek, read, take, takeAll, pass, since do to a reader that lies at the head of a block. -/
import Derived.Test.YtlkdicabmikhkaaGreatDoorBase
import Derived.Test.YtlkdicabmikhkaaGreatDoorOwn
import Derived.WalkKit
import Derived.WalkSpells
import Derived.WalkLawsBesides
import Derived.Deep.QuietTactic
import Derived.BigQuiet
import Derived.Lib.Hide
import Derived.Deep.LoopGhost
namespace Go.Proofs.YtlkdicabmikhkaaGreatDoor
open Go.RowKit
set_option linter.unusedVariables false

/-- A reader at the head of block b: its text, its place. -/
structure Rd (w : World) (b : Nat) (s : ByteArray) (k : Nat) : Prop where
  text : w.cell? ⟨b, 0, none⟩ = some (.string s)
  at_ : w.cell? ⟨b, 1, none⟩ = some (.int .i64 k)
  free : w.frozen? ⟨b, 1, none⟩ = false

/-- Bytes by their numbers. -/
def letterB (c : Int) : Bool := decide (97 ≤ c) && decide (c ≤ 122)
def digitB (c : Int) : Bool := decide (48 ≤ c) && decide (c ≤ 57)
def startsB (c : Int) : Bool := letterB c || c == 95
def inNameB (c : Int) : Bool := startsB c || digitB c
def inLabelB (c : Int) : Bool := inNameB c || c == 45
def inLineB (c : Int) : Bool := c != 10


section
variable (c : Int) (w : World)
theorem letter_any (h0 : 0 ≤ c) (h1 : c ≤ 255) : Calls Tryz.prog 33 #[.int .u8 c] w fun e w' => e = .returned (.bool (letterB c)) ∧ w = w' := by
  by_cases h : 97 ≤ c
  · by_cases h2 : c ≤ 122 <;>
    · go_enter Tryz.func33, Tryz.ntmps33
      go_wp2
      go_ret
      exact ⟨by simp [letterB, h, h2], rfl⟩
  · go_enter Tryz.func33, Tryz.ntmps33
    go_wp2
    go_ret
    have e : letterB c = false := by simp [letterB]; omega
    exact ⟨by rw [e]; rfl, rfl⟩
theorem digit_any (h0 : 0 ≤ c) (h1 : c ≤ 255) : Calls Tryz.prog 63 #[.int .u8 c] w fun e w' => e = .returned (.bool (digitB c)) ∧ w = w' := by
  by_cases h : 48 ≤ c
  · by_cases h2 : c ≤ 57 <;>
    · go_enter Tryz.func63, Tryz.ntmps63
      go_wp2
      go_ret
      exact ⟨by simp [digitB, h, h2], rfl⟩
  · go_enter Tryz.func63, Tryz.ntmps63
    go_wp2
    go_ret
    have e : digitB c = false := by simp [digitB]; omega
    exact ⟨by rw [e]; rfl, rfl⟩
theorem starts_any (h0 : 0 ≤ c) (h1 : c ≤ 255) : Calls Tryz.prog 62 #[.int .u8 c] w fun e w' => e = .returned (.bool (startsB c)) ∧ w = w' := by
  cases h : letterB c
  · have h3 : (c == 95) = true ∨ (c == 95) = false := by cases c == 95 <;> simp
    rcases h3 with h3 | h3 <;>
    · go_enter Tryz.func62, Tryz.ntmps62
      go_wp2_with (go_at_call 33; refine (letter_any c _ h0 h1).mono ?_; rintro e w' ⟨rfl, rfl⟩)
      go_ret
      exact ⟨by simp [startsB, h, h3], rfl⟩
  · go_enter Tryz.func62, Tryz.ntmps62
    go_wp2_with (go_at_call 33; refine (letter_any c _ h0 h1).mono ?_; rintro e w' ⟨rfl, rfl⟩)
    go_ret
    exact ⟨by simp [startsB, h], rfl⟩
theorem inName_any (h0 : 0 ≤ c) (h1 : c ≤ 255) : Calls Tryz.prog 47 #[.int .u8 c] w fun e w' => e = .returned (.bool (inNameB c)) ∧ w = w' := by
  cases h : startsB c
  · go_enter Tryz.func47, Tryz.ntmps47
    go_wp2_with (first | (go_at_call 62; refine (starts_any c _ h0 h1).mono ?_; rintro e w' ⟨rfl, rfl⟩) | (go_at_call 63; refine (digit_any c _ h0 h1).mono ?_; rintro e w' ⟨rfl, rfl⟩))
    go_ret
    exact ⟨by simp [inNameB, h], rfl⟩
  · go_enter Tryz.func47, Tryz.ntmps47
    go_wp2_with (go_at_call 62; refine (starts_any c _ h0 h1).mono ?_; rintro e w' ⟨rfl, rfl⟩)
    go_ret
    exact ⟨by simp [inNameB, h], rfl⟩
theorem inLabel_any (h0 : 0 ≤ c) (h1 : c ≤ 255) : Calls Tryz.prog 36 #[.int .u8 c] w fun e w' => e = .returned (.bool (inLabelB c)) ∧ w = w' := by
  cases h : inNameB c
  · have h3 : (c == 45) = true ∨ (c == 45) = false := by cases c == 45 <;> simp
    rcases h3 with h3 | h3 <;>
    · go_enter Tryz.func36, Tryz.ntmps36
      go_wp2_with (go_at_call 47; refine (inName_any c _ h0 h1).mono ?_; rintro e w' ⟨rfl, rfl⟩)
      go_ret
      exact ⟨by simp [inLabelB, h, h3], rfl⟩
  · go_enter Tryz.func36, Tryz.ntmps36
    go_wp2_with (go_at_call 47; refine (inName_any c _ h0 h1).mono ?_; rintro e w' ⟨rfl, rfl⟩)
    go_ret
    exact ⟨by simp [inLabelB, h], rfl⟩
theorem inLine_any : Calls Tryz.prog 75 #[.int .u8 c] w fun e w' => e = .returned (.bool (inLineB c)) ∧ w = w' := by
  go_enter Tryz.func75, Tryz.ntmps75
  go_wp2
  go_ret
  exact ⟨by simp [inLineB], rfl⟩
end

/-- The byte at a place, 0 behind the end. -/
def pk (s : ByteArray) (k : Nat) : Int := if h : k < s.size then (s[k].toNat : Int) else 0
theorem pk_lo (s : ByteArray) (k : Nat) : 0 ≤ pk s k := by unfold pk; split <;> omega
theorem pk_hi (s : ByteArray) (k : Nat) : pk s k ≤ 255 := by
  unfold pk; split
  · rename_i h; have := s[k].toNat_lt; omega
  · omega
theorem pk_in {s : ByteArray} {k : Nat} (h : k < s.size) : pk s k = (s[k].toNat : Int) := by simp [pk, h]


theorem Rd.drewN {w : World} {b k : Nat} {s : ByteArray} (h : Rd w b s k) (n : Nat) : Rd (w.drewN n) b s k := ⟨h.text, h.at_, h.free⟩
theorem Rd.lt {w : World} {b k : Nat} {s : ByteArray} (h : Rd w b s k) : b < w.heap.size := World.block_lt_of_cell? w _ h.text

/-- What a call that moves the reader at block b leaves: of what was there its place alone has turned. -/
structure Adv (b : Nat) (w w' : World) : Prop where
  os : w'.os = w.os
  tape : w'.tape = w.tape
  output : w'.output = w.output
  size : w.heap.size ≤ w'.heap.size
  block : ∀ k, k < w.heap.size → k ≠ b → w'.heap[k]? = w.heap[k]?
  cell : ∀ o, o ≠ 1 → w'.cell? ⟨b, o, none⟩ = w.cell? ⟨b, o, none⟩
  frozen : ∀ o, w'.frozen? ⟨b, o, none⟩ = w.frozen? ⟨b, o, none⟩

theorem Adv.refl (b : Nat) (w : World) : Adv b w w := ⟨rfl, rfl, rfl, Nat.le_refl _, fun _ _ _ => rfl, fun _ _ => rfl, fun _ => rfl⟩
theorem Adv.trans {b : Nat} {x y z : World} (h : Adv b x y) (k : Adv b y z) : Adv b x z :=
  ⟨k.os.trans h.os, k.tape.trans h.tape, k.output.trans h.output, Nat.le_trans h.size k.size,
    fun i hi hne => (k.block i (Nat.lt_of_lt_of_le hi h.size) hne).trans (h.block i hi hne),
    fun o ho => (k.cell o ho).trans (h.cell o ho), fun o => (k.frozen o).trans (h.frozen o)⟩
theorem Adv.drewN {b : Nat} {x y : World} (h : Adv b x y) (n : Nat) : Adv b x (y.drewN n) := ⟨h.os, h.tape, h.output, h.size, h.block, h.cell, h.frozen⟩
theorem Adv.drewL {b : Nat} {x y : World} {n : Nat} (h : Adv b (x.drewN n) y) : Adv b x y := ⟨h.os, h.tape, h.output, h.size, h.block, h.cell, h.frozen⟩
theorem Adv.below {b : Nat} {x y z : World} (h : Adv b x y) (hb : b < x.heap.size) (k : Below y.heap.size y z) : Adv b x z :=
  ⟨k.os.trans h.os, k.tape.trans h.tape, k.output.trans h.output, Nat.le_trans h.size k.size,
    fun i hi hne => (k.block i (Nat.lt_of_lt_of_le hi h.size)).trans (h.block i hi hne),
    fun o ho => (k.cell (p := ⟨b, o, none⟩) (Nat.lt_of_lt_of_le hb h.size)).trans (h.cell o ho), fun o => (k.frozen (p := ⟨b, o, none⟩) (Nat.lt_of_lt_of_le hb h.size)).trans (h.frozen o)⟩
theorem Adv.setCell {b : Nat} {x y : World} (h : Adv b x y) (v : Value) : Adv b x (y.setCell ⟨b, 1, none⟩ v) :=
  ⟨h.os, h.tape, h.output, by simpa [World.setCell] using h.size,
    fun i hi hne => (Below.heap_setCell _ _ _ _ hne).trans (h.block i hi hne),
    fun o ho => (World.cell?_setCell_other _ _ _ _ (by intro e; cases e; exact ho rfl)).trans (h.cell o ho), fun o => (World.frozen?_setCell ..).trans (h.frozen o)⟩
theorem Adv.to_below {b B : Nat} {x y : World} (h : Adv b x y) (hB : B ≤ b) (hs : B ≤ x.heap.size) : Below B x y :=
  ⟨h.os, h.tape, h.output, h.size, fun i hi => h.block i (by omega) (by omega)⟩
theorem Rd.set {w : World} {b k : Nat} {s : ByteArray} (h : Rd w b s k) (k' : Nat) : Rd (w.setCell ⟨b, 1, none⟩ (.int .i64 k')) b s k' :=
  ⟨(World.cell?_setCell_other _ _ _ _ (by simp)).trans h.text, World.cell?_setCell_same _ _ _ h.at_, (World.frozen?_setCell ..).trans h.free⟩
theorem Rd.below {w w' : World} {b k : Nat} {s : ByteArray} (h : Rd w b s k) (hb : Below w.heap.size w w') : Rd w' b s k :=
  ⟨(hb.cell (p := ⟨b, 0, none⟩) h.lt).trans h.text, (hb.cell (p := ⟨b, 1, none⟩) h.lt).trans h.at_, (hb.frozen (p := ⟨b, 1, none⟩) h.lt).trans h.free⟩


theorem Adv.drawn (b : Nat) (w : World) (n : Nat) : Adv b w (w.drewN n) := (Adv.refl b w).drewN n

/-- A call that moves the reader and answers v. -/
def Moved (b : Nat) (s : ByteArray) (k' : Nat) (v : Value) (w : World) (e : Ending) (w' : World) : Prop := e = .returned v ∧ Rd w' b s k' ∧ Adv b w w'
section
variable (b k : Nat) (s : ByteArray) (w : World)
theorem done_any (h : Rd w b s k) (hs : s.size ≤ maxLen) :
    Calls Tryz.prog 37 #[.pointer (some ⟨b, 0, none⟩)] w (Quiet (.bool (decide (s.size ≤ k))) w) := by
  unfold maxLen at hs
  obtain ⟨h0, h1, -⟩ := h
  go_enter Tryz.func37, Tryz.ntmps37
  go_wp2
  go_quiet (fail)
  go_wp2
  go_ret
  exact ⟨rfl, _, rfl⟩
theorem done_no (h : Rd w b s k) (hs : s.size ≤ maxLen) (hk : k < s.size) :
    Calls Tryz.prog 37 #[.pointer (some ⟨b, 0, none⟩)] w (Quiet (.bool false) w) := by
  have e : decide (s.size ≤ k) = false := by simp; omega
  rw [← e]; exact done_any b k s w h hs
theorem done_yes (h : Rd w b s k) (hs : s.size ≤ maxLen) (hk : ¬ k < s.size) :
    Calls Tryz.prog 37 #[.pointer (some ⟨b, 0, none⟩)] w (Quiet (.bool true) w) := by
  have e : decide (s.size ≤ k) = true := by simp; omega
  rw [← e]; exact done_any b k s w h hs
theorem peek_any (h : Rd w b s k) (hs : s.size ≤ maxLen) :
    Calls Tryz.prog 34 #[.pointer (some ⟨b, 0, none⟩)] w (Quiet (.int .u8 (pk s k)) w) := by
  have HS := Lib.hid hs
  unfold maxLen at hs
  by_cases hk : k < s.size
  · have hd : decide (s.size ≤ k) = false := by simp; omega
    have HX := Lib.hid (pk_in hk)
    have h' := h
    obtain ⟨h0, h1, -⟩ := h'
    go_enter Tryz.func34, Tryz.ntmps34
    go_wp2_with (go_at_call 37; refine (done_any b k s _ h HS.out).mono ?_; rintro e w' ⟨rfl, n, rfl⟩)
    go_quiet (fail)
    go_wp2
    go_ret
    exact ⟨by rw [HX.out]; rfl, n + nq, by simp⟩
  · have hd : decide (s.size ≤ k) = true := by simp; omega
    have hx : pk s k = 0 := by simp [pk, hk]
    have HX := Lib.hid hx
    clear hx
    go_enter Tryz.func34, Tryz.ntmps34
    go_wp2_with (go_at_call 37; refine (done_any b k s _ h HS.out).mono ?_; rintro e w' ⟨rfl, n, rfl⟩)
    go_ret
    exact ⟨by rw [HX.out]; rfl, _, rfl⟩
def rdTo (s : ByteArray) (k : Nat) : Nat := if k < s.size then k + 1 else k
def tkTo (s : ByteArray) (k : Nat) (c : Int) : Nat := if k < s.size ∧ pk s k = c then k + 1 else k
def tkB (s : ByteArray) (k : Nat) (c : Int) : Bool := decide (k < s.size) && pk s k == c
theorem read_any (h : Rd w b s k) (hs : s.size ≤ maxLen) :
    Calls Tryz.prog 93 #[.pointer (some ⟨b, 0, none⟩)] w (Moved b s (rdTo s k) (.int .u8 (pk s k)) w) := by
  have HS := Lib.hid hs
  unfold maxLen at hs
  have h' := h
  obtain ⟨h0, h1, h2⟩ := h'
  by_cases hk : k < s.size
  · have hd : decide (s.size ≤ k) = false := by simp; omega
    have e : rdTo s k = k + 1 := by simp [rdTo, hk]
    rw [e]; clear e
    go_enter Tryz.func93, Tryz.ntmps93
    go_wp2_with (first | (go_at_call 34; refine (peek_any b k s _ h HS.out).mono ?_; rintro e w' ⟨rfl, n, rfl⟩) | (go_at_call 37; refine (done_any b k s _ (by exact h.drewN _) HS.out).mono ?_; rintro e w' ⟨rfl, m, rfl⟩))
    go_ret
    exact ⟨rfl, (h.drewN _).set (k + 1), (Adv.drawn b w _).setCell _⟩
  · have hd : decide (s.size ≤ k) = true := by simp; omega
    have e : rdTo s k = k := by simp [rdTo, hk]
    rw [e]; clear e
    go_enter Tryz.func93, Tryz.ntmps93
    go_wp2_with (first | (go_at_call 34; refine (peek_any b k s _ h HS.out).mono ?_; rintro e w' ⟨rfl, n, rfl⟩) | (go_at_call 37; refine (done_any b k s _ (by exact h.drewN _) HS.out).mono ?_; rintro e w' ⟨rfl, m, rfl⟩))
    go_ret
    exact ⟨rfl, h.drewN _, Adv.drawn b w _⟩
theorem take_any (c : Int) (hc0 : 0 ≤ c) (hc : c ≤ 255) (h : Rd w b s k) (hs : s.size ≤ maxLen) :
    Calls Tryz.prog 88 #[.pointer (some ⟨b, 0, none⟩), .int .u8 c] w (Moved b s (tkTo s k c) (.bool (tkB s k c)) w) := by
  have HS := Lib.hid hs
  unfold maxLen at hs
  have h' := h
  obtain ⟨h0, h1, h2⟩ := h'
  by_cases hk : k < s.size
  · have hd : decide (s.size ≤ k) = false := by simp; omega
    have hx := pk_in hk
    by_cases hc : pk s k = c
    · have hn : (((s[k].toNat : Int)) != c) = false := by rw [← hx, hc]; simp
      have e : tkTo s k c = k + 1 := by simp [tkTo, hk, hc]
      have e2 : tkB s k c = true := by simp [tkB, hk, hc]
      rw [e, e2]; clear e e2
      clear hc hx
      go_enter Tryz.func88, Tryz.ntmps88
      go_wp2
      go_quiet ((go_at_call 37; exact quietAt (done_no b k s _ (by exact h.drewN _) HS.out hk)))
      go_wp2
      go_ret
      exact ⟨rfl, (h.drewN _).set (k + 1), (Adv.drawn b w _).setCell _⟩
    · have hn : (((s[k].toNat : Int)) != c) = true := by rw [← hx]; simp [hc]
      have e : tkTo s k c = k := by simp [tkTo, hc]
      have e2 : tkB s k c = false := by simp [tkB, hc]
      rw [e, e2]; clear e e2
      clear hc hx
      go_enter Tryz.func88, Tryz.ntmps88
      go_wp2
      go_quiet ((go_at_call 37; exact quietAt (done_no b k s _ (by exact h.drewN _) HS.out hk)))
      go_wp2
      go_ret
      exact ⟨rfl, h.drewN _, Adv.drawn b w _⟩
  · have hd : decide (s.size ≤ k) = true := by simp; omega
    have e : tkTo s k c = k := by simp [tkTo, hk]
    have e2 : tkB s k c = false := by simp [tkB, hk]
    rw [e, e2]; clear e e2
    go_enter Tryz.func88, Tryz.ntmps88
    go_wp2
    go_quiet ((go_at_call 37; exact quietAt (done_yes b k s _ (by exact h.drewN _) HS.out hk)))
    go_wp2
    go_ret
    exact ⟨rfl, h.drewN _, Adv.drawn b w _⟩

/-- Where a run of bytes ends. -/
def runLen (p : Int → Bool) (l : List UInt8) : Nat := (l.takeWhile fun c => p c.toNat).length
def runTo (p : Int → Bool) (s : ByteArray) (k : Nat) : Nat := k + runLen p (s.data.toList.drop k)
theorem runTo_step {p : Int → Bool} {s : ByteArray} {k : Nat} (hk : k < s.size) (hp : p (pk s k) = true) : runTo p s k = runTo p s (k + 1) := by
  have hl : k < s.data.toList.length := by simpa using hk
  have e : s.data.toList[k] = s[k] := rfl
  rw [pk_in hk] at hp
  unfold runTo runLen
  rw [List.drop_eq_getElem_cons hl, List.takeWhile_cons, e]
  simp [hp]; omega
theorem runTo_stop {p : Int → Bool} {s : ByteArray} {k : Nat} (hp : k < s.size → p (pk s k) = false) : runTo p s k = k := by
  unfold runTo runLen
  by_cases hk : k < s.size
  · have hl : k < s.data.toList.length := by simpa using hk
    have e : s.data.toList[k] = s[k] := rfl
    have hp := hp hk
    rw [pk_in hk] at hp
    rw [List.drop_eq_getElem_cons hl, List.takeWhile_cons, e]
    simp [hp]
  · have hl : s.data.toList.length ≤ k := by simp; omega
    rw [List.drop_eq_nil_of_le hl]; simp
def Passed (b : Nat) (s : ByteArray) (k' : Nat) (w : World) (e : Ending) (w' : World) : Prop := e = .returned (.tuple #[]) ∧ Rd w' b s k' ∧ Adv b w w'
def PassRel (b k : Nat) (s : ByteArray) (p : Int → Bool) (w : World) (m : Nat) (wr : World) : Prop :=
  ∃ j : Nat, s.size - j ≤ m ∧ runTo p s j = runTo p s k ∧ Rd wr b s j ∧ Adv b w wr
/-- What pass goes over, for whatever function that answers so of a byte. -/
theorem pass_any (f : FuncId) (p : Int → Bool) (hcf : ∀ (args : Array Value) (W : World), (callFunc f args).run Tryz.prog W = .ok (.enter f args) W) (hf : ∀ (c : Int) (w : World), 0 ≤ c → c ≤ 255 → Calls Tryz.prog f #[.int .u8 c] w fun e w' => e = .returned (.bool (p c)) ∧ w = w')
    (h : Rd w b s k) (hs : s.size ≤ maxLen) :
    Calls Tryz.prog 35 #[.pointer (some ⟨b, 0, none⟩), .func (.func f) #[] #[]] w (Passed b s (runTo p s k) w) := by
  have HS := Lib.hid hs
  have HF := Lib.hid hf
  have HR := Lib.hid h
  clear hf h
  unfold maxLen at hs
  go_enter Tryz.func35, Tryz.ntmps35
  go_wp2
  go_loopg [] (s.size - k) (fun m wr => PassRel b k s p w m wr)
  case atStart => exact ⟨k, Nat.le_refl _, rfl, HR.out, Adv.refl b w⟩
  case round =>
    obtain ⟨j, hm, he, hr, ha⟩ := hrel
    have HE := Lib.hid he
    have HM := Lib.hid hm
    have HA := Lib.hid ha
    clear he hm ha
    have hr' := hr
    obtain ⟨h0, h1, h2⟩ := hr'
    by_cases hj : j < s.size
    · have hx := pk_in hj
      have h3 := pk_lo s j
      have h4 := pk_hi s j
      have HX := Lib.hid hx
      rw [hx] at h3 h4
      cases hp : p (s[j].toNat : Int)
      · have HP := Lib.hid hp
        have HC : ∀ W, Calls Tryz.prog f #[.int .u8 (s[j].toNat : Int)] W fun e w' => e = .returned (.bool false) ∧ w' = W := fun W => (HF.out _ W h3 h4).mono fun e w' ⟨x, y⟩ => ⟨by rw [x, HP.out], y.symm⟩
        have HC := Lib.hid HC
        clear hx hp
        go_wp2_with fail
        go_quiet ((first | (go_at_call 37; exact quietAt (done_no b j s _ (by exact hr.drewN _) HS.out hj)) | exact Calls.quiet_of_same (HC.out _)))
        go_wp2
        go_end0
        refine ⟨rfl, ?_, (HA.out).trans (Adv.drawn b wr _)⟩
        rw [← HE.out, runTo_stop (fun h => by rw [HX.out]; exact HP.out)]
        exact hr.drewN _
      · have HP := Lib.hid hp
        have HC : ∀ W, Calls Tryz.prog f #[.int .u8 (s[j].toNat : Int)] W fun e w' => e = .returned (.bool true) ∧ w' = W := fun W => (HF.out _ W h3 h4).mono fun e w' ⟨x, y⟩ => ⟨by rw [x, HP.out], y.symm⟩
        have HC := Lib.hid HC
        clear hx hp
        go_wp2_with fail
        go_quiet ((first | (go_at_call 37; exact quietAt (done_no b j s _ (by exact hr.drewN _) HS.out hj)) | exact Calls.quiet_of_same (HC.out _)))
        go_wp2
        go_roundg (s.size - (j + 1))
        case rel => exact ⟨j + 1, Nat.le_refl _, by rw [← runTo_step hj (by rw [HX.out]; exact HP.out)]; exact HE.out, (hr.drewN _).set (j + 1), (HA.out).trans ((Adv.drawn b wr _).setCell _)⟩
        case measure => have := HM.out; omega
    · go_wp2_with fail
      go_quiet ((go_at_call 37; exact quietAt (done_yes b j s _ (by exact hr.drewN _) HS.out hj)))
      go_wp2
      go_end0
      refine ⟨rfl, ?_, (HA.out).trans (Adv.drawn b wr _)⟩
      rw [← HE.out, runTo_stop (fun h => absurd h hj)]
      exact hr.drewN _

theorem pass_digit (h : Rd w b s k) (hs : s.size ≤ maxLen) : Calls Tryz.prog 35 #[.pointer (some ⟨b, 0, none⟩), .func (.func 63) #[] #[]] w (Passed b s (runTo digitB s k) w) :=
  pass_any b k s w 63 digitB (run_enter Tryz.func63 (by kernel_rfl) (by kernel_rfl)) (fun c w h0 h1 => digit_any c w h0 h1) h hs
theorem pass_inName (h : Rd w b s k) (hs : s.size ≤ maxLen) : Calls Tryz.prog 35 #[.pointer (some ⟨b, 0, none⟩), .func (.func 47) #[] #[]] w (Passed b s (runTo inNameB s k) w) :=
  pass_any b k s w 47 inNameB (run_enter Tryz.func47 (by kernel_rfl) (by kernel_rfl)) (fun c w h0 h1 => inName_any c w h0 h1) h hs
theorem pass_inLine (h : Rd w b s k) (hs : s.size ≤ maxLen) : Calls Tryz.prog 35 #[.pointer (some ⟨b, 0, none⟩), .func (.func 75) #[] #[]] w (Passed b s (runTo inLineB s k) w) :=
  pass_any b k s w 75 inLineB (run_enter Tryz.func75 (by kernel_rfl) (by kernel_rfl)) (fun c w h0 h1 => inLine_any c w) h hs
theorem pass_inLabel (h : Rd w b s k) (hs : s.size ≤ maxLen) : Calls Tryz.prog 35 #[.pointer (some ⟨b, 0, none⟩), .func (.func 36) #[] #[]] w (Passed b s (runTo inLabelB s k) w) :=
  pass_any b k s w 36 inLabelB (run_enter Tryz.func36 (by kernel_rfl) (by kernel_rfl)) (fun c w h0 h1 => inLabel_any c w h0 h1) h hs
end
end Go.Proofs.YtlkdicabmikhkaaGreatDoor
