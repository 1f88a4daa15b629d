import Derived.Test.YtkbbhgipajhbnaaDoorParBe
import Derived.Test.YtkbbhgipajhbnaaDoorLexW0
/- The law of blocks: the tokens of its text, and what Parse tells of it. -/
namespace Go.Proofs.YtkbbhgipajhbnaaDoor
open Go.RowKit
set_option linter.unusedVariables false
set_option linter.unusedSimpArgs false
def stT (x : ByteArray) : TokL := ⟨2, ⟨#[]⟩, 0, [(false, x)], 0⟩
def nuT (j : Nat) : TokL := ⟨1, ⟨#[]⟩, j, [], 0⟩
def headL : Nat → List UInt8
  | 1 => [118, 97, 114, 105, 97, 98, 108, 101, 32, 34, 118, 34, 32, 123]
  | 2 => [108, 111, 99, 97, 108, 115, 32, 123]
  | 3 => [110, 111, 100, 101, 32, 34, 110, 34, 32, 123]
  | _ => [109, 111, 100, 117, 108, 101, 32, 34, 109, 34, 32, 123]
def headT : Nat → List TokL
  | 1 => [nmT ⟨#[118, 97, 114, 105, 97, 98, 108, 101]⟩, stT ⟨#[118]⟩, sgT ⟨#[123]⟩]
  | 2 => [nmT ⟨#[108, 111, 99, 97, 108, 115]⟩, sgT ⟨#[123]⟩]
  | 3 => [nmT ⟨#[110, 111, 100, 101]⟩, stT ⟨#[110]⟩, sgT ⟨#[123]⟩]
  | _ => [nmT ⟨#[109, 111, 100, 117, 108, 101]⟩, stT ⟨#[109]⟩, sgT ⟨#[123]⟩]
def labK : Nat → ByteArray
  | 1 => ⟨#[118]⟩
  | 2 => ⟨#[]⟩
  | 3 => ⟨#[110]⟩
  | _ => ⟨#[109]⟩
def aName (j : Nat) : ByteArray := ⟨(97 :: decTo j []).toArray⟩
def pieceL (j v : Nat) : List UInt8 := 32 :: ((97 :: decTo j []) ++ 32 :: ([61] ++ 32 :: decTo v []))
def pieceT (j v : Nat) : List TokL := [nmT (aName j), sgT ⟨#[61]⟩, nuT v]
def attrsL : Nat → List UInt8
  | 0 => []
  | n + 1 => attrsL n ++ pieceL n n
def attrsT : Nat → List TokL
  | 0 => []
  | n + 1 => attrsT n ++ pieceT n n
def extraL (x : Bool) : List UInt8 := if x then pieceL 0 1 else []
def extraT (x : Bool) : List TokL := if x then pieceT 0 1 else []
def blockL (k n : Nat) (x : Bool) : List UInt8 := headL k ++ attrsL n ++ extraL x ++ [32, 125, 10]
def blockT (k n : Nat) (x : Bool) : List TokL := headT k ++ attrsT n ++ extraT x ++ [sgT ⟨#[125]⟩]
/-- The blocks; the last one may have a name twice. -/
def blocksL (n : Nat) (x : Bool) : List Nat → List UInt8
  | [] => []
  | [k] => blockL k n x
  | k :: l => blockL k n false ++ blocksL n x l
def blocksT (n : Nat) (x : Bool) : List Nat → List TokL
  | [] => []
  | [k] => blockT k n x
  | k :: l => blockT k n false ++ blocksT n x l
def tokIs (l : List UInt8) (kind : Int) (text : List UInt8) (num : Int) (part : List UInt8) : Bool := match tokL l with
  | some (t, c) => t.kind == kind && t.text.data.toList == text && t.num == num && (match t.parts with | [] => part.isEmpty | [(false, x)] => !part.isEmpty && x.data.toList == part | _ => false) && t.at_ == 0 && c == l.length
  | none => false
theorem tok_of {l : List UInt8} {kind num : Int} {text part : List UInt8} (h : tokIs l kind text num part = true) : tokL l = some (⟨kind, ⟨text.toArray⟩, num, if part = [] then [] else [(false, ⟨part.toArray⟩)], 0⟩, l.length) := by
  unfold tokIs at h
  split at h
  · rename_i t c ht
    simp only [Bool.and_eq_true, beq_iff_eq] at h
    obtain ⟨⟨⟨⟨⟨h1, h2⟩, h3⟩, h4⟩, h5⟩, h6⟩ := h
    rw [ht, h6]
    obtain ⟨a, b, d, e, f⟩ := t
    simp only at h1 h2 h3 h4 h5
    have hb : b = ⟨text.toArray⟩ := by apply ByteArray.ext; apply Array.ext'; exact h2
    have he : e = if part = [] then [] else [(false, ⟨part.toArray⟩)] := by
      split at h4
      · rw [if_pos (List.isEmpty_iff.1 h4)]
      · rename_i x
        simp only [Bool.and_eq_true, Bool.not_eq_true', beq_iff_eq] at h4
        rw [if_neg (fun e => by rw [e] at h4; simp at h4)]
        have : x = ⟨part.toArray⟩ := by apply ByteArray.ext; apply Array.ext'; exact h4.2
        rw [this]
      · cases h4
    rw [h1, hb, h3, he, h5]
  · cases h
theorem names_ok : (List.range 6).all (fun j => tokIs (97 :: decTo j []) 3 (97 :: decTo j []) 0 [] && tokIs (decTo j []) 1 [] (j : Int) []) = true := by kernel_rfl
theorem name_tok (j : Nat) (hj : j < 6) : tokL (97 :: decTo j []) = some (nmT (aName j), (97 :: decTo j []).length) ∧ tokL (decTo j []) = some (nuT j, (decTo j []).length) := by
  have h := List.all_eq_true.1 names_ok j (List.mem_range.2 hj)
  simp only [Bool.and_eq_true] at h
  exact ⟨tok_of h.1, tok_of h.2⟩
/-- A piece, ahead of a blank. -/
theorem lex_piece (j v : Nat) (hj : j < 6) (hv : v < 6) (y : List UInt8) : lexB (pieceL j v ++ 32 :: y) = (lexB (32 :: y)).map (pieceT j v ++ ·) := by
  have k4 : tokL [61] = some (⟨4, ⟨#[61]⟩, 0, [], 0⟩, ([61] : List UInt8).length) := by kernel_rfl
  have e : pieceL j v ++ 32 :: y = 32 :: ((97 :: decTo j []) ++ (32 :: ([61] ++ (32 :: (decTo v [] ++ 32 :: y))))) := by simp [pieceL]
  rw [e, lexB_blank 32 _ (.inl rfl), lexB_tok (name_tok j hj).1 (.inr (.inr (.inl rfl))), lexB_blank 32 _ (.inl rfl), lexB_tok k4 (.inr (.inr (.inl rfl))), lexB_blank 32 _ (.inl rfl), lexB_tok (name_tok v hv).2 (.inr (.inr (.inl rfl)))]
  cases lexB (32 :: y) <;> rfl
theorem piece_form (j v : Nat) (y : List UInt8) : ∃ z, pieceL j v ++ y = 32 :: z := ⟨_, rfl⟩
theorem lex_attrs : ∀ n, n < 6 → ∀ y, lexB (attrsL n ++ 32 :: y) = (lexB (32 :: y)).map (attrsT n ++ ·) := by
  intro n
  induction n with
  | zero => intro _ y; show lexB (32 :: y) = _; cases lexB (32 :: y) <;> rfl
  | succ n ih =>
    intro hn y
    obtain ⟨z, hz⟩ := piece_form n n (32 :: y)
    have e : attrsL (n + 1) ++ 32 :: y = attrsL n ++ (pieceL n n ++ 32 :: y) := by simp [attrsL]
    rw [e, hz, ih (by omega), ← hz, lex_piece n n (by omega) (by omega)]
    cases lexB (32 :: y) with
    | none => rfl
    | some t => simp [attrsT]
theorem lex_extra (x : Bool) (y : List UInt8) : lexB (extraL x ++ 32 :: y) = (lexB (32 :: y)).map (extraT x ++ ·) := by
  cases x with
  | false => show lexB (32 :: y) = _; cases lexB (32 :: y) <;> rfl
  | true => exact lex_piece 0 1 (by decide) (by decide) y
theorem lexB_lb (y : List UInt8) : lexB (123 :: y) = (lexB y).map (sgT ⟨#[123]⟩ :: ·) := by
  have h : tokL (123 :: y) = some (sgT ⟨#[123]⟩, 1) := by kernel_rfl
  exact lexB_step h
theorem lex_head (k : Nat) (y : List UInt8) : lexB (headL k ++ y) = (lexB y).map (headT k ++ ·) := by
  have w1 : tokL [118, 97, 114, 105, 97, 98, 108, 101] = some (nmT ⟨#[118, 97, 114, 105, 97, 98, 108, 101]⟩, ([118, 97, 114, 105, 97, 98, 108, 101] : List UInt8).length) := by kernel_rfl
  have w2 : tokL [108, 111, 99, 97, 108, 115] = some (nmT ⟨#[108, 111, 99, 97, 108, 115]⟩, ([108, 111, 99, 97, 108, 115] : List UInt8).length) := by kernel_rfl
  have w3 : tokL [110, 111, 100, 101] = some (nmT ⟨#[110, 111, 100, 101]⟩, ([110, 111, 100, 101] : List UInt8).length) := by kernel_rfl
  have w4 : tokL [109, 111, 100, 117, 108, 101] = some (nmT ⟨#[109, 111, 100, 117, 108, 101]⟩, ([109, 111, 100, 117, 108, 101] : List UInt8).length) := by kernel_rfl
  have v1 : tokL [34, 118, 34] = some (stT ⟨#[118]⟩, ([34, 118, 34] : List UInt8).length) := tok_of (show tokIs [34, 118, 34] 2 [] 0 [118] = true by kernel_rfl)
  have v3 : tokL [34, 110, 34] = some (stT ⟨#[110]⟩, ([34, 110, 34] : List UInt8).length) := tok_of (show tokIs [34, 110, 34] 2 [] 0 [110] = true by kernel_rfl)
  have v4 : tokL [34, 109, 34] = some (stT ⟨#[109]⟩, ([34, 109, 34] : List UInt8).length) := tok_of (show tokIs [34, 109, 34] 2 [] 0 [109] = true by kernel_rfl)
  have bl : ∀ z, Alike [] (32 :: z) := fun z => .inr (.inr (.inl rfl))
  have three : ∀ (a b : List UInt8) (ta tb : TokL), tokL a = some (ta, a.length) → tokL b = some (tb, b.length) → lexB (a ++ (32 :: (b ++ (32 :: (123 :: y))))) = (lexB y).map ([ta.put 0, tb.put 0, sgT ⟨#[123]⟩] ++ ·) := fun a b ta tb ha hb => by
    rw [lexB_tok ha (bl _), lexB_blank 32 _ (.inl rfl), lexB_tok hb (bl _), lexB_blank 32 _ (.inl rfl), lexB_lb]
    cases lexB y <;> rfl
  match k with
  | 0 =>
    have e : headL 0 ++ y = [109, 111, 100, 117, 108, 101] ++ (32 :: ([34, 109, 34] ++ (32 :: (123 :: y)))) := by simp [headL]
    rw [e, three [109, 111, 100, 117, 108, 101] [34, 109, 34] _ _ w4 v4]
    cases lexB y with
    | none => rfl
    | some t => simp [headT, TokL.put, nmT, stT]
  | 1 =>
    have e : headL 1 ++ y = [118, 97, 114, 105, 97, 98, 108, 101] ++ (32 :: ([34, 118, 34] ++ (32 :: (123 :: y)))) := by simp [headL]
    rw [e, three [118, 97, 114, 105, 97, 98, 108, 101] [34, 118, 34] _ _ w1 v1]
    cases lexB y with
    | none => rfl
    | some t => simp [headT, TokL.put, nmT, stT]
  | 2 =>
    have e : headL 2 ++ y = [108, 111, 99, 97, 108, 115] ++ (32 :: (123 :: y)) := by simp [headL]
    rw [e, lexB_tok w2 (bl _), lexB_blank 32 _ (.inl rfl), lexB_lb]
    cases lexB y with
    | none => rfl
    | some t => simp [headT, TokL.put, nmT]
  | 3 =>
    have e : headL 3 ++ y = [110, 111, 100, 101] ++ (32 :: ([34, 110, 34] ++ (32 :: (123 :: y)))) := by simp [headL]
    rw [e, three [110, 111, 100, 101] [34, 110, 34] _ _ w3 v3]
    cases lexB y with
    | none => rfl
    | some t => simp [headT, TokL.put, nmT, stT]
  | n + 4 =>
    have e : headL (n + 4) ++ y = [109, 111, 100, 117, 108, 101] ++ (32 :: ([34, 109, 34] ++ (32 :: (123 :: y)))) := by simp [headL]
    rw [e, three [109, 111, 100, 117, 108, 101] [34, 109, 34] _ _ w4 v4]
    cases lexB y with
    | none => rfl
    | some t => simp [headT, TokL.put, nmT, stT]
theorem lex_block (k n : Nat) (x : Bool) (hn : n < 6) (y : List UInt8) : lexB (blockL k n x ++ y) = (lexB y).map (blockT k n x ++ ·) := by
  have e : blockL k n x ++ y = headL k ++ (attrsL n ++ (extraL x ++ 32 :: (125 :: 10 :: y))) := by simp [blockL]
  rw [e, lex_head]
  have hz : ∃ z, extraL x ++ 32 :: (125 :: 10 :: y) = 32 :: z := by
    cases x with
    | false => exact ⟨_, rfl⟩
    | true => exact ⟨_, rfl⟩
  obtain ⟨z, hz⟩ := hz
  rw [hz, lex_attrs n hn, ← hz, lex_extra, lexB_blank 32 _ (.inl rfl), lexB_rb, lexB_blank 10 _ (.inr rfl)]
  cases lexB y with
  | none => rfl
  | some t => simp [blockT, sgT]
theorem lex_blocks (n : Nat) (x : Bool) (hn : n < 6) : ∀ ks y, lexB (blocksL n x ks ++ y) = (lexB y).map (blocksT n x ks ++ ·) := by
  intro ks
  induction ks with
  | nil => intro y; show lexB y = _; cases lexB y <;> rfl
  | cons k l ih =>
    intro y
    cases l with
    | nil => exact lex_block k n x hn y
    | cons k2 l =>
      show lexB ((blockL k n false ++ blocksL n x (k2 :: l)) ++ y) = _
      rw [List.append_assoc, lex_block k n false hn, ih]
      cases lexB y with
      | none => rfl
      | some t => simp [blocksT]
def defL : List UInt8 := [100, 101, 102, 105, 110, 101, 32, 34, 100, 34, 32, 123, 32]
def allL (n : Nat) (x : Bool) (ks : List Nat) : List UInt8 := blocksL n x ks ++ (defL ++ (blocksL n x ks ++ [32, 125]))
def allT (n : Nat) (x : Bool) (ks : List Nat) : List TokL := blocksT n x ks ++ ([nmT ⟨#[100, 101, 102, 105, 110, 101]⟩, stT ⟨#[100]⟩, sgT ⟨#[123]⟩] ++ (blocksT n x ks ++ [sgT ⟨#[125]⟩]))
theorem lex_all (n : Nat) (x : Bool) (hn : n < 6) (ks : List Nat) : lexB (allL n x ks) = some (allT n x ks) := by
  have w1 : tokL [100, 101, 102, 105, 110, 101] = some (nmT ⟨#[100, 101, 102, 105, 110, 101]⟩, ([100, 101, 102, 105, 110, 101] : List UInt8).length) := by kernel_rfl
  have v1 : tokL [34, 100, 34] = some (stT ⟨#[100]⟩, ([34, 100, 34] : List UInt8).length) := tok_of (show tokIs [34, 100, 34] 2 [] 0 [100] = true by kernel_rfl)
  have bl : ∀ z, Alike [] (32 :: z) := fun z => .inr (.inr (.inl rfl))
  have hd : lexB (defL ++ (blocksL n x ks ++ [32, 125])) = some ([nmT ⟨#[100, 101, 102, 105, 110, 101]⟩, stT ⟨#[100]⟩, sgT ⟨#[123]⟩] ++ (blocksT n x ks ++ [sgT ⟨#[125]⟩])) := by
    have e : defL ++ (blocksL n x ks ++ [32, 125]) = [100, 101, 102, 105, 110, 101] ++ (32 :: ([34, 100, 34] ++ (32 :: (123 :: (32 :: (blocksL n x ks ++ [32, 125])))))) := by simp [defL]
    rw [e, lexB_tok w1 (bl _), lexB_blank 32 _ (.inl rfl), lexB_tok v1 (bl _), lexB_blank 32 _ (.inl rfl), lexB_lb, lexB_blank 32 _ (.inl rfl), lex_blocks n x hn]
    have : lexB [32, 125] = some [sgT ⟨#[125]⟩] := by rw [lexB_blank 32 _ (.inl rfl), lexB_rb, lexB_nil]; rfl
    rw [this]
    simp [TokL.put, nmT, stT]
  unfold allL allT
  rw [lex_blocks n x hn, hd]
  rfl
end Go.Proofs.YtkbbhgipajhbnaaDoor

/- The law of blocks: what Parse tells of its tokens. -/
namespace Go.Proofs.YtkbbhgipajhbnaaDoor
open Go.RowKit
set_option linter.unusedVariables false
set_option linter.unusedSimpArgs false
def QuietT (t : TokL) : Prop := (∀ r, opOf t.text r = 0) ∧ t.text ≠ ⟨#[91]⟩ ∧ t.text ≠ ⟨#[63]⟩
def nuN (j : Nat) : NodeL := ⟨1, j, ⟨#[]⟩, [], []⟩
def attrsV : Nat → List AttrL
  | 0 => []
  | n + 1 => attrsV n ++ [⟨aName n, [nuN n]⟩]
theorem attrsV_len : ∀ n, (attrsV n).length = n := by
  intro n; induction n with
  | zero => rfl
  | succ n ih => simp [attrsV, ih]
theorem op_name (j : Nat) (hj : j < 6) : QuietT (nmT (aName j)) ∧ (aName j).size ≤ 100 := by
  have q : ∀ x : ByteArray, (opKind x).2 = 0 → (opKind x).1 = 0 → ∀ r, opOf x r = 0 := fun x h1 h2 r => by
    unfold opOf; rw [h1, h2]; simp
  match j, hj with
  | 0, _ => exact ⟨⟨q _ (by decide +kernel) (by decide +kernel), by decide +kernel, by decide +kernel⟩, by decide +kernel⟩
  | 1, _ => exact ⟨⟨q _ (by decide +kernel) (by decide +kernel), by decide +kernel, by decide +kernel⟩, by decide +kernel⟩
  | 2, _ => exact ⟨⟨q _ (by decide +kernel) (by decide +kernel), by decide +kernel, by decide +kernel⟩, by decide +kernel⟩
  | 3, _ => exact ⟨⟨q _ (by decide +kernel) (by decide +kernel), by decide +kernel, by decide +kernel⟩, by decide +kernel⟩
  | 4, _ => exact ⟨⟨q _ (by decide +kernel) (by decide +kernel), by decide +kernel, by decide +kernel⟩, by decide +kernel⟩
  | 5, _ => exact ⟨⟨q _ (by decide +kernel) (by decide +kernel), by decide +kernel, by decide +kernel⟩, by decide +kernel⟩
theorem op_rb : QuietT (sgT ⟨#[125]⟩) := ⟨fun r => op_close _ (.inr rfl) r, by decide, by decide⟩
theorem names_apart : (List.range 6).all (fun i => (List.range 6).all fun j => (i == j) || !decide (aName i = aName j)) = true := by decide +kernel
theorem name_ne {i j : Nat} (hi : i < 6) (hj : j < 6) (h : i ≠ j) : aName i ≠ aName j := by
  have := List.all_eq_true.1 (List.all_eq_true.1 names_apart i (List.mem_range.2 hi)) j (List.mem_range.2 hj)
  simp only [Bool.or_eq_true, beq_iff_eq, Bool.not_eq_true', decide_eq_false_iff_not] at this
  rcases this with e | e
  · exact absurd e h
  · exact e
theorem not_in : ∀ n j, j < 6 → n ≤ j → inNames (aName j) ((attrsV n).map (·.name)) = false := by
  intro n
  induction n with
  | zero => intro j _ _; rfl
  | succ n ih =>
    intro j hj hn
    unfold inNames at *
    rw [attrsV, List.map_append, List.any_append, ih j hj (by omega)]
    simp only [List.map_cons, List.map_nil, List.any_cons, List.any_nil, Bool.or_false, Bool.false_or, decide_eq_false_iff_not]
    exact name_ne (by omega) hj (by omega)
theorem yes_in : ∀ n, 0 < n → inNames (aName 0) ((attrsV n).map (·.name)) = true := by
  intro n
  induction n with
  | zero => intro h; omega
  | succ n ih =>
    intro _
    unfold inNames at *
    rw [attrsV, List.map_append, List.any_append]
    by_cases hn : 0 < n
    · rw [ih hn]; rfl
    · obtain rfl : n = 0 := by omega
      simp [attrsV]
theorem attrsT_len : ∀ n, (attrsT n).length = 3 * n := by
  intro n; induction n with
  | zero => rfl
  | succ n ih => simp [attrsT, ih, pieceT]; omega
theorem attrs_drop : ∀ n i, i < n → (attrsT n).drop (3 * i) = pieceT i i ++ (attrsT n).drop (3 * (i + 1)) := by
  intro n
  induction n with
  | zero => intro i h; omega
  | succ n ih =>
    intro i hi
    rw [attrsT]
    have hl := attrsT_len n
    by_cases h : i < n
    · rw [List.drop_append_of_le_length (by omega), ih i h, List.drop_append_of_le_length (by omega), List.append_assoc]
    · obtain rfl : i = n := by omega
      rw [List.drop_append_of_le_length (by omega), List.drop_eq_nil_of_le (by omega), List.nil_append, List.drop_eq_nil_of_le (by simp [pieceT]; omega), List.append_nil]
section
variable {T : List TokL}
theorem seg_get {p : Nat} {U : List TokL} (h : T.drop p = U) (i : Nat) : T[p + i]? = U[i]? := by rw [← h, List.getElem?_drop]
theorem seg_lt {p : Nat} {U : List TokL} (h : T.drop p = U) (hU : 0 < U.length) : p < T.length ∧ p + U.length = T.length := by
  have := congrArg List.length h
  rw [List.length_drop] at this
  omega
theorem seg_next {p : Nat} {A B : List TokL} (h : T.drop p = A ++ B) : T.drop (p + A.length) = B := by
  rw [← List.drop_drop, h, List.drop_left]
theorem tree_num {N p j : Nat} {t : TokL} {ns : List NodeL} (hN : 11 ≤ N) (h1 : T[p]? = some (nuT j)) (h2 : T[p + 1]? = some t) (hq : QuietT t) : treeE N T ⟨p, 0, ns, 0⟩ = some ([nuN j], ⟨p + 1, 0, [nuN j], 0⟩) := by
  obtain ⟨N, rfl⟩ : ∃ m, N = m + 11 := ⟨N - 11, by omega⟩
  have hl : p + 1 < T.length := (List.getElem?_eq_some_iff.1 h2).1
  have o1 : ∀ sg : ByteArray, sg ≠ ⟨#[]⟩ → openS T sg ⟨p, 0, [], 0⟩ = some (false, ⟨p, 0, [], 0⟩) := fun sg hsg => by
    unfold openS takeS
    simp only [h1]
    rw [if_neg (show ¬ (nuT j).text = sg from fun e => hsg e.symm)]
  have o2 : ∀ sg : ByteArray, t.text ≠ sg → openS T sg ⟨p + 1, 0, [nuN j], 0⟩ = some (false, ⟨p + 1, 0, [nuN j], 0⟩) := fun sg hsg => by
    unfold openS takeS
    simp only [h2]
    rw [if_neg hsg]
  have st : stepS T ⟨p, 0, [], 0⟩ = some ⟨p + 1, 0, [], 0⟩ := by unfold stepS; rw [if_pos hl]
  have pr : ev T (N + 2) .prim ⟨p, 0, [], 0⟩ = some ([0], ⟨p + 1, 0, [nuN j], 0⟩) := by
    rw [ev]
    simp only [h1, Option.bind_some]
    rw [if_pos (show (nuT j).kind = 1 from rfl), st]
    rfl
  have po : ev T (N + 3) .post ⟨p, 0, [], 0⟩ = some ([0], ⟨p + 1, 0, [nuN j], 0⟩) := by
    rw [ev, pr]
    simp only [one, Option.bind_some]
    rw [ev, o2 _ hq.2.1]
    rfl
  have un : ev T (N + 4) .un ⟨p, 0, [], 0⟩ = some ([0], ⟨p + 1, 0, [nuN j], 0⟩) := by
    rw [ev, o1 _ (by decide)]
    simp only [Option.bind_some]
    rw [if_neg (by decide), o1 _ (by decide)]
    simp only [Option.bind_some]
    rw [if_neg (by decide)]
    exact po
  have b6 : ev T (N + 5) (.bin 6) ⟨p, 0, [], 0⟩ = some ([0], ⟨p + 1, 0, [nuN j], 0⟩) := by rw [ev, if_pos rfl]; exact un
  have lo : ∀ m (r : Int), ev T (m + 1) (.loop r 0) ⟨p + 1, 0, [nuN j], 0⟩ = some ([0], ⟨p + 1, 0, [nuN j], 0⟩) := fun m r => by
    rw [ev]
    simp only [h2, Option.bind_some]
    rw [if_pos (hq.1 r)]
  have bn : ∀ m (r : Int), r ≠ 6 → ev T (m + 1) (.bin (r + 1)) ⟨p, 0, [], 0⟩ = some ([0], ⟨p + 1, 0, [nuN j], 0⟩) → ev T (m + 2) (.bin r) ⟨p, 0, [], 0⟩ = some ([0], ⟨p + 1, 0, [nuN j], 0⟩) := fun m r hr h => by
    rw [ev, if_neg hr, h]
    simp only [one, Option.bind_some]
    exact lo m r
  have b1 := bn _ 1 (by decide) (bn _ 2 (by decide) (bn _ 3 (by decide) (bn _ 4 (by decide) (bn _ 5 (by decide) b6))))
  have ex : ev T (N + 11) .expr ⟨p, 0, [], 0⟩ = some ([0], ⟨p + 1, 0, [nuN j], 0⟩) := by
    rw [ev, b1]
    simp only [one, Option.bind_some]
    rw [o2 _ hq.2.2]
    rfl
  unfold treeE
  show (one (ev T (N + 11) .expr ⟨p, 0, [], 0⟩)).bind _ = _
  rw [ex]
  rfl
theorem need_yes {p : Nat} {sg : ByteArray} {ns : List NodeL} {t : TokL} (h1 : T[p]? = some t) (h : t.text = sg) (hl : p + 1 < T.length) : needS T sg ⟨p, 0, ns, 0⟩ = some ⟨p + 1, 0, ns, 0⟩ := by
  unfold needS takeS
  simp only [h1]
  rw [if_pos h, if_pos hl]
theorem attr_one {N m p j : Nat} {t : TokL} {rest : List TokL} {ns : List NodeL} {l : List AttrL} (hN : 11 ≤ N) (hj : j < 6) (hd : T.drop p = pieceT j j ++ t :: rest) (hq : QuietT t) (hl : l.length ≤ 100) (hi : inNames (aName j) (l.map (·.name)) = false) :
    attrE N T (m + 1) l ⟨p, 0, ns, 0⟩ = attrE N T m (l ++ [⟨aName j, [nuN j]⟩]) ⟨p + 3, 0, [nuN j], 0⟩ := by
  have g0 : T[p]? = some (nmT (aName j)) := seg_get hd 0
  have g1 : T[p + 1]? = some (sgT ⟨#[61]⟩) := seg_get hd 1
  have g2 : T[p + 2]? = some (nuT j) := seg_get hd 2
  have g3 : T[p + 3]? = some t := seg_get hd 3
  have l3 : p + 3 < T.length := (List.getElem?_eq_some_iff.1 g3).1
  have hz := (op_name j hj).2
  have hn : nameS T ⟨p, 0, ns, 0⟩ = some (aName j, ⟨p + 1, 0, ns, 0⟩) := by
    unfold nameS
    simp only [g0]
    rw [if_pos (show (nmT (aName j)).kind = 3 from rfl), if_pos (by omega)]
    rfl
  rw [attrE]
  simp only [g0, Option.bind_some]
  rw [if_pos (show (nmT (aName j)).kind = 3 from rfl), if_pos ⟨by show (aName j).size ≤ _; omega, by omega⟩]
  have hi : inNames (nmT (aName j)).text (l.map (·.name)) = false := hi
  rw [hi]
  simp only [Bool.false_eq_true, if_false]
  rw [hn]
  simp only [Option.bind_some]
  rw [need_yes (sg := ⟨#[61]⟩) g1 rfl (by omega)]
  simp only [Option.bind_some]
  rw [tree_num hN g2 g3 hq]
  rfl
theorem attrs_go {N : Nat} (hN : 11 ≤ N) {n : Nat} (hn : n < 6) {t : TokL} {rest : List TokL} (hq : QuietT t) (p : Nat) (hd : T.drop p = attrsT n ++ t :: rest) :
    ∀ g i m ns, i + g = n → ∃ ns', attrE N T (m + g) (attrsV i) ⟨p + 3 * i, 0, ns, 0⟩ = attrE N T m (attrsV n) ⟨p + 3 * n, 0, ns', 0⟩ := by
  intro g
  induction g with
  | zero => intro i m ns h; obtain rfl : i = n := by omega
            exact ⟨ns, rfl⟩
  | succ g ih =>
    intro i m ns h
    have hin : i < n := by omega
    have hdi : T.drop (p + 3 * i) = pieceT i i ++ ((attrsT n).drop (3 * (i + 1)) ++ t :: rest) := by
      rw [← List.drop_drop, hd, List.drop_append_of_le_length (by rw [attrsT_len]; omega), attrs_drop n i hin, List.append_assoc]
    have hnext : ∃ u r, (attrsT n).drop (3 * (i + 1)) ++ t :: rest = u :: r ∧ QuietT u := by
      by_cases h2 : i + 1 < n
      · rw [attrs_drop n (i + 1) h2]
        exact ⟨_, _, rfl, (op_name (i + 1) (by omega)).1⟩
      · rw [List.drop_eq_nil_of_le (by rw [attrsT_len]; omega)]
        exact ⟨_, _, rfl, hq⟩
    obtain ⟨u, r, hu, hqu⟩ := hnext
    rw [hu] at hdi
    have hs := attr_one (m := m + g) (ns := ns) (l := attrsV i) hN (by omega) hdi hqu (by rw [attrsV_len]; omega) (not_in i i (by omega) (Nat.le_refl _))
    obtain ⟨ns', h'⟩ := ih (i + 1) m [nuN i] (by omega)
    refine ⟨ns', ?_⟩
    rw [← h']
    exact hs
end
theorem head_kind (k : Nat) (h1 : 1 ≤ k) (h2 : k ≤ 4) : ∃ w, (headT k)[0]? = some (nmT w) ∧ kindOf w = (k : Int) ∧ ((k = 2 ∧ headT k = [nmT w, sgT ⟨#[123]⟩]) ∨ (k ≠ 2 ∧ headT k = [nmT w, stT (labK k), sgT ⟨#[123]⟩] ∧ labelB (labK k) = true ∧ (labK k).size ≤ 100)) := by
  match k, h1, h2 with
  | 1, _, _ => exact ⟨_, rfl, by decide +kernel, .inr ⟨by decide, rfl, by decide +kernel, by decide +kernel⟩⟩
  | 2, _, _ => exact ⟨_, rfl, by decide +kernel, .inl ⟨rfl, rfl⟩⟩
  | 3, _, _ => exact ⟨_, rfl, by decide +kernel, .inr ⟨by decide, rfl, by decide +kernel, by decide +kernel⟩⟩
  | 4, _, _ => exact ⟨_, rfl, by decide +kernel, .inr ⟨by decide, rfl, by decide +kernel, by decide +kernel⟩⟩
section
variable {T : List TokL}
theorem label_yes {p : Nat} {x : ByteArray} {ns : List NodeL} (h : T[p]? = some (stT x)) (hb : labelB x = true) (hs : x.size ≤ 100) (hl : p + 1 < T.length) : labelE T ⟨p, 0, ns, 0⟩ = some (x, ⟨p + 1, 0, ns, 0⟩) := by
  unfold labelE
  simp only [h, Option.bind_some]
  rw [if_pos (show (stT x).kind = 2 from rfl)]
  show (if x.size ≤ 100000 then (if labelB x then (stepS T ⟨p, 0, ns, 0⟩).bind fun S1 => some (x, S1) else some (⟨#[]⟩, failS T 5 ⟨p, 0, ns, 0⟩)) else none) = _
  rw [if_pos (by omega), if_pos hb]
  unfold stepS
  rw [if_pos hl]
  rfl
/-- What stands ahead of a body. -/
theorem block_head {N M k p : Nat} {ns : List NodeL} {rest : List TokL} {inDef : Bool} {inner : PS → Option (List BlockL × PS)} (h1 : 1 ≤ k) (h2 : k ≤ 4) (hd : T.drop p = headT k ++ rest) (hr : 0 < rest.length) :
    blockE N M T inDef inner ⟨p, 0, ns, 0⟩ = (attrE N T M [] ⟨p + (headT k).length, 0, ns, 0⟩).bind fun (al, S4) => (needS T ⟨#[125]⟩ S4).bind fun S5 => some (.mk (k : Int) (if k = 2 then ⟨#[]⟩ else labK k) al [], S5) := by
  obtain ⟨w, -, hk, hh⟩ := head_kind k h1 h2
  have hlen := (seg_lt hd (by rw [List.length_append]; omega)).2
  rw [List.length_append] at hlen
  unfold blockE
  rcases hh with ⟨e2, hh⟩ | ⟨e2, hh, hb, hs⟩
  · rw [hh] at hd hlen ⊢
    simp only [List.length_cons, List.length_nil] at hlen
    have g0 : T[p]? = some (nmT w) := seg_get hd 0
    have g1 : T[p + 1]? = some (sgT ⟨#[123]⟩) := seg_get hd 1
    simp only [g0, Option.bind_some]
    have hk' : kindOf (nmT w).text = (k : Int) := hk
    rw [hk', if_neg (by omega)]
    have st : stepS T ⟨p, 0, ns, 0⟩ = some ⟨p + 1, 0, ns, 0⟩ := by unfold stepS; rw [if_pos (by show p + 1 < _; omega)]
    rw [st]
    simp only [Option.bind_some]
    rw [if_pos (by omega)]
    simp only [Option.bind_some]
    rw [need_yes (sg := ⟨#[123]⟩) g1 rfl (by omega)]
    simp only [Option.bind_some]
    rw [if_neg (by omega), if_pos e2]
    rfl
  · rw [hh] at hd hlen ⊢
    simp only [List.length_cons, List.length_nil] at hlen
    have g0 : T[p]? = some (nmT w) := seg_get hd 0
    have g1 : T[p + 1]? = some (stT (labK k)) := seg_get hd 1
    have g2 : T[p + 2]? = some (sgT ⟨#[123]⟩) := seg_get hd 2
    simp only [g0, Option.bind_some]
    have hk' : kindOf (nmT w).text = (k : Int) := hk
    rw [hk', if_neg (by omega)]
    have st : stepS T ⟨p, 0, ns, 0⟩ = some ⟨p + 1, 0, ns, 0⟩ := by unfold stepS; rw [if_pos (by show p + 1 < _; omega)]
    rw [st]
    simp only [Option.bind_some]
    rw [if_neg (by omega), label_yes g1 hb hs (by omega)]
    simp only [Option.bind_some]
    rw [need_yes (sg := ⟨#[123]⟩) (p := p + 1 + 1) g2 rfl (by omega)]
    simp only [Option.bind_some]
    rw [if_neg (by omega), if_neg e2]
    rfl
def blockV (n k : Nat) : BlockL := .mk (k : Int) (if k = 2 then ⟨#[]⟩ else labK k) (attrsV n) []
theorem block_good {N M k p n : Nat} {ns : List NodeL} {rest : List TokL} {inDef : Bool} {inner : PS → Option (List BlockL × PS)} (hN : 11 ≤ N) (hM : 10 ≤ M) (hn : n < 6) (h1 : 1 ≤ k) (h2 : k ≤ 4) (hd : T.drop p = blockT k n false ++ rest) (hr : 0 < rest.length) :
    ∃ ns', blockE N M T inDef inner ⟨p, 0, ns, 0⟩ = some (blockV n k, ⟨p + (blockT k n false).length, 0, ns', 0⟩) := by
  have e : blockT k n false ++ rest = headT k ++ (attrsT n ++ sgT ⟨#[125]⟩ :: rest) := by simp [blockT, extraT]
  rw [e] at hd
  have hd2 := seg_next hd
  obtain ⟨M, rfl⟩ : ∃ m, M = m + 1 + n := ⟨M - 1 - n, by omega⟩
  obtain ⟨ns', ha⟩ := attrs_go hN hn op_rb _ hd2 n 0 (M + 1) ns (by omega)
  refine ⟨ns', ?_⟩
  rw [block_head h1 h2 hd (by simp; omega)]
  have hd3 := seg_next hd2
  rw [attrsT_len] at hd3
  have g : T[p + (headT k).length + 3 * n]? = some (sgT ⟨#[125]⟩) := seg_get hd3 0
  have hl := (seg_lt hd3 (by simp)).2
  simp only [List.length_cons] at hl
  have ha : attrE N T (M + 1 + n) [] ⟨p + (headT k).length, 0, ns, 0⟩ = attrE N T (M + 1) (attrsV n) ⟨p + (headT k).length + 3 * n, 0, ns', 0⟩ := ha
  have hend : attrE N T (M + 1) (attrsV n) ⟨p + (headT k).length + 3 * n, 0, ns', 0⟩ = some (attrsV n, ⟨p + (headT k).length + 3 * n, 0, ns', 0⟩) := by
    rw [attrE]
    simp only [g, Option.bind_some]
    rw [if_neg (show ¬ (sgT ⟨#[125]⟩).kind = 3 by decide)]
  rw [ha, hend]
  simp only [Option.bind_some]
  rw [need_yes (sg := ⟨#[125]⟩) g rfl (by omega)]
  have hlen : (blockT k n false).length = (headT k).length + 3 * n + 1 := by simp [blockT, extraT, attrsT_len]; omega
  simp only [Option.bind_some]
  rw [hlen]
  show some (_, (⟨p + (headT k).length + 3 * n + 1, 0, ns', 0⟩ : PS)) = some (_, (⟨p + ((headT k).length + 3 * n + 1), 0, ns', 0⟩ : PS))
  rw [show p + (headT k).length + 3 * n + 1 = p + ((headT k).length + 3 * n + 1) by omega]
  rfl
theorem block_bad {N M k p n : Nat} {ns : List NodeL} {rest : List TokL} {inDef : Bool} {inner : PS → Option (List BlockL × PS)} (G : ∃ t, T[T.length - 1]? = some t ∧ t.text = ⟨#[]⟩) (hN : 11 ≤ N) (hM : 10 ≤ M) (hn : n < 6) (hn0 : 0 < n) (h1 : 1 ≤ k) (h2 : k ≤ 4) (hd : T.drop p = blockT k n true ++ rest) (hr : 0 < rest.length) :
    ∃ b ns', blockE N M T inDef inner ⟨p, 0, ns, 0⟩ = some (b, ⟨T.length - 1, 3, ns', 0⟩) := by
  have e : blockT k n true ++ rest = headT k ++ (attrsT n ++ nmT (aName 0) :: ([sgT ⟨#[61]⟩, nuT 1, sgT ⟨#[125]⟩] ++ rest)) := by simp [blockT, extraT, pieceT]
  rw [e] at hd
  have hd2 := seg_next hd
  obtain ⟨M, rfl⟩ : ∃ m, M = m + 1 + n := ⟨M - 1 - n, by omega⟩
  obtain ⟨ns', ha⟩ := attrs_go hN hn (op_name 0 (by decide)).1 _ hd2 n 0 (M + 1) ns (by omega)
  rw [block_head h1 h2 hd (by simp; omega)]
  have hd3 := seg_next hd2
  rw [attrsT_len] at hd3
  have g : T[p + (headT k).length + 3 * n]? = some (nmT (aName 0)) := seg_get hd3 0
  have ha : attrE N T (M + 1 + n) [] ⟨p + (headT k).length, 0, ns, 0⟩ = attrE N T (M + 1) (attrsV n) ⟨p + (headT k).length + 3 * n, 0, ns', 0⟩ := ha
  have hz := (op_name 0 (by decide)).2
  have hend : attrE N T (M + 1) (attrsV n) ⟨p + (headT k).length + 3 * n, 0, ns', 0⟩ = some ([], ⟨T.length - 1, 3, ns', 0⟩) := by
    rw [attrE]
    simp only [g, Option.bind_some]
    rw [if_pos (show (nmT (aName 0)).kind = 3 from rfl), if_pos ⟨by show (aName 0).size ≤ _; omega, by rw [attrsV_len]; omega⟩]
    have hi : inNames (nmT (aName 0)).text ((attrsV n).map (·.name)) = true := yes_in n hn0
    rw [if_pos hi]
    rfl
  rw [ha, hend]
  simp only [Option.bind_some]
  obtain ⟨t, ht, hx⟩ := G
  have hneed : needS T ⟨#[125]⟩ ⟨T.length - 1, 3, ns', 0⟩ = some ⟨T.length - 1, 3, ns', 0⟩ := by
    unfold needS takeS
    simp only [ht]
    rw [if_neg (by rw [hx]; decide)]
    rfl
  rw [hneed]
  exact ⟨_, _, rfl⟩
theorem blocks_good {N M n : Nat} {inDef : Bool} {inner : PS → Option (List BlockL × PS)} (hN : 11 ≤ N) (hM : 10 ≤ M) (hn : n < 6) : ∀ ks, (∀ k ∈ ks, 1 ≤ k ∧ k ≤ 4) → ∀ m l p ns rest, l.length + ks.length ≤ 1000 → T.drop p = blocksT n false ks ++ rest → 0 < rest.length →
    ∃ ns', blocksE (blockE N M T inDef inner) T (m + ks.length) l ⟨p, 0, ns, 0⟩ = blocksE (blockE N M T inDef inner) T m (l ++ ks.map (blockV n)) ⟨p + (blocksT n false ks).length, 0, ns', 0⟩ := by
  intro ks
  induction ks with
  | nil => intro _ m l p ns rest _ _ _; exact ⟨ns, by simp [blocksT]⟩
  | cons k ks ih =>
    intro hk m l p ns rest hl hd hr
    have ec : blocksT n false (k :: ks) = blockT k n false ++ blocksT n false ks := by
      cases ks with
      | nil => simp [blocksT]
      | cons a b => rfl
    rw [ec, List.append_assoc] at hd
    obtain ⟨k1, k2⟩ := hk k (by simp)
    obtain ⟨ns1, hb⟩ := block_good (ns := ns) (inDef := inDef) (inner := inner) hN hM hn k1 k2 hd (by simp; omega)
    have hd2 := seg_next hd
    simp only [List.length_cons] at hl
    obtain ⟨ns2, h2⟩ := ih (fun x hx => hk x (by simp [hx])) m (l ++ [blockV n k]) _ ns1 rest (by simp; omega) hd2 hr
    refine ⟨ns2, ?_⟩
    obtain ⟨w, hw, -⟩ := head_kind k k1 k2
    have g0 : T[p]? = some (nmT w) := by
      have h0 := seg_get hd 0
      have e0 : (blockT k n false ++ (blocksT n false ks ++ rest))[0]? = (headT k)[0]? := by
        match k, k1, k2 with
        | 1, _, _ => rfl
        | 2, _, _ => rfl
        | 3, _, _ => rfl
        | 4, _, _ => rfl
      rw [Nat.add_zero] at h0
      rw [h0, e0, hw]
    show blocksE _ T (m + ks.length + 1) l _ = _
    rw [blocksE]
    simp only [g0, Option.bind_some]
    rw [if_pos (show (nmT w).kind = 3 from rfl), hb]
    simp only [Option.bind_some]
    rw [if_pos (by omega), h2, ec, List.length_append]
    simp only [List.map_cons, List.append_assoc, List.singleton_append, Nat.add_assoc]
end
end Go.Proofs.YtkbbhgipajhbnaaDoor

/- The law of blocks: what Parse tells of its text. -/
namespace Go.Proofs.YtkbbhgipajhbnaaDoor
open Go.RowKit
set_option linter.unusedVariables false
set_option linter.unusedSimpArgs false
def defV (bs : List BlockL) : BlockL := .mk 5 ⟨#[100]⟩ [] bs
theorem blocksT_len (n : Nat) (x : Bool) (hn : n < 6) : ∀ ks, (blocksT n x ks).length ≤ 30 * ks.length := by
  have hb : ∀ k x, (blockT k n x).length ≤ 30 := fun k x => by
    have h1 : (headT k).length ≤ 3 := by
      match k with
      | 0 => decide
      | 1 => decide
      | 2 => decide
      | 3 => decide
      | n + 4 => show 3 ≤ 3; decide
    have h2 : (extraT x).length ≤ 3 := by cases x <;> simp [extraT, pieceT]
    unfold blockT
    simp only [List.length_append, attrsT_len, List.length_cons, List.length_nil]
    omega
  intro ks
  induction ks with
  | nil => exact Nat.le_refl _
  | cons k l ih =>
    cases l with
    | nil => exact hb k x
    | cons a b =>
      show (blockT k n false ++ blocksT n x (a :: b)).length ≤ _
      rw [List.length_append]
      have := hb k false
      simp only [List.length_cons] at ih ⊢
      omega
theorem blocks_snoc (n : Nat) (k : Nat) : ∀ ks, blocksT n true (ks ++ [k]) = blocksT n false ks ++ blockT k n true := by
  intro ks
  induction ks with
  | nil => rfl
  | cons a l ih =>
    cases l with
    | nil => rfl
    | cons b l =>
      show blockT a n false ++ blocksT n true ((b :: l) ++ [k]) = _
      rw [ih]
      simp [blocksT]
theorem all_good {N M n : Nat} (hN : 11 ≤ N) (hM : 100 ≤ M) (hn : n < 6) (ks : List Nat) (hk : ∀ k ∈ ks, 1 ≤ k ∧ k ≤ 4) (hl : ks.length ≤ 20) :
    parseT N M (allT n false ks ++ [laT]) = some (0, ks.map (blockV n) ++ [defV (ks.map (blockV n))]) := by
  have hbl := blocksT_len n false hn ks
  generalize hT : allT n false ks ++ [laT] = T
  have hd0 : T.drop 0 = blocksT n false ks ++ ([nmT ⟨#[100, 101, 102, 105, 110, 101]⟩, stT ⟨#[100]⟩, sgT ⟨#[123]⟩] ++ (blocksT n false ks ++ ([sgT ⟨#[125]⟩] ++ [laT]))) := by rw [← hT]; simp [allT]
  have hd1 := seg_next hd0
  rw [Nat.zero_add] at hd1
  have hd2 := seg_next hd1
  have hd3 := seg_next hd2
  have hd4 := seg_next hd3
  generalize hP : (blocksT n false ks).length = P at *
  have hlen : T.length = P + 3 + P + 2 := by rw [← hT]; simp [allT, hP]; omega
  have g0 : T[P]? = some (nmT ⟨#[100, 101, 102, 105, 110, 101]⟩) := seg_get hd1 0
  have g1 : T[P + 1]? = some (stT ⟨#[100]⟩) := seg_get hd1 1
  have g2 : T[P + 1 + 1]? = some (sgT ⟨#[123]⟩) := seg_get hd1 2
  have g3 : T[P + 3 + P]? = some (sgT ⟨#[125]⟩) := seg_get hd3 0
  have g4 : T[P + 3 + P + 1]? = some laT := seg_get hd4 0
  have kd : kindOf ⟨#[100, 101, 102, 105, 110, 101]⟩ = 5 := by decide +kernel
  have lb : labelB ⟨#[100]⟩ = true := by decide +kernel
  have inner : ∀ ns, ∃ ns', blocks1 N M T ⟨P + 3, 0, ns, 0⟩ = some (ks.map (blockV n), ⟨P + 3 + P, 0, ns', 0⟩) := fun ns => by
    obtain ⟨m, hm⟩ : ∃ m, M = m + 1 + ks.length := ⟨M - 1 - ks.length, by omega⟩
    obtain ⟨ns', h⟩ := blocks_good (T := T) (N := N) (M := M) (inDef := true) (inner := fun _ => none) hN (by omega) hn ks hk (m + 1) [] (P + 3) ns _ (by simp; omega) hd2 (by simp)
    refine ⟨ns', ?_⟩
    unfold blocks1
    rw [hP] at h
    have e : blocksE (blockE N M T true fun _ => none) T M [] ⟨P + 3, 0, ns, 0⟩ = blocksE (blockE N M T true fun _ => none) T (m + 1 + ks.length) [] ⟨P + 3, 0, ns, 0⟩ := by rw [← hm]
    rw [e, h, List.nil_append, blocksE]
    simp only [g3, Option.bind_some]
    rw [if_neg (show ¬ (sgT ⟨#[125]⟩).kind = 3 by decide)]
  have hdef : ∀ ns, ∃ ns', blockE N M T false (blocks1 N M T) ⟨P, 0, ns, 0⟩ = some (defV (ks.map (blockV n)), ⟨P + 3 + P + 1, 0, ns', 0⟩) := fun ns => by
    obtain ⟨ns', hi⟩ := inner ns
    refine ⟨ns', ?_⟩
    unfold blockE
    simp only [g0, Option.bind_some]
    have ek : kindOf (nmT ⟨#[100, 101, 102, 105, 110, 101]⟩).text = 5 := kd
    rw [ek, if_neg (by simp)]
    have st : stepS T ⟨P, 0, ns, 0⟩ = some ⟨P + 1, 0, ns, 0⟩ := by unfold stepS; rw [if_pos (by show P + 1 < _; omega)]
    rw [st]
    simp only [Option.bind_some]
    rw [if_neg (by decide), label_yes g1 lb (by decide) (by omega)]
    simp only [Option.bind_some]
    rw [need_yes (sg := ⟨#[123]⟩) (p := P + 1 + 1) g2 rfl (by omega)]
    simp only [Option.bind_some]
    rw [if_pos trivial]
    have hi : blocks1 N M T ⟨P + 1 + 1 + 1, 0, ns, 0⟩ = some (ks.map (blockV n), ⟨P + 3 + P, 0, ns', 0⟩) := hi
    rw [hi]
    simp only [Option.bind_some]
    rw [need_yes (sg := ⟨#[125]⟩) g3 rfl (by omega)]
    rfl
  obtain ⟨m, hm⟩ : ∃ m, M = m + 2 + ks.length := ⟨M - 2 - ks.length, by omega⟩
  obtain ⟨ns1, h1⟩ := blocks_good (T := T) (N := N) (M := M) (inDef := false) (inner := blocks1 N M T) hN (by omega) hn ks hk (m + 2) [] 0 [] _ (by simp; omega) hd0 (by simp)
  obtain ⟨ns2, h2⟩ := hdef ns1
  rw [hP, Nat.zero_add, List.nil_append] at h1
  have h0 : blocks0 N M T ⟨0, 0, [], 0⟩ = some (ks.map (blockV n) ++ [defV (ks.map (blockV n))], ⟨P + 3 + P + 1, 0, ns2, 0⟩) := by
    unfold blocks0
    have e : blocksE (blockE N M T false (blocks1 N M T)) T M [] ⟨0, 0, [], 0⟩ = blocksE (blockE N M T false (blocks1 N M T)) T (m + 2 + ks.length) [] ⟨0, 0, [], 0⟩ := by rw [← hm]
    rw [e, h1, blocksE]
    simp only [g0, Option.bind_some]
    rw [if_pos (show (nmT ⟨#[100, 101, 102, 105, 110, 101]⟩).kind = 3 from rfl), h2]
    simp only [Option.bind_some]
    rw [if_pos (by simp; omega), blocksE]
    simp only [g4, Option.bind_some]
    rw [if_neg (show ¬ laT.kind = 3 by decide)]
  unfold parseT
  rw [if_pos (by rw [hlen]; omega), h0]
  simp only [Option.bind_some]
  unfold endS
  simp only [g4]
  rfl
theorem all_bad {N M n : Nat} (hN : 11 ≤ N) (hM : 100 ≤ M) (hn : n < 6) (hn0 : 0 < n) (ks : List Nat) (k : Nat) (hk : ∀ j ∈ ks ++ [k], 1 ≤ j ∧ j ≤ 4) (hl : (ks ++ [k]).length ≤ 20) :
    parseT N M (allT n true (ks ++ [k]) ++ [laT]) = some (3, []) := by
  have hbl := blocksT_len n true hn (ks ++ [k])
  have hlk : ks.length ≤ 19 := by simp at hl; omega
  generalize hT : allT n true (ks ++ [k]) ++ [laT] = T
  have hd0 : T.drop 0 = blocksT n false ks ++ (blockT k n true ++ (([nmT ⟨#[100, 101, 102, 105, 110, 101]⟩, stT ⟨#[100]⟩, sgT ⟨#[123]⟩] ++ (blocksT n true (ks ++ [k]) ++ [sgT ⟨#[125]⟩])) ++ [laT])) := by
    rw [← hT]
    unfold allT
    rw [blocks_snoc]
    simp
  have hd1 := seg_next hd0
  have hlast : T[T.length - 1]? = some laT := by
    rw [← hT]
    rw [List.getElem?_append_right (by simp)]
    simp
  have hpos : 0 < T.length ∧ T.length ≤ 100000 := by
    rw [← hT]
    simp [allT]
    omega
  obtain ⟨m, hm⟩ : ∃ m, M = m + 2 + ks.length := ⟨M - 2 - ks.length, by omega⟩
  obtain ⟨ns1, h1⟩ := blocks_good (T := T) (N := N) (M := M) (inDef := false) (inner := blocks1 N M T) hN (by omega) hn ks (fun j hj => hk j (by simp [hj])) (m + 2) [] 0 [] _ (by simp; omega) hd0 (by simp <;> omega)
  obtain ⟨k1, k2⟩ := hk k (by simp)
  obtain ⟨b, ns2, h2⟩ := block_bad (N := N) (M := M) (ns := ns1) (inDef := false) (inner := blocks1 N M T) ⟨laT, hlast, rfl⟩ hN (by omega) hn hn0 k1 k2 hd1 (by simp <;> omega)
  obtain ⟨w, hw, -⟩ := head_kind k k1 k2
  have g0 : T[0 + (blocksT n false ks).length]? = some (nmT w) := by
    have h0 := seg_get hd1 0
    rw [Nat.add_zero] at h0
    rw [h0, ← hw]
    match k, k1, k2 with
    | 1, _, _ => rfl
    | 2, _, _ => rfl
    | 3, _, _ => rfl
    | 4, _, _ => rfl
  have h0 : blocks0 N M T ⟨0, 0, [], 0⟩ = some (ks.map (blockV n) ++ [b], ⟨T.length - 1, 3, ns2, 0⟩) := by
    unfold blocks0
    have e : blocksE (blockE N M T false (blocks1 N M T)) T M [] ⟨0, 0, [], 0⟩ = blocksE (blockE N M T false (blocks1 N M T)) T (m + 2 + ks.length) [] ⟨0, 0, [], 0⟩ := by rw [← hm]
    rw [e, h1, List.nil_append, blocksE]
    simp only [g0, Option.bind_some]
    rw [if_pos (show (nmT w).kind = 3 from rfl), h2]
    simp only [Option.bind_some]
    rw [if_pos (by simp; omega), blocksE]
    simp only [hlast, Option.bind_some]
    rw [if_neg (show ¬ laT.kind = 3 by decide)]
  unfold parseT
  rw [if_pos hpos, h0]
  simp only [Option.bind_some]
  unfold endS
  simp only [hlast]
  rfl
theorem all_text {n : Nat} {x : Bool} (hn : n < 6) (ks : List Nat) {s : ByteArray} (hs : s.size ≤ 6000) (h : s.data.toList = allL n x ks) : parseM evN 9001 s = parseT evN 9001 (allT n x ks ++ [laT]) := by
  obtain ⟨e0, e1⟩ := text_bare hs (by rw [h]; exact lex_all n x hn ks)
  unfold parseM
  rw [if_pos e0]
  exact parseT_alike _ _ e1
end Go.Proofs.YtkbbhgipajhbnaaDoor
