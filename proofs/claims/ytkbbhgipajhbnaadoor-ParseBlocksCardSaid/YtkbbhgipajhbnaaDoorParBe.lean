/- The law of brackets: its texts. -/
import Derived.Test.YtkbbhgipajhbnaaDoorParBd
import Derived.Test.YtkbbhgipajhbnaaDoorParTn
namespace Go.Proofs.YtkbbhgipajhbnaaDoor
open Go.RowKit
set_option linter.unusedVariables false
set_option linter.unusedSimpArgs false
section
variable (T : List TokL)
theorem labelE_bare (S : PS) : labelE (bareT T) S = labelE T S := by
  unfold labelE
  simp only [stepS_bare, failS_bare]
  exact bare_bind T _ _ (fun t => rfl)
theorem attrE_bare (N : Nat) : ∀ m l S, attrE N (bareT T) m l S = attrE N T m l S := by
  intro m
  induction m with
  | zero => intro l S; rfl
  | succ m ih =>
    intro l S
    simp only [attrE, ih, nameS_bare, needS_bare, treeE_bare, failS_bare]
    exact bare_bind T _ _ (fun t => rfl)
theorem blockE_bare (N M : Nat) (inDef : Bool) (inner : PS → Option (List BlockL × PS)) (S : PS) : blockE N M (bareT T) inDef inner S = blockE N M T inDef inner S := by
  unfold blockE
  simp only [stepS_bare, failS_bare, labelE_bare, needS_bare, attrE_bare]
  exact bare_bind T _ _ (fun t => rfl)
theorem blocksE_bare (blk : PS → Option (BlockL × PS)) : ∀ m l S, blocksE blk (bareT T) m l S = blocksE blk T m l S := by
  intro m
  induction m with
  | zero => intro l S; rfl
  | succ m ih =>
    intro l S
    simp only [blocksE, ih]
    exact bare_bind T _ _ (fun t => rfl)
theorem parseT_bare (N M : Nat) : parseT N M (bareT T) = parseT N M T := by
  have h1 : blocks1 N M (bareT T) = blocks1 N M T := by
    funext S
    unfold blocks1
    rw [blocksE_bare]
    congr 1
    funext S
    exact blockE_bare T N M true _ S
  have h0 : blocks0 N M (bareT T) = blocks0 N M T := by
    funext S
    unfold blocks0
    rw [blocksE_bare, h1]
    congr 1
    funext S
    exact blockE_bare T N M false _ S
  unfold parseT
  rw [bare_len, h0]
  simp only [endS_bare]
end
theorem parseT_alike (N M : Nat) {T U : List TokL} (h : bareT T = bareT U) : parseT N M T = parseT N M U := by rw [← parseT_bare, h, parseT_bare]
theorem bare_bare (T : List TokL) : bareT (bareL T) = bareL T := by
  unfold bareT bareL
  rw [List.map_map]
  rfl
/-- A text's tokens by their bare ones. -/
theorem text_bare {c : ByteArray} {U : List TokL} (hc : c.size ≤ 6000) (h : lexB c.data.toList = some U) : lexE c = 0 ∧ bareT (lexT c) = bareT (U ++ [laT]) := by
  unfold lexB at h
  cases hq : lexAll c.data.toList with
  | none => rw [hq] at h; cases h
  | some ts =>
    rw [hq] at h
    obtain rfl : bareL ts = U := Option.some.inj h
    refine ⟨by rw [lexE_all hc, hq], ?_⟩
    rw [lexT_all hc, hq]
    show bareT (ts ++ [_]) = bareT (bareL ts ++ [laT])
    have e : ∀ A B, bareT (A ++ B) = bareT A ++ bareT B := fun A B => by unfold bareT; exact List.map_append
    rw [e, e, bare_bare]
    rfl
theorem tokL_kind {l : List UInt8} {t : TokL} {c : Nat} (h : tokL l = some (t, c)) : t.kind ≠ 0 := by
  unfold tokL at h
  split at h
  · split at h
    · cases h; show (3 : Int) ≠ 0; decide
    · cases h
  · split at h
    · split at h
      · cases h; show (1 : Int) ≠ 0; decide
      · cases h
    · split at h
      · cases hp : partsL (l.length + 1) (l.drop 1) 1 [] [] with
        | none => rw [hp] at h; cases h
        | some q => rw [hp] at h; cases h; show (2 : Int) ≠ 0; decide
      · split at h
        · cases h; show (4 : Int) ≠ 0; decide
        · cases h
theorem lexL_kind : ∀ n l k ts, lexL n l k = some ts → ∀ t ∈ ts, t.kind ≠ 0 := by
  intro n
  induction n with
  | zero => intro l k ts h t ht; cases h; cases ht
  | succ n ih =>
    intro l k ts h t ht
    rw [lexL] at h
    split at h
    · cases h; cases ht
    · simp only [Option.bind_eq_some_iff, Option.map_eq_some_iff, Prod.exists] at h
      obtain ⟨t0, c, h1, ts2, h2, rfl⟩ := h
      rcases List.mem_cons.1 ht with rfl | ht
      · exact tokL_kind (t := t0) h1
      · exact ih _ _ _ h2 t ht
/-- What is known of a text that is an expression. -/
theorem text_toks {s : ByteArray} (hs : s.size ≤ 6000) {l : List NodeL} (h : exprM evN s = some (0, l)) : ∃ T0, lexB s.data.toList = some T0 ∧ Toks T0 ∧ T0.length ≤ s.size ∧ exprT evN (T0 ++ [laT]) = some (0, l) := by
  unfold exprM at h
  by_cases he : lexE s = 0
  · rw [if_pos he] at h
    have he' := he
    rw [lexE_all hs] at he
    cases hq : lexAll s.data.toList with
    | none => rw [hq] at he; cases he
    | some ts =>
      have hz : s.data.toList.length = s.size := rfl
      have hb : lexB s.data.toList = some (bareL ts) := by unfold lexB; rw [hq]; rfl
      obtain ⟨-, hbt⟩ := text_bare hs hb
      have hlen : ts.length ≤ s.size := by
        have hll : ∀ n l k ts, lexL n l k = some ts → ts.length ≤ l.length := by
          intro n
          induction n with
          | zero => intro l k ts h; cases h; exact Nat.zero_le _
          | succ n ih =>
            intro l k ts h
            rw [lexL] at h
            split at h
            · cases h; exact Nat.zero_le _
            · simp only [Option.bind_eq_some_iff, Option.map_eq_some_iff, Prod.exists] at h
              obtain ⟨t0, c, h1, ts2, h2, rfl⟩ := h
              have := ih _ _ _ h2
              rw [List.length_drop, List.length_drop] at this
              obtain ⟨c0, c1⟩ := tok_pos h1
              simp only [List.length_cons]
              omega
        have := hll _ _ _ _ hq
        rw [List.length_drop] at this
        omega
      refine ⟨bareL ts, hb, ⟨fun t ht => ?_, fun t ht => ?_, by unfold bareL; simp; omega⟩, by unfold bareL; simpa using hlen, by rw [← h]; exact exprT_alike _ hbt.symm⟩
      · obtain ⟨u, hu, rfl⟩ := List.mem_map.1 ht
        have h3 := lexL_size (K := 10000) _ _ _ _ hq (by rw [List.length_drop]; omega) u hu
        exact ⟨h3.1, h3.2, (lexT_few s).2 u (by rw [lexT_all hs, hq]; exact List.mem_append_left _ hu)⟩
      · obtain ⟨u, hu, rfl⟩ := List.mem_map.1 ht
        exact lexL_kind _ _ _ _ hq u hu
  · rw [if_neg he] at h
    simp only [Option.some.injEq, Prod.mk.injEq] at h
    exact absurd h.1 he
theorem text_nodes {s : ByteArray} (hs : s.size ≤ 6000) {l : List NodeL} (h : exprM evN s = some (0, l)) : l.length ≤ 100000 ∧ ∀ n ∈ l, n.parts.length ≤ 9000 ∧ n.kids.length ≤ 200000 := by
  obtain ⟨T0, -, H, -, h2⟩ := text_toks hs h
  obtain ⟨v, hv⟩ := expr_alone H h2
  have G := good_of H.ok (by have := H.few; omega)
  have a := ev_post G _ _ _ _ _ (start_ok G) hv
  have b := ev_nodes G.plen _ _ _ _ _ hv (fun m hm => by cases hm) (by trivial)
  have hn := a.n
  have few := H.few
  refine ⟨?_, b.1⟩
  have hn : (l.length : Int) - T0.length ≤ ((0 : Nat) : Int) - ((0 : Nat) : Int) + 0 := hn
  omega
def repG (a : ByteArray) : Nat → ByteArray
  | 0 => ⟨#[]⟩
  | k + 1 => repG a k ++ a
def lpL : Nat → List UInt8
  | 0 => []
  | k + 1 => 40 :: lpL k
def rpL : Nat → List UInt8
  | 0 => []
  | k + 1 => 10 :: 41 :: rpL k
theorem lp_comm : ∀ k, lpL k ++ [40] = 40 :: lpL k := by
  intro k
  induction k with
  | zero => rfl
  | succ k ih => show 40 :: (lpL k ++ [40]) = _; rw [ih]; rfl
theorem rp_comm : ∀ k, rpL k ++ [10, 41] = 10 :: 41 :: rpL k := by
  intro k
  induction k with
  | zero => rfl
  | succ k ih => show 10 :: 41 :: (rpL k ++ [10, 41]) = _; rw [ih]; rfl
theorem lp_list : ∀ k, (repG ⟨#[40]⟩ k).data.toList = lpL k := by
  intro k
  induction k with
  | zero => rfl
  | succ k ih => rw [repG, lpL, ← lp_comm, ← ih]; simp
theorem rp_list : ∀ k, (repG ⟨#[10, 41]⟩ k).data.toList = rpL k := by
  intro k
  induction k with
  | zero => rfl
  | succ k ih => rw [repG, rpL, ← rp_comm, ← ih]; simp
theorem rep_size (a : ByteArray) (ha : a.size ≤ 2) : ∀ k, (repG a k).size ≤ 2 * k := by
  intro k
  induction k with
  | zero => exact Nat.le_refl _
  | succ k ih => rw [repG, ByteArray.size_append]; omega
theorem lexB_lps (y : List UInt8) {t : List TokL} (h : lexB y = some t) : ∀ k, lexB (lpL k ++ y) = some (List.replicate k (sgT ⟨#[40]⟩) ++ t) := by
  intro k
  induction k with
  | zero => exact h
  | succ k ih => show lexB (40 :: (lpL k ++ y)) = _; rw [lexB_lp, ih]; rfl
theorem lexB_rps : ∀ k, lexB (rpL k) = some (List.replicate k (sgT ⟨#[41]⟩)) := by
  intro k
  induction k with
  | zero => rfl
  | succ k ih => show lexB (10 :: 41 :: rpL k) = _; rw [lexB_blank 10 _ (.inr rfl), lexB_rp, ih]; rfl
theorem br_text {s : ByteArray} (hs : s.size ≤ 200) {l : List NodeL} (h : exprM evN s = some (0, l)) (k : Nat) (hk : k ≤ 5) :
    exprM (evN + 10 * k) (repG ⟨#[40]⟩ k ++ s ++ repG ⟨#[10, 41]⟩ k) = some (0, l) ∨ exprM (evN + 10 * k) (repG ⟨#[40]⟩ k ++ s ++ repG ⟨#[10, 41]⟩ k) = some (6, []) := by
  obtain ⟨T0, h1, H, hl, h2⟩ := text_toks (by omega) h
  have s1 := rep_size ⟨#[40]⟩ (by decide) k
  have s2 := rep_size ⟨#[10, 41]⟩ (by decide) k
  have hB : lexB (repG ⟨#[40]⟩ k ++ s ++ repG ⟨#[10, 41]⟩ k).data.toList = some (List.replicate k (sgT ⟨#[40]⟩) ++ T0 ++ List.replicate k (sgT ⟨#[41]⟩)) := by
    have e : (repG ⟨#[40]⟩ k ++ s ++ repG ⟨#[10, 41]⟩ k).data.toList = lpL k ++ (s.data.toList ++ rpL k) := by
      rw [← lp_list, ← rp_list]; simp
    rw [e, List.append_assoc]
    refine lexB_lps _ ?_ k
    cases k with
    | zero => rw [show rpL 0 = [] from rfl, List.append_nil, h1]; simp
    | succ k =>
      show lexB (s.data.toList ++ 10 :: (41 :: rpL k)) = _
      rw [lexB_app _ _ _ _ (Nat.le_refl _) h1, lexB_rp, lexB_rps]
      rfl
  obtain ⟨e0, e1⟩ := text_bare (by rw [ByteArray.size_append, ByteArray.size_append]; omega) hB
  unfold exprM
  rw [if_pos e0]
  have e2 : exprT (evN + 10 * k) (lexT (repG ⟨#[40]⟩ k ++ s ++ repG ⟨#[10, 41]⟩ k)) = exprT (evN + 10 * k) (brT T0 k) := exprT_alike _ e1
  rw [e2]
  exact br_expr H k hk (by unfold evN; omega) h2
def preB : ByteArray := ⟨#[108, 111, 99, 97, 108, 115, 32, 123, 32, 97, 32, 61, 32]⟩
theorem at_text {s : ByteArray} (hs : s.size ≤ 200) {l : List NodeL} (h : exprM evN s = some (0, l)) : parseM evN 9001 (preB ++ s ++ ⟨#[10, 125]⟩) = some (0, [.mk 2 ⟨#[]⟩ [⟨⟨#[97]⟩, l⟩] []]) := by
  obtain ⟨T0, h1, H, hl, h2⟩ := text_toks (by omega) h
  have z1 : preB.size = 13 := rfl
  have z2 : (⟨#[10, 125]⟩ : ByteArray).size = 2 := rfl
  have hB : lexB (preB ++ s ++ ⟨#[10, 125]⟩).data.toList = some ([nmT ⟨#[108, 111, 99, 97, 108, 115]⟩, sgT ⟨#[123]⟩, nmT ⟨#[97]⟩, sgT ⟨#[61]⟩] ++ T0 ++ [sgT ⟨#[125]⟩]) := by
    have e : (preB ++ s ++ ⟨#[10, 125]⟩).data.toList = [108, 111, 99, 97, 108, 115] ++ (32 :: ([123] ++ (32 :: ([97] ++ (32 :: ([61] ++ (32 :: (s.data.toList ++ 10 :: [125])))))))) := by simp [preB]
    have k1 : tokL [108, 111, 99, 97, 108, 115] = some (⟨3, ⟨#[108, 111, 99, 97, 108, 115]⟩, 0, [], 0⟩, ([108, 111, 99, 97, 108, 115] : List UInt8).length) := by kernel_rfl
    have k2 : tokL [123] = some (⟨4, ⟨#[123]⟩, 0, [], 0⟩, ([123] : List UInt8).length) := by kernel_rfl
    have k3 : tokL [97] = some (⟨3, ⟨#[97]⟩, 0, [], 0⟩, ([97] : List UInt8).length) := by kernel_rfl
    have k4 : tokL [61] = some (⟨4, ⟨#[61]⟩, 0, [], 0⟩, ([61] : List UInt8).length) := by kernel_rfl
    rw [e, lexB_tok k1 (.inr (.inr (.inl rfl))), lexB_blank 32 _ (.inl rfl), lexB_tok k2 (.inr (.inr (.inl rfl))), lexB_blank 32 _ (.inl rfl), lexB_tok k3 (.inr (.inr (.inl rfl))), lexB_blank 32 _ (.inl rfl), lexB_tok k4 (.inr (.inr (.inl rfl))), lexB_blank 32 _ (.inl rfl), lexB_app _ _ _ _ (Nat.le_refl _) h1, lexB_rb, lexB_nil]
    rfl
  obtain ⟨e0, e1⟩ := text_bare (by rw [ByteArray.size_append, ByteArray.size_append]; omega) hB
  unfold parseM
  rw [if_pos e0]
  have e2 : parseT evN 9001 (lexT (preB ++ s ++ ⟨#[10, 125]⟩)) = parseT evN 9001 (atT T0) := parseT_alike _ _ e1
  rw [e2]
  exact at_parse H (by unfold evN; omega) (by decide) h2
end Go.Proofs.YtkbbhgipajhbnaaDoor
