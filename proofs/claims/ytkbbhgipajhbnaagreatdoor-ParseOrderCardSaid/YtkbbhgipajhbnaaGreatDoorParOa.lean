/- The law of order: what the reader tells of numbers with operators between. -/
import Derived.Test.YtkbbhgipajhbnaaGreatDoorParEv
namespace Go.Proofs.YtkbbhgipajhbnaaGreatDoor
open Go.RowKit
set_option linter.unusedVariables false
set_option linter.unusedSimpArgs false
/-- Signs, kinds, ranks of the seven operators. -/
def oSign : Nat → ByteArray
  | 0 => ⟨#[124, 124]⟩ | 1 => ⟨#[38, 38]⟩ | 2 => ⟨#[43]⟩ | 3 => ⟨#[45]⟩ | 4 => ⟨#[42]⟩ | 5 => ⟨#[47]⟩ | _ => ⟨#[37]⟩
def oKind : Nat → Int
  | 0 => 11 | 1 => 12 | 2 => 19 | 3 => 20 | 4 => 21 | 5 => 22 | _ => 23
def oRank : Nat → Nat
  | 0 => 1 | 1 => 2 | 2 => 4 | 3 => 4 | 4 => 5 | 5 => 5 | _ => 5
def opTok (o : Nat) : TokL := ⟨4, oSign o, 0, [], 0⟩
def numTok (j : Nat) : TokL := ⟨1, ⟨#[]⟩, j, [], 0⟩
def lastTok : TokL := ⟨0, ⟨#[]⟩, 0, [], 0⟩
theorem o_kind (o : Nat) (h : o < 7) : opKind (oSign o) = (oKind o, (oRank o : Int)) := by
  match o, h with
  | 0, _ => decide +kernel
  | 1, _ => decide +kernel
  | 2, _ => decide +kernel
  | 3, _ => decide +kernel
  | 4, _ => decide +kernel
  | 5, _ => decide +kernel
  | 6, _ => decide +kernel
theorem o_end : opKind ⟨#[]⟩ = (0, 0) := by kernel_rfl
theorem o_pos (o : Nat) : 11 ≤ oKind o ∧ oKind o ≤ 23 ∧ 1 ≤ oRank o ∧ oRank o ≤ 5 ∧ oRank o ≠ 3 := by
  match o with
  | 0 => decide
  | 1 => decide
  | 2 => decide
  | 3 => decide
  | 4 => decide
  | 5 => decide
  | n + 6 => exact ⟨by show (11 : Int) ≤ 23; decide, by show (23 : Int) ≤ 23; decide, by show 1 ≤ 5; decide, by show 5 ≤ 5; decide, by show 5 ≠ 3; decide⟩
theorem o_sign (o : Nat) : oSign o ≠ ⟨#[91]⟩ ∧ oSign o ≠ ⟨#[63]⟩ := by
  match o with
  | 0 => decide
  | 1 => decide
  | 2 => decide
  | 3 => decide
  | 4 => decide
  | 5 => decide
  | n + 6 => exact ⟨by show (⟨#[37]⟩ : ByteArray) ≠ ⟨#[91]⟩; decide, by show (⟨#[37]⟩ : ByteArray) ≠ ⟨#[63]⟩; decide⟩
/-- The tokens: 0 op 1 op 2 .. -/
def restT : List Nat → Nat → List TokL
  | [], _ => [lastTok]
  | o :: os, j => opTok o :: numTok j :: restT os (j + 1)
def ordT (ops : List Nat) : List TokL := numTok 0 :: restT ops 1
theorem rest_len : ∀ (ops : List Nat) (j : Nat), (restT ops j).length = 2 * ops.length + 1 := by
  intro ops
  induction ops with
  | nil => intro j; rfl
  | cons o os ih => intro j; simp only [restT, List.length_cons, ih]; omega
theorem rest_op : ∀ (ops : List Nat) (j i : Nat), i < ops.length → (restT ops j)[2 * i]? = some (opTok (ops.getD i 0)) ∧ (restT ops j)[2 * i + 1]? = some (numTok (j + i)) := by
  intro ops
  induction ops with
  | nil => intro j i h; simp at h
  | cons o os ih =>
    intro j i h
    cases i with
    | zero => exact ⟨rfl, rfl⟩
    | succ i =>
      have h' := ih (j + 1) i (by simpa using h)
      have e1 : 2 * (i + 1) = 2 * i + 2 := by omega
      have e2 : 2 * (i + 1) + 1 = 2 * i + 1 + 2 := by omega
      have e3 : j + (i + 1) = j + 1 + i := by omega
      rw [e2, e1, e3, restT]
      simp only [List.getElem?_cons_succ]
      exact ⟨by simpa using h'.1, h'.2⟩
theorem rest_end : ∀ (ops : List Nat) (j : Nat), (restT ops j)[2 * ops.length]? = some lastTok := by
  intro ops
  induction ops with
  | nil => intro j; rfl
  | cons o os ih =>
    intro j
    have e1 : 2 * (o :: os).length = 2 * os.length + 2 := by simp; omega
    rw [e1, restT]
    simp only [List.getElem?_cons_succ]
    exact ih (j + 1)
section
variable (ops : List Nat)
theorem ord_len : (ordT ops).length = 2 * ops.length + 2 := by simp [ordT, rest_len]
theorem ord_num (i : Nat) (h : i ≤ ops.length) : (ordT ops)[2 * i]? = some (numTok i) := by
  cases i with
  | zero => rfl
  | succ i =>
    have e1 : 2 * (i + 1) = 2 * i + 1 + 1 := by omega
    rw [e1, ordT, List.getElem?_cons_succ, (rest_op ops 1 i (by omega)).2, Nat.add_comm]
theorem ord_op (i : Nat) (h : i < ops.length) : (ordT ops)[2 * i + 1]? = some (opTok (ops.getD i 0)) := by
  rw [ordT, List.getElem?_cons_succ, (rest_op ops 1 i h).1]
theorem ord_end : (ordT ops)[2 * ops.length + 1]? = some lastTok := by
  rw [ordT, List.getElem?_cons_succ, rest_end]
theorem takeS_no {T : List TokL} {sg : ByteArray} {S : PS} {t : TokL} (h : T[S.at_]? = some t) (hn : t.text ≠ sg) : takeS T sg S = some (false, S) := by unfold takeS; rw [h]; simp only [if_neg hn]
theorem openS_no {T : List TokL} {sg : ByteArray} {S : PS} {t : TokL} (h : T[S.at_]? = some t) (hn : t.text ≠ sg) : openS T sg S = some (false, S) := by unfold openS; rw [takeS_no h hn]
/-- What stands behind a number. -/
theorem ord_next (i : Nat) (h : i ≤ ops.length) : ∃ t, (ordT ops)[2 * i + 1]? = some t ∧ t.text ≠ ⟨#[91]⟩ ∧ t.text ≠ ⟨#[63]⟩ := by
  by_cases hi : i < ops.length
  · exact ⟨_, ord_op ops i hi, (o_sign _).1, (o_sign _).2⟩
  · obtain rfl : i = ops.length := by omega
    exact ⟨_, ord_end ops, by decide, by decide⟩
def numNode (i : Nat) : NodeL := ⟨1, i, ⟨#[]⟩, [], []⟩
theorem ev_num (i N : Nat) (S : PS) (hi : i ≤ ops.length) (hS : S.at_ = 2 * i) (hn : S.ns.length ≤ 100000) :
    ev (ordT ops) (N + 4) .un S = some ([(S.ns.length : Int)], ⟨2 * i + 1, S.f, S.ns ++ [numNode i], S.d⟩) := by
  obtain ⟨sa, sf, ns, d⟩ := S
  have hS : sa = 2 * i := hS
  subst hS
  have h1 := ord_num ops i hi
  obtain ⟨t, h2, h3, -⟩ := ord_next ops i hi
  have o1 : ∀ sg : ByteArray, ⟨#[]⟩ ≠ sg → openS (ordT ops) sg ⟨2 * i, sf, ns, d⟩ = some (false, ⟨2 * i, sf, ns, d⟩) := fun sg hsg => openS_no (t := numTok i) h1 hsg
  have st : stepS (ordT ops) ⟨2 * i, sf, ns, d⟩ = some ⟨2 * i + 1, sf, ns, d⟩ := by unfold stepS; rw [if_pos (by rw [ord_len]; show 2 * i + 1 < _; omega)]
  have ha : addE ⟨1, (i : Int), ⟨#[]⟩, [], []⟩ ⟨2 * i + 1, sf, ns, d⟩ = some ([(ns.length : Int)], ⟨2 * i + 1, sf, ns ++ [numNode i], d⟩) := by unfold addE; rw [if_pos hn]; rfl
  have pr : ev (ordT ops) (N + 2) .prim ⟨2 * i, sf, ns, d⟩ = some ([(ns.length : Int)], ⟨2 * i + 1, sf, ns ++ [numNode i], d⟩) := by
    rw [ev, h1]
    simp only [Option.bind_some]
    rw [if_pos (show (numTok i).kind = 1 from rfl), st]
    exact ha
  have pl : ev (ordT ops) (N + 2) (.ploop (ns.length : Int)) ⟨2 * i + 1, sf, ns ++ [numNode i], d⟩ = some ([(ns.length : Int)], ⟨2 * i + 1, sf, ns ++ [numNode i], d⟩) := by
    rw [ev, openS_no (t := t) h2 h3]
    rfl
  have po : ev (ordT ops) (N + 3) .post ⟨2 * i, sf, ns, d⟩ = some ([(ns.length : Int)], ⟨2 * i + 1, sf, ns ++ [numNode i], d⟩) := by
    rw [ev, pr]
    exact pl
  rw [ev, o1 _ (by decide)]
  simp only [Option.bind_some]
  rw [if_neg (by decide), o1 _ (by decide)]
  simp only [Option.bind_some]
  rw [if_neg (by decide)]
  exact po
/-- Of those from i to j the last one that binds least is k. -/
def Least (i j k : Nat) : Prop := i ≤ k ∧ k < j ∧ (∀ q, i ≤ q → q < j → oRank (ops.getD k 0) ≤ oRank (ops.getD q 0)) ∧ ∀ q, k < q → q < j → oRank (ops.getD k 0) < oRank (ops.getD q 0)
def opNode (o : Nat) (l x : Int) : NodeL := ⟨oKind o, 0, ⟨#[]⟩, [], [l, x]⟩
/-- The nodes of the numbers i to j, of which the first is the m-th of all. -/
structure Piece (m i j : Nat) (new : List NodeL) : Prop where
  len : new.length = 2 * (j - i) + 1
  top : i < j → ∃ k pre, Least ops i j k ∧ new = pre ++ [opNode (ops.getD k 0) ((m + 2 * (k - i) : Nat) : Int) ((m + 2 * (j - i) - 1 : Nat) : Int)]
  stack : ∀ rest roots, treeGo (new ++ rest) (m : Int) roots = treeGo rest ((m + (2 * (j - i) + 1) : Nat) : Int) (roots ++ [((m + 2 * (j - i) : Nat) : Int)])
  easy : ∀ x ∈ new, x.kind ≠ 4 ∧ x.parts = [] ∧ x.text = ⟨#[]⟩ ∧ x.kids.length ≤ 2
theorem Piece.one (m i : Nat) : Piece ops m i i [numNode i] where
  len := by simp
  top := fun h => absurd h (Nat.lt_irrefl _)
  stack := fun rest roots => by
    show treeGo (numNode i :: rest) _ _ = _
    have e : nodeP (numNode i) = true := by
      show (kidsP 1 0 && numP (numNode i) && textP (numNode i)) = true
      have h1 : kidsP 1 0 = true := by decide
      have h2 : numP (numNode i) = true := by simp [numP, numNode]
      have h3 : textP (numNode i) = true := by simp [textP, numNode]
      rw [h1, h2, h3]; rfl
    rw [treeGo, if_pos (show (numNode i).kids.length ≤ roots.length from Nat.zero_le _), if_pos (by show List.drop (roots.length - 0) roots = []; simp), if_pos e]
    show treeGo rest _ (List.take (roots.length - 0) roots ++ _) = _
    simp
  easy := fun x hx => by simp at hx; subst hx; exact ⟨by show (1 : Int) ≠ 4; decide, rfl, rfl, by show 0 ≤ 2; decide⟩
theorem Piece.op {m i i' j' r : Nat} {a b : List NodeL} (hi : i ≤ i') (hj : i' < j') (ha : Piece ops m i i' a) (hb : Piece ops (m + a.length) (i' + 1) j' b)
    (hr : oRank (ops.getD i' 0) = r) (h1 : ∀ q, i ≤ q → q < i' → r ≤ oRank (ops.getD q 0)) (h2 : ∀ q, i' < q → q < j' → r < oRank (ops.getD q 0)) :
    Piece ops m i j' (a ++ b ++ [opNode (ops.getD i' 0) ((m + 2 * (i' - i) : Nat) : Int) ((m + 2 * (j' - i) - 1 : Nat) : Int)]) where
  len := by rw [List.length_append, List.length_append, ha.len, hb.len]; simp; omega
  top := fun _ => ⟨i', a ++ b, ⟨hi, hj, fun q q1 q2 => by
      rw [hr]
      rcases Nat.lt_trichotomy q i' with h | h | h
      · exact h1 q q1 h
      · rw [h, hr]; exact Nat.le_refl _
      · exact Nat.le_of_lt (h2 q h q2), fun q q1 q2 => by rw [hr]; exact h2 q q1 q2⟩, rfl⟩
  stack := fun rest roots => by
    have hx : m + a.length + 2 * (j' - (i' + 1)) = m + 2 * (j' - i) - 1 := by rw [ha.len]; omega
    have hy : m + a.length + (2 * (j' - (i' + 1)) + 1) = m + 2 * (j' - i) := by rw [ha.len]; omega
    have hz : m + (2 * (i' - i) + 1) = m + a.length := by rw [ha.len]
    rw [List.append_assoc, List.append_assoc, ha.stack, hz, hb.stack, hx, hy]
    generalize hl : ((m + 2 * (i' - i) : Nat) : Int) = l
    generalize hxx : ((m + 2 * (j' - i) - 1 : Nat) : Int) = x
    have e : nodeP (opNode (ops.getD i' 0) l x) = true := by
      show (kidsP (oKind (ops.getD i' 0)) 2 && numP (opNode (ops.getD i' 0) l x) && textP (opNode (ops.getD i' 0) l x)) = true
      obtain ⟨k1, k2, -⟩ := o_pos (ops.getD i' 0)
      have n : ∀ c : Int, c < 11 → oKind (ops.getD i' 0) ≠ c := fun c hc e => by omega
      have h1 : kidsP (oKind (ops.getD i' 0)) 2 = true := by
        unfold kidsP
        rw [if_neg (n 5 (by decide)), if_neg (n 6 (by decide)), if_neg (by omega), if_neg (n 8 (by decide)), if_neg (n 9 (by decide)), if_neg (n 7 (by decide)), if_pos ⟨k1, k2⟩]
        rfl
      have h2 : numP (opNode (ops.getD i' 0) l x) = true := by
        unfold numP
        rw [if_neg (show ¬ (opNode (ops.getD i' 0) l x).kind = 1 from n 1 (by decide)), if_neg (show ¬ (opNode (ops.getD i' 0) l x).kind = 3 from n 3 (by decide))]
        rfl
      have h3 : textP (opNode (ops.getD i' 0) l x) = true := by
        unfold textP
        rw [if_neg (show ¬ (opNode (ops.getD i' 0) l x).kind = 5 from n 5 (by decide))]
        exact decide_eq_true rfl
      rw [h1, h2, h3]; rfl
    show treeGo (opNode (ops.getD i' 0) l x :: rest) _ _ = _
    have el : (roots ++ [l] ++ [x]).length - (opNode (ops.getD i' 0) l x).kids.length = roots.length := by simp [opNode]
    rw [treeGo, if_pos (by simp [opNode]), el, if_pos (by simp [opNode]), if_pos e]
    have et : (roots ++ [l] ++ [x]).take roots.length = roots := by simp
    rw [et]
    have e9 : ((m + 2 * (j' - i) : Nat) : Int) + 1 = ((m + (2 * (j' - i) + 1) : Nat) : Int) := by omega
    rw [e9]
  easy := fun y hy => by
    simp only [List.mem_append, List.mem_singleton] at hy
    rcases hy with (h | h) | h
    · exact ha.easy y h
    · exact hb.easy y h
    · subst h
      obtain ⟨k1, -⟩ := o_pos (ops.getD i' 0)
      exact ⟨by show oKind (ops.getD i' 0) ≠ 4; omega, rfl, rfl, by simp [opNode]⟩
/-- What has been read from the number i on, of rank r: up to the number j. -/
def Done (r m i : Nat) (S : PS) (res : Option (List Int × PS)) : Prop :=
  ∃ j new, i ≤ j ∧ j ≤ ops.length ∧ res = some ([((m + 2 * (j - i) : Nat) : Int)], ⟨2 * j + 1, S.f, S.ns ++ new, S.d⟩) ∧ Piece ops m i j new ∧ (∀ q, i ≤ q → q < j → r ≤ oRank (ops.getD q 0)) ∧ (j < ops.length → oRank (ops.getD j 0) < r)
variable (h7 : ∀ o ∈ ops, o < 7)
include h7
theorem get7 (i : Nat) : ops.getD i 0 < 7 := by
  rw [List.getD_eq_getElem?_getD]
  cases h : ops[i]? with
  | none => decide
  | some o => exact h7 o (List.mem_of_getElem? h)
variable (hfew : ops.length ≤ 100)
include hfew
theorem loop_ok (r : Nat) (hr1 : 1 ≤ r) (hr5 : r ≤ 5)
    (hb : ∀ i S N, i ≤ ops.length → S.at_ = 2 * i → S.ns.length ≤ 1000 + 2 * i → 10 * (ops.length - i) + 11 - r ≤ N → Done ops (r + 1) S.ns.length i S (ev (ordT ops) N (.bin ((r + 1 : Nat) : Int)) S)) :
    ∀ g i' i S0 a N, ops.length - i' ≤ g → i ≤ i' → i' ≤ ops.length → S0.ns.length ≤ 1000 + 2 * i → Piece ops S0.ns.length i i' a → (∀ q, i ≤ q → q < i' → r ≤ oRank (ops.getD q 0)) → (i' < ops.length → oRank (ops.getD i' 0) < r + 1) → 10 * (ops.length - i') + 3 ≤ N →
      Done ops r S0.ns.length i S0 (ev (ordT ops) N (.loop (r : Int) ((S0.ns.length + 2 * (i' - i) : Nat) : Int)) ⟨2 * i' + 1, S0.f, S0.ns ++ a, S0.d⟩) := by
  intro g
  induction g with
  | zero =>
    intro i' i S0 a N hg hi hi' hns ha hq hs hN
    obtain ⟨N, rfl⟩ : ∃ M, N = M + 1 := ⟨N - 1, by omega⟩
    obtain rfl : i' = ops.length := by omega
    refine ⟨ops.length, a, hi, Nat.le_refl _, ?_, ha, hq, fun h => absurd h (Nat.lt_irrefl _)⟩
    rw [ev, ord_end]
    simp only [Option.bind_some]
    rw [if_pos]
    show opOf ⟨#[]⟩ _ = 0
    unfold opOf
    rw [o_end]
    simp
  | succ g ih =>
    intro i' i S0 a N hg hi hi' hns ha hq hs hN
    obtain ⟨N, rfl⟩ : ∃ M, N = M + 1 := ⟨N - 1, by omega⟩
    by_cases he : i' = ops.length
    · subst he
      refine ⟨ops.length, a, hi, Nat.le_refl _, ?_, ha, hq, fun h => absurd h (Nat.lt_irrefl _)⟩
      rw [ev, ord_end]
      simp only [Option.bind_some]
      rw [if_pos]
      show opOf ⟨#[]⟩ _ = 0
      unfold opOf
      rw [o_end]
      simp
    · have hlt : i' < ops.length := by omega
      have hok := o_kind (ops.getD i' 0) (get7 ops h7 i')
      obtain ⟨k1, k2, k3, k4, k5⟩ := o_pos (ops.getD i' 0)
      have hsr := hs hlt
      by_cases hrk : oRank (ops.getD i' 0) = r
      · have hop : opOf (opTok (ops.getD i' 0)).text (r : Int) = oKind (ops.getD i' 0) := by
          show opOf (oSign _) _ = _
          unfold opOf
          rw [hok, if_pos (by rw [hrk])]
        have hst : stepS (ordT ops) ⟨2 * i' + 1, S0.f, S0.ns ++ a, S0.d⟩ = some ⟨2 * (i' + 1), S0.f, S0.ns ++ a, S0.d⟩ := by
          unfold stepS
          rw [if_pos (by rw [ord_len]; show 2 * i' + 1 + 1 < _; omega)]
          rfl
        have hla : (S0.ns ++ a).length = S0.ns.length + (2 * (i' - i) + 1) := by rw [List.length_append, ha.len]
        obtain ⟨j, b, b1, b2, b3, b4, b5, b6⟩ := hb (i' + 1) ⟨2 * (i' + 1), S0.f, S0.ns ++ a, S0.d⟩ N (by omega) rfl (by show (S0.ns ++ a).length ≤ _; rw [hla]; omega) (by omega)
        have b4 : Piece ops (S0.ns.length + a.length) (i' + 1) j b := by
          have : (S0.ns ++ a).length = S0.ns.length + a.length := List.length_append
          have h := b4
          change Piece ops (S0.ns ++ a).length (i' + 1) j b at h
          rwa [this] at h
        have hP := Piece.op ops hi (show i' < j by omega) ha b4 hrk hq (fun q q1 q2 => b5 q (by omega) q2)
        have hlab : (S0.ns ++ a ++ b).length = S0.ns.length + 2 * (j - i) := by rw [List.length_append, hla, b4.len]; omega
        have hx : ((S0.ns ++ a).length + 2 * (j - (i' + 1)) : Nat) = S0.ns.length + 2 * (j - i) - 1 := by rw [hla]; omega
        obtain ⟨j2, new, c1, c2, c3, c4, c5, c6⟩ := ih j i S0 _ N (by omega) (by omega) b2 hns hP (fun q q1 q2 => by
          rcases Nat.lt_trichotomy q i' with h | h | h
          · exact hq q q1 h
          · rw [h, hrk]; exact Nat.le_refl _
          · have := b5 q (by omega) q2; omega) (fun h => b6 h) (by omega)
        refine ⟨j2, new, c1, c2, ?_, c4, c5, c6⟩
        rw [← c3, ev, ord_op ops i' hlt]
        simp only [Option.bind_some]
        have hn3 : ¬ (r : Int) = 3 := by omega
        have hr1' : (r : Int) + 1 = ((r + 1 : Nat) : Int) := by omega
        rw [hop, if_neg (by omega), hst]
        simp only [Option.bind_some]
        rw [hr1', b3]
        simp only [one, Option.bind_some]
        unfold addE
        rw [if_pos (by show (S0.ns ++ a ++ b).length ≤ _; rw [hlab]; omega)]
        simp only [Option.bind_some]
        rw [if_neg hn3]
        have e1 : ((S0.ns ++ a ++ b).length : Int) = ((S0.ns.length + 2 * (j - i) : Nat) : Int) := by rw [hlab]
        show ev (ordT ops) N (.loop (r : Int) ((S0.ns ++ a ++ b).length : Int)) ⟨2 * j + 1, S0.f, S0.ns ++ a ++ b ++ [⟨oKind (ops.getD i' 0), 0, ⟨#[]⟩, [], [((S0.ns.length + 2 * (i' - i) : Nat) : Int), (((S0.ns ++ a).length + 2 * (j - (i' + 1)) : Nat) : Int)]⟩], S0.d⟩ = _
        rw [e1, hx]
        simp only [List.append_assoc]
        rfl
      · refine ⟨i', a, hi, hi', ?_, ha, hq, fun _ => by omega⟩
        rw [ev, ord_op ops i' hlt]
        simp only [Option.bind_some]
        rw [if_pos]
        show opOf (oSign _) _ = 0
        unfold opOf
        rw [hok, if_neg (by show ¬ ((oRank (ops.getD i' 0) : Nat) : Int) = (r : Int); omega)]
theorem bin_ok : ∀ g r, r + g = 6 → 1 ≤ r → ∀ i S N, i ≤ ops.length → S.at_ = 2 * i → S.ns.length ≤ 1000 + 2 * i → 10 * (ops.length - i) + 12 - r ≤ N → Done ops r S.ns.length i S (ev (ordT ops) N (.bin (r : Int)) S) := by
  intro g
  induction g with
  | zero =>
    intro r hr h1 i S N hi hS hn hN
    obtain rfl : r = 6 := by omega
    obtain ⟨N, rfl⟩ : ∃ M, N = M + 5 := ⟨N - 5, by omega⟩
    refine ⟨i, [numNode i], Nat.le_refl _, hi, ?_, Piece.one ops _ i, fun q q1 q2 => by omega, fun _ => by have := (o_pos (ops.getD i 0)).2.2.2.1; omega⟩
    rw [ev, if_pos (show ((6 : Nat) : Int) = 6 from rfl), ev_num ops i N S hi hS (by omega)]
    simp
  | succ g ih =>
    intro r hr h1 i S N hi hS hn hN
    obtain ⟨N, rfl⟩ : ∃ M, N = M + 1 := ⟨N - 1, by omega⟩
    obtain ⟨j, b, b1, b2, b3, b4, b5, b6⟩ := ih (r + 1) (by omega) (by omega) i S N hi hS hn (by omega)
    have hl := loop_ok ops h7 hfew r h1 (by omega) (fun i S N a1 a2 a3 a4 => ih (r + 1) (by omega) (by omega) i S N a1 a2 a3 (by omega)) (ops.length - j) j i S b N (Nat.le_refl _) b1 b2 hn b4 (fun q q1 q2 => by have := b5 q q1 q2; omega) b6 (by omega)
    have hn6 : ¬ (r : Int) = 6 := by omega
    have hr1' : (r : Int) + 1 = ((r + 1 : Nat) : Int) := by omega
    rw [ev, if_neg hn6, hr1', b3]
    exact hl
/-- The whole expression. -/
theorem ord_expr : ∃ ns, exprT 1100 (ordT ops) = some (0, ns) ∧ Piece ops 0 0 ops.length ns := by
  obtain ⟨j, b, b1, b2, b3, b4, b5, b6⟩ := bin_ok ops h7 hfew 5 1 rfl (Nat.le_refl _) 0 ⟨0, 0, [], 0⟩ 1099 (Nat.zero_le _) rfl (Nat.zero_le _) (by omega)
  have hj : j = ops.length := by
    rcases Nat.lt_or_ge j ops.length with h | h
    · have := b6 h; have := (o_pos (ops.getD j 0)).2.2.1; omega
    · omega
  subst hj
  refine ⟨b, ?_, b4⟩
  have h1 : openS (ordT ops) ⟨#[63]⟩ ⟨2 * ops.length + 1, 0, [] ++ b, 0⟩ = some (false, ⟨2 * ops.length + 1, 0, [] ++ b, 0⟩) := openS_no (t := lastTok) (ord_end ops) (by decide)
  have he : ev (ordT ops) 1100 .expr ⟨0, 0, [], 0⟩ = some ([((0 + 2 * (ops.length - 0) : Nat) : Int)], ⟨2 * ops.length + 1, 0, [] ++ b, 0⟩) := by
    rw [ev]
    have : (1 : Int) = ((1 : Nat) : Int) := rfl
    rw [this, b3]
    simp only [one, Option.bind_some]
    rw [h1]
    rfl
  have hend : endS (ordT ops) ⟨2 * ops.length + 1, 0, [] ++ b, 0⟩ = some ⟨2 * ops.length + 1, 0, [] ++ b, 0⟩ := by
    unfold endS
    show (match (ordT ops)[2 * ops.length + 1]? with | none => none | some t => _) = _
    rw [ord_end]
    rfl
  unfold exprT
  rw [if_pos (by rw [ord_len]; omega)]
  unfold treeE
  show ((one (ev (ordT ops) 1100 .expr ⟨0, 0, [], 0⟩)).bind _).bind _ = _
  rw [he]
  simp only [one, Option.bind_some]
  rw [hend]
  rfl
end
end Go.Proofs.YtkbbhgipajhbnaaGreatDoor
