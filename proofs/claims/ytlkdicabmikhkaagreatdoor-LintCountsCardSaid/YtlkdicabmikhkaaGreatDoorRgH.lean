/- Package refs: the references of any nodes. -/
import Derived.Test.YtlkdicabmikhkaaGreatDoorRgG
namespace Go.Proofs.YtlkdicabmikhkaaGreatDoor
open Go.RowKit Go.Sort
set_option linter.unusedVariables false
set_option linter.unusedSimpArgs false
def partRefs (ps : List PartL) : List ByteArray := (ps.filter fun p => p.1).map (·.2)
def ownRef (n : NodeL) : List ByteArray := if n.kind = 4 then [n.text] else []
def rawG (ns : List NodeL) : List ByteArray := ns.flatMap fun n => ownRef n ++ partRefs n.parts
/-- All references, rising, each once. -/
def refsG (ns : List NodeL) : List ByteArray := textsOf (Lib.compact (sortB (bytesOf (rawG ns))))
theorem rawG_snoc (ns : List NodeL) (n : NodeL) : rawG (ns ++ [n]) = rawG ns ++ (ownRef n ++ partRefs n.parts) := by
  unfold rawG
  rw [List.flatMap_append]
  simp
theorem partRefs_snoc (ps : List PartL) (p : PartL) : partRefs (ps ++ [p]) = partRefs ps ++ (if p.1 then [p.2] else []) := by
  unfold partRefs
  rw [List.filter_append, List.map_append]
  cases h : p.1 <;> simp [List.filter, h]
theorem rawG_le {ns : List NodeL} {j q : Nat} {n : NodeL} (h : ns[j]? = some n) : (rawG (ns.take j) ++ ownRef n ++ partRefs (n.parts.take q)).length ≤ (rawG ns).length := by
  obtain ⟨h1, h2⟩ := List.getElem?_eq_some_iff.1 h
  have e : rawG ns = rawG (ns.take j) ++ (ownRef n ++ partRefs n.parts) ++ rawG (ns.drop (j + 1)) := by
    conv => lhs; rw [← List.take_append_drop j ns, List.drop_eq_getElem_cons h1, h2]
    unfold rawG
    simp only [List.flatMap_append, List.flatMap_cons, List.append_assoc]
  have e2 : partRefs n.parts = partRefs (n.parts.take q) ++ partRefs (n.parts.drop q) := by
    unfold partRefs
    rw [← List.map_append, ← List.filter_append, List.take_append_drop]
  rw [e, e2]
  simp only [List.length_append]
  omega
theorem partRow_at : ∀ (ps : List PartL) (q : Nat) (p : PartL), ps[q]? = some p → (partCells ps)[q * 2]? = some (.bool p.1) ∧ (partCells ps)[q * 2 + 1]? = some (.string p.2) := by
  intro ps
  induction ps with
  | nil => intro q p h; simp at h
  | cons a ps ih =>
    intro q p h
    show ((Value.bool a.1) :: (Value.string a.2) :: partCells ps)[q * 2]? = _ ∧ ((Value.bool a.1) :: (Value.string a.2) :: partCells ps)[q * 2 + 1]? = _
    cases q with
    | zero => simp at h; subst h; exact ⟨rfl, rfl⟩
    | succ q =>
      obtain ⟨h1, h2⟩ := ih q p (by simpa using h)
      refine ⟨?_, ?_⟩
      · rw [← h1, show (q + 1) * 2 = (q * 2 + 1) + 1 by omega]; rfl
      · rw [← h2, show (q + 1) * 2 + 1 = (q * 2 + 1 + 1) + 1 by omega]; rfl
theorem parts_cell {w : World} {pao : Option Addr} {m cap q : Nat} {ps : List PartL} {p : PartL} (h : PartsRd w (.slice pao m cap) ps) (hq : ps[q]? = some p) : ∃ g o, pao = some ⟨g, o, none⟩ ∧ w.cell? ⟨g, o + q * 2, none⟩ = some (.bool p.1) ∧ w.cell? ⟨g, o + q * 2 + 1, none⟩ = some (.string p.2) := by
  obtain ⟨ao, c, e, hc⟩ := h
  simp only [Value.slice.injEq] at e
  obtain ⟨rfl, -, rfl⟩ := e
  obtain ⟨k1, k2⟩ := partRow_at ps q p hq
  obtain ⟨g, o, rfl, h1⟩ := hc _ _ k1
  obtain ⟨g', o', e2, h2⟩ := hc _ _ k2
  cases e2
  exact ⟨g, o, rfl, h1, by rw [Nat.add_assoc]; exact h2⟩
theorem compact_le (ls : List (List UInt8)) : (Lib.compact ls).length ≤ ls.length := by
  unfold Lib.compact Lib.compactUpTo
  rw [List.length_map]
  exact Nat.le_trans (List.length_filter_le _ _) (by simp)
theorem refsG_nil {ns : List NodeL} (h : rawG ns = []) : refsG ns = [] := by
  unfold refsG
  rw [h]
  apply List.eq_nil_of_length_eq_zero
  have := compact_le (sortB (bytesOf []))
  have e : (sortB (bytesOf [])).length = 0 := by unfold sortB bytesOf; rw [List.length_mergeSort]; rfl
  unfold textsOf
  rw [List.length_map]
  omega
def RwGRel (w : World) (ns : List NodeL) (m : Nat) (sv iv : Value) (wr : World) : Prop :=
  ∃ j : Nat, iv = .int .i64 j ∧ ns.length - j ≤ m ∧ j ≤ ns.length ∧ Below w.heap.size w wr ∧ wr.ownsRow w.heap.size 9 1 sv (rawG (ns.take j)).length ((rawG (ns.take j)).map .string)
def RwPRel (w wa : World) (rs : List ByteArray) (ps : List PartL) (m : Nat) (sv iv : Value) (wr : World) : Prop :=
  ∃ q : Nat, iv = .int .i64 q ∧ ps.length - q ≤ m ∧ q ≤ ps.length ∧ Below w.heap.size w wr ∧ wr.ownsRow w.heap.size 9 1 sv (rs ++ partRefs (ps.take q)).length ((rs ++ partRefs (ps.take q)).map .string)
section
variable (w : World)
set_option maxHeartbeats 4000000 in
set_option maxRecDepth 20000 in
theorem prefsG (nv : Value) (ns : List NodeL) (h : NodesRd w nv ns) (hl : ns.length ≤ 100000) (hp : ∀ n ∈ ns, n.parts.length ≤ 100000) (hr : (rawG ns).length ≤ 90000) :
    Calls Tryz.prog 44 #[nv] w fun e w' => ∃ v, e = .returned v ∧ StrsIn w' w.heap.size v (refsG ns) ∧ Below w.heap.size w w' := by
  have H := Lib.hid h
  have HR := Lib.hid hr
  have HP := Lib.hid hp
  obtain ⟨ao, cap, rfl, -⟩ := h.at
  obtain ⟨i0, hi0, hz0, hz1, hz2⟩ := info_parts info_strR
  clear h hr hp
  go_enter Tryz.func44, Tryz.ntmps44
  go_wp2_with fail
  go_loopg [3, 10] ns.length (fun m sv iv wr => RwGRel w ns m sv iv wr)
  case atStart => exact ⟨0, rfl, Nat.le_refl _, Nat.zero_le _, Below.refl _ _, World.ownsRow_nil _ _ _ _⟩
  case round =>
    obtain ⟨j, rfl, hm, hj, hb, ho⟩ := hrel
    have HM := Lib.hid hm
    have B := Lib.hid hb
    obtain ⟨so, sc, rfl⟩ := own_lenR ho
    have OW := Lib.hid ho
    clear hm
    by_cases hjl : j < ns.length
    · obtain ⟨n, hn⟩ : ∃ n, ns[j]? = some n := ⟨_, List.getElem?_eq_getElem hjl⟩
      have hpl := HP.out n (List.mem_of_getElem? hn)
      have SN := Lib.hid (show rawG (ns.take (j + 1)) = rawG (ns.take j) ++ (ownRef n ++ partRefs n.parts) by rw [take_snocR hn, rawG_snoc])
      have LE := Lib.hid (fun q => Nat.le_trans (rawG_le (q := q) hn) HR.out)
      obtain ⟨ao2, cap2, e2, hat⟩ := H.out.at
      simp at e2
      obtain ⟨rfl, rfl⟩ := e2
      obtain ⟨g3, o, pv, kv, rfl, hpv, hkv, c0, c1, c2, c3, c4⟩ := hat j n hn
      obtain ⟨pao, pcap, rfl⟩ : ∃ a c, pv = .slice a n.parts.length c := by obtain ⟨a, c, e, -⟩ := hpv; exact ⟨a, c, e⟩
      obtain ⟨kao, kcap, rfl⟩ := hkv.len
      replace c0 := hold hb c0
      replace c1 := hold hb c1
      replace c2 := hold hb c2
      replace c3 := hold hb c3
      replace c4 := hold hb c4
      have HPV := Lib.hid hpv
      have BA := Lib.hid (below_al hb (.cells #[.int .i64 n.kind, .int .i64 n.num, .string n.text, .slice pao n.parts.length pcap, .slice kao n.kids.length kcap] 35))
      have OA := Lib.hid (World.ownsRow.alloc ho (.cells #[.int .i64 n.kind, .int .i64 n.num, .string n.text, .slice pao n.parts.length pcap, .slice kao n.kids.length kcap] 35))
      have NB := Lib.hid (heap_alloc_new wr (.cells #[.int .i64 n.kind, .int .i64 n.num, .string n.text, .slice pao n.parts.length pcap, .slice kao n.kids.length kcap] 35))
      clear hat hn ho hkv hpv
      by_cases k4 : n.kind = 4
      · have g4 : (n.kind == 4) = true := by simpa using k4
        have hbs : w.heap.size ≤ ((wr.alloc (.cells #[.int .i64 n.kind, .int .i64 n.num, .string n.text, .slice pao n.parts.length pcap, .slice kao n.kids.length kcap] 35)).alloc (.cells #[.string n.text] 9)).heap.size := by have := B.out.size; simp; omega
        have OR := Lib.hid (show ownRef n = [n.text] by unfold ownRef; rw [if_pos k4])
        have hsm : (rawG (ns.take j)).length + 1 ≤ maxLen ∧ ((rawG (ns.take j)).length + 1) * 16 ≤ 140737488355328 := by
          have := LE.out 0
          rw [OR.out] at this
          simp at this
          unfold maxLen; omega
        clear k4 hb
        generalize hacc : rawG (ns.take j) = acc at *
        have HACC := Lib.hid hacc
        clear hacc
        generalize hG : wr.heap.size = G at *
        go_wp2_with (at_builtin; refine wpList_append_own _ rfl _ _ 50 rfl w.heap.size 9 i0 _ 1 16 Tryz.underlying50 hi0 hz0 hz1 hz2 rfl (by decide) (.slice so acc.length sc) acc.length (acc.map .string) rfl (OA.out.alloc _) ⟨G + 1, 0, none⟩ 1 1 [.string n.text] rfl rfl ?nw (by simp [Value.oneCell']) hsm.1 hsm.2 hbs ?_)
        case nw =>
          have := news_new (wr.alloc (.cells #[.int .i64 n.kind, .int .i64 n.num, .string n.text, .slice pao n.parts.length pcap, .slice kao n.kids.length kcap] 35)) #[.string n.text] 9
          have e : (wr.alloc (.cells #[.int .i64 n.kind, .int .i64 n.num, .string n.text, .slice pao n.parts.length pcap, .slice kao n.kids.length kcap] 35)).heap.size = G + 1 := by simp [hG]
          rw [e] at this
          exact this
        intro v' w6 hown hgrow _
        have hr6 : ∀ k, (Value.slice so acc.length sc).ownBlock = some k → w.heap.size ≤ k := fun k hk => (World.ownsRow.lt OA.out k hk).1
        have B6 := Lib.hid (Below.grown (below_al BA.out _) hgrow hbs hr6)
        have O6 := Lib.hid (show w6.ownsRow w.heap.size 9 1 v' (acc ++ ownRef n).length ((acc ++ ownRef n).map .string) by
          rw [OR.out, List.length_append, List.map_append]; exact hown)
        have c3' : w6.cell? ⟨G, 3, none⟩ = some (.slice pao n.parts.length pcap) := by
          refine (World.cell?_of_block (a := ⟨G, 3, none⟩) (hgrow.block G (by simp; omega) (fun q => ?_))).trans (holdR (below_al (Below.refl _ _) _) (cell_of_row _ _ 3 _ _ _ NB.out))
          have := (World.ownsRow.lt OW.out G q.symm).2
          omega
        clear hown hgrow hsm
        go_wp2_with fail
        go_loopg [3, 25] n.parts.length (fun m sv v wx => RwPRel w w6 (acc ++ ownRef n) n.parts m sv v wx)
        case atStart => exact ⟨0, rfl, Nat.le_refl _, Nat.zero_le _, B6.out, by rw [List.take_zero]; show World.ownsRow _ _ _ _ _ (acc ++ ownRef n ++ []).length ((acc ++ ownRef n ++ []).map .string); rw [List.append_nil]; exact O6.out⟩
        case round =>
          obtain ⟨q, rfl, hm7, hq7, hb7, ho7⟩ := hrel
          have M7 := Lib.hid hm7
          have B7 := Lib.hid hb7
          obtain ⟨qo, qc, rfl⟩ := own_lenR ho7
          have O7 := Lib.hid ho7
          clear hm7 hb7
          by_cases hql : q < n.parts.length
          · obtain ⟨p, hp⟩ : ∃ p, n.parts[q]? = some p := ⟨_, List.getElem?_eq_getElem hql⟩
            have TK := Lib.hid (show partRefs (n.parts.take (q + 1)) = partRefs (n.parts.take q) ++ (if p.1 then [p.2] else []) by rw [take_snocR hp, partRefs_snoc])
            obtain ⟨gp, op, rfl, d0, d1⟩ := parts_cell (Rds.below HPV.out B7.out) hp
            have B8 := Lib.hid (below_al B7.out (.cells #[.bool p.1, .string p.2] 31))
            have O8 := Lib.hid (World.ownsRow.alloc ho7 (.cells #[.bool p.1, .string p.2] 31))
            have LQ := Lib.hid (LE.out q)
            clear hp ho7
            cases hpr : p.1 with
            | true =>
              rw [hpr] at d0 B8 O8 TK
              have T2 := Lib.hid (show acc ++ ownRef n ++ partRefs (n.parts.take (q + 1)) = (acc ++ ownRef n ++ partRefs (n.parts.take q)) ++ [p.2] by rw [TK.out]; simp)
              generalize hrq : acc ++ ownRef n ++ partRefs (n.parts.take q) = rq at *
              have hsm : rq.length + 1 ≤ maxLen ∧ (rq.length + 1) * 16 ≤ 140737488355328 := by have := LQ.out; unfold maxLen; omega
              have hbs : w.heap.size ≤ ((wr.alloc (.cells #[.bool true, .string p.2] 31)).alloc (.cells #[.string p.2] 9)).heap.size := by have := B7.out.size; simp; omega
              clear hrq hpr LQ
              go_wp2_with (at_builtin; refine wpList_append_own _ rfl _ _ 50 rfl w.heap.size 9 i0 _ 1 16 Tryz.underlying50 hi0 hz0 hz1 hz2 rfl (by decide) (.slice qo rq.length qc) rq.length (rq.map .string) rfl (O8.out.alloc _) ⟨wr.heap.size + 1, 0, none⟩ 1 1 [.string p.2] rfl rfl ?nw2 (by simp [Value.oneCell']) hsm.1 hsm.2 hbs ?_)
              intro v9 w9 hown hgrow _
              have hr9 : ∀ k, (Value.slice qo rq.length qc).ownBlock = some k → w.heap.size ≤ k := fun k hk => (World.ownsRow.lt O8.out k hk).1
              have B9 := Lib.hid (Below.grown (below_al B8.out _) hgrow hbs hr9)
              have O9 := Lib.hid (show w9.ownsRow w.heap.size 9 1 v9 (acc ++ ownRef n ++ partRefs (n.parts.take (q + 1))).length ((acc ++ ownRef n ++ partRefs (n.parts.take (q + 1))).map .string) by
                rw [T2.out, List.length_append, List.map_append]; exact hown)
              clear hown hgrow hsm
              go_wp2_with fail
              go_roundg (n.parts.length - (q + 1))
              case rel => exact ⟨q + 1, rfl, Nat.le_refl _, hql, B9.out, O9.out⟩
              case measure => have := M7.out; omega
            | false =>
              rw [hpr] at d0 B8 O8 TK
              have T2 := Lib.hid (show acc ++ ownRef n ++ partRefs (n.parts.take (q + 1)) = acc ++ ownRef n ++ partRefs (n.parts.take q) by rw [TK.out]; simp)
              clear hpr LQ
              go_wp2_with fail
              go_roundg (n.parts.length - (q + 1))
              case rel => exact ⟨q + 1, rfl, Nat.le_refl _, hql, B8.out, by rw [T2.out]; exact O8.out⟩
              case measure => have := M7.out; omega
          · have hz : q = n.parts.length := by omega
            subst hz
            have O9 := Lib.hid (show wr.ownsRow w.heap.size 9 1 (.slice qo (acc ++ ownRef n ++ partRefs (n.parts.take n.parts.length)).length qc) (rawG (ns.take (j + 1))).length ((rawG (ns.take (j + 1))).map .string) by
              have e : rawG (ns.take (j + 1)) = acc ++ ownRef n ++ partRefs (n.parts.take n.parts.length) := by rw [SN.out, List.take_length, List.append_assoc]
              rw [e]; exact O7.out)
            clear ho7
            go_wp2_with fail
            go_roundg (ns.length - (j + 1))
            case rel => exact ⟨j + 1, rfl, Nat.le_refl _, hjl, B7.out, O9.out⟩
            case measure => have := HM.out; omega
      · have g4 : (n.kind == 4) = false := by simpa using k4
        have OR := Lib.hid (show ownRef n = [] by unfold ownRef; rw [if_neg k4])
        have c3' : (wr.alloc (.cells #[.int .i64 n.kind, .int .i64 n.num, .string n.text, .slice pao n.parts.length pcap, .slice kao n.kids.length kcap] 35)).cell? ⟨wr.heap.size, 3, none⟩ = some (.slice pao n.parts.length pcap) := cell_of_row _ _ 3 _ _ _ NB.out
        clear k4 hb
        generalize hacc : rawG (ns.take j) = acc at *
        have HACC := Lib.hid hacc
        clear hacc
        have O6 := Lib.hid (show (wr.alloc (.cells #[.int .i64 n.kind, .int .i64 n.num, .string n.text, .slice pao n.parts.length pcap, .slice kao n.kids.length kcap] 35)).ownsRow w.heap.size 9 1 (.slice so acc.length sc) (acc ++ ownRef n).length ((acc ++ ownRef n).map .string) by rw [OR.out, List.append_nil]; exact OA.out)
        go_wp2_with fail
        generalize wr.alloc (.cells #[.int .i64 n.kind, .int .i64 n.num, .string n.text, .slice pao n.parts.length pcap, .slice kao n.kids.length kcap] 35) = wa at *
        go_loopg [3, 25] n.parts.length (fun m sv v wx => RwPRel w wa (acc ++ ownRef n) n.parts m sv v wx)
        case atStart => exact ⟨0, rfl, Nat.le_refl _, Nat.zero_le _, BA.out, by rw [List.take_zero]; show World.ownsRow _ _ _ _ _ (acc ++ ownRef n ++ []).length ((acc ++ ownRef n ++ []).map .string); rw [List.append_nil]; exact O6.out⟩
        case round =>
          obtain ⟨q, rfl, hm7, hq7, hb7, ho7⟩ := hrel
          have M7 := Lib.hid hm7
          have B7 := Lib.hid hb7
          obtain ⟨qo, qc, rfl⟩ := own_lenR ho7
          have O7 := Lib.hid ho7
          clear hm7 hb7
          by_cases hql : q < n.parts.length
          · obtain ⟨p, hp⟩ : ∃ p, n.parts[q]? = some p := ⟨_, List.getElem?_eq_getElem hql⟩
            have TK := Lib.hid (show partRefs (n.parts.take (q + 1)) = partRefs (n.parts.take q) ++ (if p.1 then [p.2] else []) by rw [take_snocR hp, partRefs_snoc])
            obtain ⟨gp, op, rfl, d0, d1⟩ := parts_cell (Rds.below HPV.out B7.out) hp
            have B8 := Lib.hid (below_al B7.out (.cells #[.bool p.1, .string p.2] 31))
            have O8 := Lib.hid (World.ownsRow.alloc ho7 (.cells #[.bool p.1, .string p.2] 31))
            have LQ := Lib.hid (LE.out q)
            clear hp ho7
            cases hpr : p.1 with
            | true =>
              rw [hpr] at d0 B8 O8 TK
              have T2 := Lib.hid (show acc ++ ownRef n ++ partRefs (n.parts.take (q + 1)) = (acc ++ ownRef n ++ partRefs (n.parts.take q)) ++ [p.2] by rw [TK.out]; simp)
              generalize hrq : acc ++ ownRef n ++ partRefs (n.parts.take q) = rq at *
              have hsm : rq.length + 1 ≤ maxLen ∧ (rq.length + 1) * 16 ≤ 140737488355328 := by have := LQ.out; unfold maxLen; omega
              have hbs : w.heap.size ≤ ((wr.alloc (.cells #[.bool true, .string p.2] 31)).alloc (.cells #[.string p.2] 9)).heap.size := by have := B7.out.size; simp; omega
              clear hrq hpr LQ
              go_wp2_with (at_builtin; refine wpList_append_own _ rfl _ _ 50 rfl w.heap.size 9 i0 _ 1 16 Tryz.underlying50 hi0 hz0 hz1 hz2 rfl (by decide) (.slice qo rq.length qc) rq.length (rq.map .string) rfl (O8.out.alloc _) ⟨wr.heap.size + 1, 0, none⟩ 1 1 [.string p.2] rfl rfl ?nw3 (by simp [Value.oneCell']) hsm.1 hsm.2 hbs ?_)
              intro v9 w9 hown hgrow _
              have hr9 : ∀ k, (Value.slice qo rq.length qc).ownBlock = some k → w.heap.size ≤ k := fun k hk => (World.ownsRow.lt O8.out k hk).1
              have B9 := Lib.hid (Below.grown (below_al B8.out _) hgrow hbs hr9)
              have O9 := Lib.hid (show w9.ownsRow w.heap.size 9 1 v9 (acc ++ ownRef n ++ partRefs (n.parts.take (q + 1))).length ((acc ++ ownRef n ++ partRefs (n.parts.take (q + 1))).map .string) by
                rw [T2.out, List.length_append, List.map_append]; exact hown)
              clear hown hgrow hsm
              go_wp2_with fail
              go_roundg (n.parts.length - (q + 1))
              case rel => exact ⟨q + 1, rfl, Nat.le_refl _, hql, B9.out, O9.out⟩
              case measure => have := M7.out; omega
            | false =>
              rw [hpr] at d0 B8 O8 TK
              have T2 := Lib.hid (show acc ++ ownRef n ++ partRefs (n.parts.take (q + 1)) = acc ++ ownRef n ++ partRefs (n.parts.take q) by rw [TK.out]; simp)
              clear hpr LQ
              go_wp2_with fail
              go_roundg (n.parts.length - (q + 1))
              case rel => exact ⟨q + 1, rfl, Nat.le_refl _, hql, B8.out, by rw [T2.out]; exact O8.out⟩
              case measure => have := M7.out; omega
          · have hz : q = n.parts.length := by omega
            subst hz
            have O9 := Lib.hid (show wr.ownsRow w.heap.size 9 1 (.slice qo (acc ++ ownRef n ++ partRefs (n.parts.take n.parts.length)).length qc) (rawG (ns.take (j + 1))).length ((rawG (ns.take (j + 1))).map .string) by
              have e : rawG (ns.take (j + 1)) = acc ++ ownRef n ++ partRefs (n.parts.take n.parts.length) := by rw [SN.out, List.take_length, List.append_assoc]
              rw [e]; exact O7.out)
            clear ho7
            go_wp2_with fail
            go_roundg (ns.length - (j + 1))
            case rel => exact ⟨j + 1, rfl, Nat.le_refl _, hjl, B7.out, O9.out⟩
            case measure => have := HM.out; omega
    · have hz : j = ns.length := by omega
      subst hz
      rw [List.take_length] at ho OW ⊢
      have RL := HR.out
      clear HR HM hj hjl OW
      by_cases hrn : rawG ns = []
      · rw [hrn] at ho ⊢
        have HRN := Lib.hid hrn
        clear hrn
        simp only [List.length_nil] at ho
        simp only [List.length_nil]
        go_wp2_with fail
        refine (Tryz.slices_Sort_string_none _ _ _).mono ?_
        rintro e w1 ⟨rfl, rfl⟩
        go_wp2_with fail
        refine (Tryz.slices_Compact_string_empty _ _ _).mono ?_
        rintro e w2 ⟨rfl, rfl⟩
        go_wp2_with fail
        go_ret
        exact ⟨_, rfl, by rw [refsG_nil HRN.out]; exact strs_none _ _ _ _, B.out⟩
      · rcases ho.2 with ⟨e, h0⟩ | ⟨g, cap', cur, e, hB, hg, hnc, hcm, hsz, htk⟩
        · exact absurd (List.eq_nil_of_length_eq_zero h0) hrn
        · simp only [Value.slice.injEq] at e
          obtain ⟨rfl, -, rfl⟩ := e
          have T0 : TextsAt wr g (rawG ns) := ⟨fun i x hx => by
            have hi := (List.getElem?_eq_some_iff.1 hx).1
            rw [World.ownsRow.cellAt ho i (by omega), List.getElem?_map, hx]; rfl, fun i hi => World.ownsRow.frozenAt ho i⟩
          have hgl := (Array.getElem?_eq_some_iff.1 hg).1
          have PS := Lib.hid (psortT wr g sc (rawG ns) T0 hgl (by omega))
          have LS := Lib.hid (show (textsOf (sortB (bytesOf (rawG ns)))).length = (rawG ns).length by simp [textsOf, sortB, bytesOf, List.length_mergeSort])
          clear T0 hg htk hsz hcm hgl ho
          go_wp2_with fail
          refine PS.out.mono ?_
          rintro e w1 ⟨rfl, h1, h2, h3⟩
          have B1 := Lib.hid (B.out.trans (h3 _ hB))
          have PC := Lib.hid (pcompactT w1 g sc (textsOf (sortB (bytesOf (rawG ns)))) h1 h2 (by rw [LS.out]; omega) (by rw [LS.out]; exact hnc) (by rw [bytes_texts]; exact Nat.le_trans (compact_le _) (by simp [textsOf])))
          rw [bytes_texts, LS.out] at PC
          clear h1 h2 h3
          go_wp2_with fail
          refine PC.out.mono ?_
          rintro e w2 ⟨rfl, k1, k2, k3⟩
          have B2 := Lib.hid (B1.out.trans (k3 _ hB))
          have K1 := Lib.hid k1
          have K2 := Lib.hid k2
          clear k1 k2 k3
          go_wp2_with fail
          go_ret
          exact ⟨_, rfl, ⟨some ⟨g, 0, none⟩, sc, by simp [refsG, textsOf], fun i x hx => ⟨g, 0, rfl, hB, K2.out, by rw [Nat.zero_add]; exact K1.out.cell i x hx⟩⟩, B2.out⟩
end
end Go.Proofs.YtlkdicabmikhkaaGreatDoor
