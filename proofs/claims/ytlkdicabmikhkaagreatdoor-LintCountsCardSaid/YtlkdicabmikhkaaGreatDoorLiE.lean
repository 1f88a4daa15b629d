/- Package lint: a scope's locals; what a scope warns of. -/
import Derived.Test.YtlkdicabmikhkaaGreatDoorLiD
namespace Go.Proofs.YtlkdicabmikhkaaGreatDoor
open Go.RowKit Go.Sort
set_option linter.unusedVariables false
set_option linter.unusedSimpArgs false
theorem locW_one (ns : List ByteArray) (p : ByteArray) (a : ByteArray × List NodeL) : (locW ns p a).length ≤ 1 := by unfold locW; split <;> simp
theorem locB1_few (ns : List ByteArray) (p : ByteArray) {b : BlkL} (h : b.attrs.length ≤ 1000) : (locB1 ns p b).length ≤ 1000 := by
  unfold locB1
  split
  · have := flat_few (locW ns p) 1 (locW_one ns p) b.attrs; omega
  · simp
theorem flat_fewM {α β : Type} (f : α → List β) (k : Nat) : ∀ l : List α, (∀ a ∈ l, (f a).length ≤ k) → (l.flatMap f).length ≤ l.length * k := by
  intro l
  induction l with
  | nil => intro _; simp
  | cons a l ih => intro hf; rw [List.flatMap_cons, List.length_append, List.length_cons, Nat.succ_mul]; have := hf a List.mem_cons_self; have := ih fun a ha => hf a (List.mem_cons_of_mem _ ha); omega
def LsRel (W : World) (ns : List ByteArray) (p : ByteArray) (l : List BlkL) (m : Nat) (sv iv : Value) (wr : World) : Prop :=
  ∃ j : Nat, iv = .int .i64 j ∧ l.length - j ≤ m ∧ j ≤ l.length ∧ Below W.heap.size W wr ∧ wr.ownsRow W.heap.size 40 2 sv (locsW ns p (l.take j)).length (warnCells (locsW ns p (l.take j)))
def LaRel (W : World) (ns : List ByteArray) (p : ByteArray) (acc : List (Int × ByteArray)) (al : List (ByteArray × List NodeL)) (m : Nat) (sv iv : Value) (wr : World) : Prop :=
  ∃ q : Nat, iv = .int .i64 q ∧ al.length - q ≤ m ∧ q ≤ al.length ∧ Below W.heap.size W wr ∧ wr.ownsRow W.heap.size 40 2 sv (acc ++ (al.take q).flatMap (locW ns p)).length (warnCells (acc ++ (al.take q).flatMap (locW ns p)))
section
variable (w : World)
set_option maxHeartbeats 4000000 in
set_option maxRecDepth 20000 in
theorem plocals (d Bn : Nat) (nv bv : Value) (ns : List ByteArray) (l : List BlkL) (p : ByteArray) (hn : StrsIn w Bn nv ns) (hnl : ns.length ≤ 100000) (h : BlksRd (d + 1) w bv l) (hl : l.length ≤ 1000) (hz : ∀ b ∈ l, b.attrs.length ≤ 1000 ∧ ∀ a ∈ b.attrs, a.1.size ≤ 100000) (hp : p.size ≤ 200000) :
    Calls Tryz.prog 19 #[.agg #[nv, bv, .string p]] w fun e w' => ∃ v, e = .returned v ∧ w'.ownsRow w.heap.size 40 2 v (locsW ns p l).length (warnCells (locsW ns p l)) ∧ Below w.heap.size w w' := by
  obtain ⟨no, nc, rfl, -⟩ := id hn
  obtain ⟨ao, cap, rfl⟩ := h.len
  obtain ⟨i0, hi0, hz0, hz1, hz2⟩ := info_parts info_warn
  have HZ := Lib.hid hz
  have BA := Lib.hid (below_al (Below.refl w.heap.size w) (.cells #[.slice no ns.length nc, .slice ao l.length cap, .string p] 53))
  have NB := Lib.hid (heap_alloc_new w (.cells #[.slice no ns.length nc, .slice ao l.length cap, .string p] 53))
  have HN := Lib.hid (hn.hold BA.out)
  have H := Lib.hid (h.below BA.out)
  clear hn h hz
  go_enter Tryz.func19, Tryz.ntmps19
  go_wp2_with fail
  generalize hW : w.alloc (.cells #[.slice no ns.length nc, .slice ao l.length cap, .string p] 53) = W at *
  have WS := Lib.hid (show W.heap.size = w.heap.size + 1 by rw [← hW]; simp)
  clear hW
  go_loopg [3, 11] l.length (fun m sv iv wr => LsRel W ns p l m sv iv wr)
  case atStart => exact ⟨0, rfl, Nat.le_refl _, Nat.zero_le _, Below.refl _ _, World.ownsRow_nil _ _ _ _⟩
  case round =>
    obtain ⟨j, rfl, hm, hj, hb, ho⟩ := hrel
    have HM := Lib.hid hm
    have B := Lib.hid hb
    obtain ⟨so, sc, rfl⟩ := own_lenR ho
    clear hm
    by_cases hjl : j < l.length
    · obtain ⟨b, hbj⟩ : ∃ b, l[j]? = some b := ⟨_, List.getElem?_eq_getElem hjl⟩
      obtain ⟨hal, haz⟩ := HZ.out b (List.mem_of_getElem? hbj)
      have AZ := Lib.hid haz
      have SN := Lib.hid (show locsW ns p (l.take (j + 1)) = locsW ns p (l.take j) ++ locB1 ns p b from flat_snoc _ hbj)
      have LE := Lib.hid (show (locsW ns p (l.take j)).length ≤ 1000000 by
        have := flat_fewM (locB1 ns p) 1000 (l.take j) fun b hb => locB1_few ns p (HZ.out b (List.mem_of_mem_take hb)).1
        have h2 : (l.take j).length ≤ l.length := List.length_take_le' _ _
        unfold locsW; omega)
      obtain ⟨ao2, cap2, e2, hat⟩ := H.out
      simp at e2
      obtain ⟨rfl, rfl⟩ := e2
      obtain ⟨g, o, ato, atc, bo, bc, rfl, c0, c1, c2, c3, hra, -⟩ := hat j b hbj
      have HRA := Lib.hid hra
      replace c0 := hold hb c0
      replace c1 := hold hb c1
      replace c2 := hold hb c2
      replace c3 := hold hb c3
      have BA2 := Lib.hid (below_al hb (.cells #[.int .i64 b.kind, .string b.label, .slice ato b.attrs.length atc, .slice bo b.blocks.length bc] 28))
      have OA := Lib.hid (World.ownsRow.alloc ho (.cells #[.int .i64 b.kind, .string b.label, .slice ato b.attrs.length atc, .slice bo b.blocks.length bc] 28))
      clear hat hbj ho haz hra
      by_cases k2 : b.kind = 2
      · have g1 : (b.kind == 2) = true := by simpa using k2
        have g3 : (b.kind != 2) = false := by simpa using k2
        have LB := Lib.hid (show locB1 ns p b = b.attrs.flatMap (locW ns p) by unfold locB1; rw [if_pos k2])
        rw [LB.out] at SN
        clear k2 hb
        generalize hacc : locsW ns p (l.take j) = acc at *
        have HACC := Lib.hid hacc
        clear hacc
        go_wp2_with fail
        generalize wr.alloc (.cells #[.int .i64 b.kind, .string b.label, .slice ato b.attrs.length atc, .slice bo b.blocks.length bc] 28) = wa at *
        go_loopg [3, 21] b.attrs.length (fun m sv v wx => LaRel W ns p acc b.attrs m sv v wx)
        case atStart => exact ⟨0, rfl, Nat.le_refl _, Nat.zero_le _, BA2.out, by rw [List.take_zero]; show World.ownsRow _ _ _ _ _ (acc ++ []).length (warnCells (acc ++ [])); rw [List.append_nil]; exact OA.out⟩
        case round =>
          obtain ⟨q, rfl, hm7, hq7, hb7, ho7⟩ := hrel
          have M7 := Lib.hid hm7
          have B7 := Lib.hid hb7
          obtain ⟨qo, qc, rfl⟩ := own_lenR ho7
          have O7 := Lib.hid ho7
          clear hm7
          by_cases hql : q < b.attrs.length
          · obtain ⟨a, haq⟩ : ∃ a, b.attrs[q]? = some a := ⟨_, List.getElem?_eq_getElem hql⟩
            have haz := AZ.out a (List.mem_of_getElem? haq)
            have TK := Lib.hid (show acc ++ (b.attrs.take (q + 1)).flatMap (locW ns p) = (acc ++ (b.attrs.take q).flatMap (locW ns p)) ++ locW ns p a by rw [flat_snoc _ haq, List.append_assoc])
            have LQ := Lib.hid (show (acc ++ (b.attrs.take q).flatMap (locW ns p)).length ≤ 1001000 by
              have h1 := flat_few (locW ns p) 1 (locW_one ns p) (b.attrs.take q)
              have h2 : (b.attrs.take q).length ≤ b.attrs.length := List.length_take_le' _ _
              have := LE.out
              rw [List.length_append]; omega)
            obtain ⟨aao, acap, e3, hata⟩ := HRA.out
            simp at e3
            obtain ⟨rfl, rfl⟩ := e3
            obtain ⟨ga, oa, no2, nc2, rfl, d0, d1, -⟩ := hata q a haq
            replace d0 := hold hb7 d0
            replace d1 := hold hb7 d1
            have B8 := Lib.hid (below_al B7.out (.cells #[.string a.1, .slice no2 a.2.length nc2] 38))
            have O8 := Lib.hid (World.ownsRow.alloc ho7 (.cells #[.string a.1, .slice no2 a.2.length nc2] 38))
            have NS := (B8.out.block _ (Array.getElem?_eq_some_iff.1 NB.out).1).trans NB.out
            have n0 := cell_of_row _ _ 0 _ _ _ NS
            have n1 := cell_of_row _ _ 1 _ _ _ NS
            have n2 := cell_of_row _ _ 2 _ _ _ NS
            simp only [List.getElem?_toArray, List.getElem?_cons_zero, List.getElem?_cons_succ] at n0 n1 n2
            have NW := Lib.hid (heap_alloc_new wr (.cells #[.string a.1, .slice no2 a.2.length nc2] 38))
            have PU := Lib.hid (pused _ Bn _ ns (sLoc ++ a.1) (HN.out.hold B8.out) hnl)
            have hs1 : (⟨#[108, 111, 99, 97, 108, 46]⟩ ++ a.1 : ByteArray).size ≤ maxLen := by
              rw [ByteArray.size_append]; unfold maxLen; show 6 + a.1.size ≤ _; omega
            clear hata haq ho7 hb7 NS
            generalize hrq : acc ++ (b.attrs.take q).flatMap (locW ns p) = rq at *
            cases hu : usedB ns (sLoc ++ a.1)
            · have VW := Lib.hid (show locW ns p a = [(2, p ++ a.1)] by unfold locW; rw [if_pos hu])
              rw [hu] at PU
              rw [VW.out] at TK
              clear hu hrq
              go_wp2_with fail
              refine PU.out.mono ?_
              rintro e w2 ⟨rfl, hb2⟩
              have B2 := Lib.hid (B8.out.trans (hb2.mono B8.out.size))
              have O2 := Lib.hid (own_below O8.out hb2)
              have m0 := hold hb2 n0
              have m1 := hold hb2 n1
              have m2 := hold hb2 n2
              have m3 : w2.cell? ⟨wr.heap.size, 0, none⟩ = some (.string a.1) := hold hb2 (cell_of_row _ _ 0 _ _ _ NW.out)
              have PW := Lib.hid (pwarn w2 (.slice no ns.length nc) (.slice (some ⟨g, o, none⟩) l.length cap) p a.1 2 hp haz)
              clear hb2 PU NW n0 n1 n2
              go_wp2_with fail
              refine PW.out.mono ?_
              rintro e w3 ⟨rfl, hb3⟩
              have B3 := Lib.hid (B2.out.trans (hb3.mono B2.out.size))
              have O3 := Lib.hid (own_below O2.out hb3)
              have s3 : W.heap.size ≤ (w3.alloc (.cells #[.int .i64 2, .string (p ++ a.1)] 40)).heap.size := by have := B3.out.size; simp; omega
              have hsm : rq.length + 1 ≤ maxLen ∧ (rq.length + 1) * 24 ≤ 140737488355328 := by have := LQ.out; unfold maxLen; omega
              clear hb3 PW m0 m1 m2 m3
              go_wp2_with (at_builtin; refine wpList_append_own _ rfl _ _ 25 rfl W.heap.size 40 i0 _ 2 24 Tryz.underlying25 hi0 hz0 hz1 hz2 rfl (by decide) (.slice qo rq.length qc) rq.length (warnCells rq) rfl (O3.out.alloc _) ⟨w3.heap.size, 0, none⟩ 1 1 [.int .i64 2, .string (p ++ a.1)] rfl rfl ?nw (by simp [Value.oneCell']) hsm.1 hsm.2 s3 ?_)
              case nw => exact news_new w3 #[.int .i64 2, .string (p ++ a.1)] 40
              intro v9 w9 hown hgrow _
              have hr9 : ∀ k, (Value.slice qo rq.length qc).ownBlock = some k → W.heap.size ≤ k := fun k hk => (World.ownsRow.lt O3.out k hk).1
              have B9 := Lib.hid (below_grown B3.out hgrow hr9)
              have O9 := Lib.hid (show w9.ownsRow W.heap.size 40 2 v9 (acc ++ (b.attrs.take (q + 1)).flatMap (locW ns p)).length (warnCells (acc ++ (b.attrs.take (q + 1)).flatMap (locW ns p))) by
                rw [TK.out, List.length_append, warn_app]; exact hown)
              clear hown hgrow hsm
              go_wp2_with fail
              go_roundg (b.attrs.length - (q + 1))
              case rel => exact ⟨q + 1, rfl, Nat.le_refl _, hql, B9.out, O9.out⟩
              case measure => have := M7.out; omega
            · have VW := Lib.hid (show locW ns p a = [] by unfold locW; rw [if_neg (by rw [hu]; simp)])
              rw [VW.out, List.append_nil] at TK
              rw [hu] at PU
              clear hu hrq
              go_wp2_with fail
              refine PU.out.mono ?_
              rintro e w2 ⟨rfl, hb2⟩
              have B2 := Lib.hid (B8.out.trans (hb2.mono B8.out.size))
              have O2 := Lib.hid (own_below O8.out hb2)
              clear hb2
              go_wp2_with fail
              go_roundg (b.attrs.length - (q + 1))
              case rel => exact ⟨q + 1, rfl, Nat.le_refl _, hql, B2.out, by rw [TK.out]; exact O2.out⟩
              case measure => have := M7.out; omega
          · obtain rfl : q = b.attrs.length := by omega
            have O9 := Lib.hid (show wr.ownsRow W.heap.size 40 2 (.slice qo (acc ++ (b.attrs.take b.attrs.length).flatMap (locW ns p)).length qc) (locsW ns p (l.take (j + 1))).length (warnCells (locsW ns p (l.take (j + 1)))) by
              rw [SN.out]
              have := O7.out
              rw [List.take_length] at this ⊢
              exact this)
            clear ho7
            go_wp2_with fail
            go_roundg (l.length - (j + 1))
            case rel => exact ⟨j + 1, rfl, Nat.le_refl _, hjl, B7.out, O9.out⟩
            case measure => have := HM.out; omega
      · have g1 : (b.kind == 2) = false := by simpa using k2
        have g3 : (b.kind != 2) = true := by simpa using k2
        have LB := Lib.hid (show locB1 ns p b = [] by unfold locB1; rw [if_neg k2])
        rw [LB.out, List.append_nil] at SN
        clear k2 hb
        go_wp2_with fail
        go_roundg (l.length - (j + 1))
        case rel => exact ⟨j + 1, rfl, Nat.le_refl _, hjl, BA2.out, by rw [SN.out]; exact OA.out⟩
        case measure => have := HM.out; omega
    · obtain rfl : j = l.length := by omega
      rw [List.take_length] at ho
      have OW := Lib.hid (own_base ho (by have := WS.out; omega : w.heap.size ≤ W.heap.size))
      have BW := Lib.hid (BA.out.trans (hb.mono BA.out.size))
      rw [List.take_length]
      clear ho hb
      go_wp2_with fail
      go_ret
      exact ⟨_, rfl, OW.out, BW.out⟩
end
end Go.Proofs.YtlkdicabmikhkaaGreatDoor
