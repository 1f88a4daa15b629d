/- Package refs: the references of nodes without parts, at most one of them. -/
import Derived.Test.YtlkdicabmikhkaaGreatDoorNodU
import Derived.Test.YtlkdicabmikhkaaGreatDoorShelfR
import Derived.Sort.Row
import Derived.Sort.EncStr
import Derived.Lib.RowBridge
namespace Go.Proofs.YtlkdicabmikhkaaGreatDoor
open Go.RowKit Go.Sort
set_option linter.unusedVariables false
set_option linter.unusedSimpArgs false
theorem info_strR : (Tryz.prog.info? 9).map (fun i => (i.zero, i.size, i.bytes)) = some (some (.string ⟨#[]⟩), 1, 16) := by kernel_rfl
def rawN (ns : List NodeL) : List ByteArray := (ns.filter fun n => n.kind == 4).map (·.text)
theorem rawN_snoc (ns : List NodeL) (n : NodeL) : rawN (ns ++ [n]) = rawN ns ++ (if n.kind = 4 then [n.text] else []) := by
  unfold rawN
  rw [List.filter_append, List.map_append]
  by_cases h : n.kind = 4
  · simp [List.filter, h]
  · have : (n.kind == 4) = false := by simpa using h
    simp [List.filter, h, this]
theorem take_snocR {α : Type} {l : List α} {j : Nat} {b : α} (h : l[j]? = some b) : l.take (j + 1) = l.take j ++ [b] := by
  obtain ⟨h1, h2⟩ := List.getElem?_eq_some_iff.1 h
  rw [← h2]
  simp
theorem own_lenR {w : World} {B e z n : Nat} {v : Value} {xs : List Value} (h : w.ownsRow B e z v n xs) : ∃ ao cap, v = .slice ao n cap := by
  rcases h.2 with ⟨rfl, h0⟩ | ⟨g, cap, cur, rfl, _⟩
  · subst h0; exact ⟨_, _, rfl⟩
  · exact ⟨_, _, rfl⟩
theorem holdR {v W : World} (h : Below v.heap.size v W) {p : Addr} {u : Value} (hu : v.cell? p = some u) : W.cell? p = some u := (h.cell (p := p) (World.block_lt_of_cell? _ _ hu)).trans hu
theorem below_growR {B : Nat} {a w : World} (h : Below B a w) (hB : B ≤ w.heap.size) (os : Array Obj) : Below B a (grow w os) := by
  refine ⟨h.os, h.tape, h.output, ?_, fun b hb => ?_⟩
  · show a.heap.size ≤ (w.heap ++ os).size
    have := h.size; simp; omega
  · show (w.heap ++ os)[b]? = _
    rw [Array.getElem?_append_left (by omega)]
    exact h.block b hb
/-- What leaves one text where it lies. -/
def Stays (w : World) (g : Nat) (x : ByteArray) (W : World) : Prop := (∀ B, B ≤ g → B ≤ w.heap.size → Below B w W) ∧ W.cell? ⟨g, 0, none⟩ = some (.string x) ∧ W.frozen? ⟨g, 0, none⟩ = false ∧ g < W.heap.size
theorem stays_set {w : World} {g : Nat} {x : ByteArray} (hc : w.cell? ⟨g, 0, none⟩ = some (.string x)) (hf : w.frozen? ⟨g, 0, none⟩ = false) (q : Nat) : Stays w g x ((w.drewN q).setCell ⟨g, 0, none⟩ (.string x)) := by
  have hl : g < w.heap.size := World.block_lt_of_cell? _ _ hc
  refine ⟨fun B h1 h2 => ?_, World.cell?_setCell_same (w.drewN q) ⟨g, 0, none⟩ (.string x) (show (w.drewN q).cell? ⟨g, 0, none⟩ = some (.string x) from hc), ?_, by simpa [World.setCell] using hl⟩
  · have hB : Below B w (w.drewN q) := ⟨rfl, rfl, rfl, Nat.le_refl _, fun _ _ => rfl⟩
    exact hB.setCell (p := ⟨g, 0, none⟩) h1 _
  · rw [World.frozen?_setCell]
    exact hf
theorem one_at {P : Nat → Prop} (h : P 0) : ∀ i, i < 1 → P i := fun i hi => by
  have : i = 0 := by omega
  rw [this]; exact h
set_option maxRecDepth 20000 in
theorem psort1 (w : World) (g cap : Nat) (x : ByteArray) (hc : w.cell? ⟨g, 0, none⟩ = some (.string x)) (hf : w.frozen? ⟨g, 0, none⟩ = false) :
    Calls Tryz.prog 27 #[.slice (some ⟨g, 0, none⟩) 1 cap] w fun e W => e = .returned (.tuple #[]) ∧ Stays w g x W := by
  have hl : g < w.heap.size := World.block_lt_of_cell? _ _ hc
  have hH := Lib.holds_of_strs (w := w) (b := g) (off := 0) (n := 1) (Sx := fun _ => x) (one_at hc) (one_at hf)
  have e1 : Lib.strsOf (fun _ => x) 1 = [x.data.toList] := rfl
  rw [e1] at hH
  refine (Tryz.slices_Sort_string g 0 cap [x.data.toList] w hH hl (by simp)).mono ?_
  rintro e W ⟨rfl, n, os, rfl⟩
  rw [List.mergeSort_singleton, Lib.putRow_eq_setCells encStr w g 0 _ [x.data.toList] n hH (by simp)]
  have S := stays_set hc hf n
  have e2 : (w.drewN n).setCells g 0 ([x.data.toList].map encStr) = (w.drewN n).setCell ⟨g, 0, none⟩ (.string x) := rfl
  rw [e2]
  generalize (w.drewN n).setCell ⟨g, 0, none⟩ (.string x) = W at *
  have G := fun B (h : B ≤ W.heap.size) => below_growR (B := B) (a := W) (w := W) ⟨rfl, rfl, rfl, Nat.le_refl _, fun _ _ => rfl⟩ h os
  refine ⟨rfl, fun B h1 h2 => (S.1 B h1 h2).trans (G B (by have := (S.1 B h1 h2).size; omega)), holdR (G _ (Nat.le_refl _)) S.2.1, ?_, Nat.lt_of_lt_of_le S.2.2.2 (G _ (Nat.le_refl _)).size⟩
  exact ((G _ (Nat.le_refl _)).frozen (p := ⟨g, 0, none⟩) S.2.2.2).trans S.2.2.1
set_option maxRecDepth 20000 in
theorem pcompact1 (w : World) (g cap : Nat) (hcap : 1 ≤ cap) (x : ByteArray) (hc : w.cell? ⟨g, 0, none⟩ = some (.string x)) (hf : w.frozen? ⟨g, 0, none⟩ = false) :
    Calls Tryz.prog 28 #[.slice (some ⟨g, 0, none⟩) 1 cap] w fun e W => e = .returned (.slice (some ⟨g, 0, none⟩) 1 cap) ∧ Stays w g x W := by
  have e1 : Lib.compact (Lib.strsOf (fun _ => x) 1) = [x.data.toList] := rfl
  refine (Tryz.slices_Compact_string_cells g 0 1 cap (fun _ => x) w (by omega) hcap (one_at hc) (one_at hf)).mono ?_
  rintro e W ⟨rfl, q, rfl⟩
  rw [e1]
  have e2 : (w.drewN q).setCells g 0 (([x.data.toList] ++ List.replicate (1 - [x.data.toList].length) []).map encStr) = (w.drewN q).setCell ⟨g, 0, none⟩ (.string x) := rfl
  rw [e2]
  exact ⟨rfl, stays_set hc hf q⟩
/-- Texts as a slice value reads, in a block from B on. -/
def StrsIn (w : World) (B : Nat) (v : Value) (xs : List ByteArray) : Prop :=
  ∃ ao cap, v = .slice ao xs.length cap ∧ ∀ (j : Nat) (x : ByteArray), xs[j]? = some x → ∃ g o, ao = some ⟨g, o, none⟩ ∧ B ≤ g ∧ g < w.heap.size ∧ w.cell? ⟨g, o + j, none⟩ = some (.string x)
theorem strs_none (w : World) (B cap : Nat) (ao : Option Addr) : StrsIn w B (.slice ao 0 cap) [] := ⟨ao, cap, rfl, fun j x h => by simp at h⟩
theorem strs_one {w : World} {B g cap : Nat} {x : ByteArray} (hB : B ≤ g) (hc : w.cell? ⟨g, 0, none⟩ = some (.string x)) : StrsIn w B (.slice (some ⟨g, 0, none⟩) 1 cap) [x] := by
  refine ⟨_, cap, rfl, fun j y h => ?_⟩
  cases j with
  | zero => simp at h; subst h; exact ⟨g, 0, rfl, hB, World.block_lt_of_cell? _ _ hc, hc⟩
  | succ j => simp at h
def RwRel (w : World) (ns : List NodeL) (m : Nat) (sv iv : Value) (wr : World) : Prop :=
  ∃ j : Nat, iv = .int .i64 j ∧ ns.length - j ≤ m ∧ j ≤ ns.length ∧ Below w.heap.size w wr ∧ wr.ownsRow w.heap.size 9 1 sv (rawN (ns.take j)).length ((rawN (ns.take j)).map .string)
section
variable (w : World)
set_option maxHeartbeats 4000000 in
set_option maxRecDepth 20000 in
theorem prefs (nv : Value) (ns : List NodeL) (h : NodesRd w nv ns) (hp : ∀ n ∈ ns, n.parts = []) (hl : ns.length ≤ 1000) (hr : (rawN ns).length ≤ 1) :
    Calls Tryz.prog 44 #[nv] w fun e w' => ∃ v, e = .returned v ∧ StrsIn w' w.heap.size v (rawN ns) ∧ Below w.heap.size w w' := by
  have H := Lib.hid h
  have HP := Lib.hid hp
  have HR := Lib.hid hr
  obtain ⟨ao, cap, rfl, -⟩ := h.at
  obtain ⟨i0, hi0, hz0, hz1, hz2⟩ := info_parts info_strR
  clear h hp hr
  go_enter Tryz.func44, Tryz.ntmps44
  go_wp2_with fail
  go_loopg [3, 10] ns.length (fun m sv iv wr => RwRel w ns m sv iv wr)
  case atStart => exact ⟨0, rfl, Nat.le_refl _, Nat.zero_le _, Below.refl _ _, World.ownsRow_nil _ _ _ _⟩
  case round =>
    obtain ⟨j, rfl, hm, hj, hb, ho⟩ := hrel
    have HM := Lib.hid hm
    have B := Lib.hid hb
    obtain ⟨so, sc, rfl⟩ := own_lenR ho
    have OW := Lib.hid ho
    clear hm
    by_cases hjl : j < ns.length
    · obtain ⟨n, hn⟩ : ∃ n, ns[j]? = some n := ⟨_, List.getElem?_eq_getElem hjl⟩
      have hpn := HP.out n (List.mem_of_getElem? hn)
      have SN := Lib.hid (show rawN (ns.take (j + 1)) = rawN (ns.take j) ++ (if n.kind = 4 then [n.text] else []) by rw [take_snocR hn, rawN_snoc])
      obtain ⟨ao2, cap2, e2, hat⟩ := (H.out.below hb).at
      simp at e2
      obtain ⟨rfl, rfl⟩ := e2
      obtain ⟨g3, o, pv, kv, rfl, hpv, hkv, c0, c1, c2, c3, c4⟩ := hat j n hn
      rw [hpn] at hpv
      obtain ⟨pao, pcap, rfl, -⟩ := hpv
      obtain ⟨kao, kcap, rfl⟩ := hkv.len
      simp only [List.length_nil] at c3
      have BA := Lib.hid (below_al hb (.cells #[.int .i64 n.kind, .int .i64 n.num, .string n.text, .slice pao 0 pcap, .slice kao n.kids.length kcap] 35))
      have OA := Lib.hid (World.ownsRow.alloc ho (.cells #[.int .i64 n.kind, .int .i64 n.num, .string n.text, .slice pao 0 pcap, .slice kao n.kids.length kcap] 35))
      have NB := Lib.hid (heap_alloc_new wr (.cells #[.int .i64 n.kind, .int .i64 n.num, .string n.text, .slice pao 0 pcap, .slice kao n.kids.length kcap] 35))
      have hLn : (rawN (ns.take j)).length ≤ 1000 := by
        unfold rawN
        rw [List.length_map]
        have := List.length_filter_le (fun n : NodeL => n.kind == 4) (ns.take j)
        have := List.length_take_le j ns
        simp at *
        omega
      clear hat hn hpn hb ho hkv
      by_cases k4 : n.kind = 4
      · have g4 : (n.kind == 4) = true := by simpa using k4
        have hbs : w.heap.size ≤ ((wr.alloc (.cells #[.int .i64 n.kind, .int .i64 n.num, .string n.text, .slice pao 0 pcap, .slice kao n.kids.length kcap] 35)).alloc (.cells #[.string n.text] 9)).heap.size := by have := B.out.size; simp; omega
        have SN2 := Lib.hid (show rawN (ns.take (j + 1)) = rawN (ns.take j) ++ [n.text] by rw [SN.out, if_pos k4])
        have hsm : (rawN (ns.take j)).length + 1 ≤ maxLen ∧ ((rawN (ns.take j)).length + 1) * 16 ≤ 140737488355328 := by unfold maxLen; omega
        clear k4
        generalize rawN (ns.take j) = acc at *
        generalize hG : wr.heap.size = G at *
        go_wp2_with (at_builtin; refine wpList_append_own _ rfl _ _ 50 rfl w.heap.size 9 i0 _ 1 16 Tryz.underlying50 hi0 hz0 hz1 hz2 rfl (by decide) (.slice so acc.length sc) acc.length (acc.map .string) rfl (OA.out.alloc _) ⟨G + 1, 0, none⟩ 1 1 [.string n.text] rfl rfl ?nw (by simp [Value.oneCell']) hsm.1 hsm.2 hbs ?_)
        case nw =>
          have := news_new (wr.alloc (.cells #[.int .i64 n.kind, .int .i64 n.num, .string n.text, .slice pao 0 pcap, .slice kao n.kids.length kcap] 35)) #[.string n.text] 9
          have e : (wr.alloc (.cells #[.int .i64 n.kind, .int .i64 n.num, .string n.text, .slice pao 0 pcap, .slice kao n.kids.length kcap] 35)).heap.size = G + 1 := by simp [hG]
          rw [e] at this
          exact this
        intro v' w6 hown hgrow _
        have hr6 : ∀ k, (Value.slice so acc.length sc).ownBlock = some k → w.heap.size ≤ k := fun k hk => (World.ownsRow.lt OA.out k hk).1
        have B6 := Lib.hid (Below.grown (below_al BA.out _) hgrow hbs hr6)
        have O6 := Lib.hid (show w6.ownsRow w.heap.size 9 1 v' (rawN (ns.take (j + 1))).length ((rawN (ns.take (j + 1))).map .string) by
          rw [SN2.out, List.length_append, List.map_append]; exact hown)
        have c3' : w6.cell? ⟨G, 3, none⟩ = some (.slice pao 0 pcap) := by
          refine (World.cell?_of_block (a := ⟨G, 3, none⟩) (hgrow.block G (by simp; omega) (fun q => ?_))).trans (holdR (below_al (Below.refl _ _) _) (cell_of_row _ _ 3 _ _ _ NB.out))
          have := (World.ownsRow.lt OW.out G q.symm).2
          omega
        clear hown hgrow
        go_wp2_with fail
        go_loopg [3, 25] 0 (fun m sv v wx => sv = v' ∧ v = .int .i64 0 ∧ w6 = wx)
        case atStart => exact ⟨rfl, rfl, rfl⟩
        case round =>
          obtain ⟨rfl, rfl, rfl⟩ := hrel
          go_wp2_with fail
          go_roundg (ns.length - (j + 1))
          case rel => exact ⟨j + 1, rfl, Nat.le_refl _, hjl, B6.out, O6.out⟩
          case measure => have := HM.out; omega
      · have g4 : (n.kind == 4) = false := by simpa using k4
        have SN2 := Lib.hid (show rawN (ns.take (j + 1)) = rawN (ns.take j) by rw [SN.out, if_neg k4, List.append_nil])
        have c3' : (wr.alloc (.cells #[.int .i64 n.kind, .int .i64 n.num, .string n.text, .slice pao 0 pcap, .slice kao n.kids.length kcap] 35)).cell? ⟨wr.heap.size, 3, none⟩ = some (.slice pao 0 pcap) := cell_of_row _ _ 3 _ _ _ NB.out
        clear k4
        go_wp2_with fail
        generalize wr.alloc (.cells #[.int .i64 n.kind, .int .i64 n.num, .string n.text, .slice pao 0 pcap, .slice kao n.kids.length kcap] 35) = wa at *
        go_loopg [3, 25] 0 (fun m sv v wx => sv = .slice so (rawN (ns.take j)).length sc ∧ v = .int .i64 0 ∧ wa = wx)
        case atStart => exact ⟨rfl, rfl, rfl⟩
        case round =>
          obtain ⟨rfl, rfl, rfl⟩ := hrel
          go_wp2_with fail
          go_roundg (ns.length - (j + 1))
          case rel => exact ⟨j + 1, rfl, Nat.le_refl _, hjl, BA.out, by rw [SN2.out]; exact OA.out⟩
          case measure => have := HM.out; omega
    · have hz : j = ns.length := by omega
      subst hz
      rw [List.take_length] at ho OW ⊢
      have RL := HR.out
      clear HR HM hj hjl
      generalize hrr : rawN ns = rr at *
      have HRR := Lib.hid hrr
      clear hrr
      match rr, RL, HRR with
      | [], _, HRR =>
        go_wp2_with fail
        refine (Tryz.slices_Sort_string_none _ _ _).mono ?_
        rintro e w1 ⟨rfl, rfl⟩
        go_wp2_with fail
        refine (Tryz.slices_Compact_string_empty _ _ _).mono ?_
        rintro e w2 ⟨rfl, rfl⟩
        go_wp2_with fail
        go_ret
        exact ⟨_, rfl, by rw [HRR.out]; exact strs_none _ _ _ _, B.out⟩
      | [x], _, HRR =>
        rcases ho.2 with ⟨e, h0⟩ | ⟨g, cap', cur, e, hB, hg, hnc, hcm, hsz, htk⟩
        · simp at h0
        · simp only [Value.slice.injEq] at e
          obtain ⟨rfl, -, rfl⟩ := e
          have hc : wr.cell? ⟨g, 0, none⟩ = some (.string x) := by
            have := World.ownsRow.cellAt ho 0 (by simp)
            simpa using this
          have hf := World.ownsRow.frozenAt ho 0
          simp only [List.length_cons, List.length_nil, Nat.zero_add] at hnc
          go_wp2_with fail
          refine (psort1 wr g sc x hc hf).mono ?_
          rintro e w1 ⟨rfl, h1, h2, h3, h4⟩
          have B1 := Lib.hid (B.out.trans (h1 _ hB B.out.size))
          go_wp2_with fail
          refine (pcompact1 w1 g sc hnc x h2 h3).mono ?_
          rintro e w2 ⟨rfl, k1, k2, k3, k4⟩
          have B2 := Lib.hid (B1.out.trans (k1 _ hB B1.out.size))
          go_wp2_with fail
          go_ret
          exact ⟨_, rfl, by rw [HRR.out]; exact strs_one hB k2, B2.out⟩
end
end Go.Proofs.YtlkdicabmikhkaaGreatDoor
