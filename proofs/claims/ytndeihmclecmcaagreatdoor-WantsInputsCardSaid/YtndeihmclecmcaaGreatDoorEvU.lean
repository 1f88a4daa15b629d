/- Package eval: a tree of one text. -/
import Derived.Test.YtndeihmclecmcaaGreatDoorEvKa
import Derived.Test.YtndeihmclecmcaaGreatDoorValK
import Derived.Test.YtndeihmclecmcaaGreatDoorValT
namespace Go.Proofs.YtndeihmclecmcaaGreatDoor
open Go.RowKit
set_option linter.unusedVariables false
set_option linter.unusedSimpArgs false
theorem info_strE : (Tryz.prog.info? 9).map (fun i => (i.zero, i.size, i.bytes)) = some (some (.string ⟨#[]⟩), 1, 16) := by kernel_rfl
def partR (L : ByteArray → Option VL) (p : PartL) : ByteArray × Int :=
  if p.1 then (match L p.2 with | none => (⟨#[]⟩, 2) | some v => textT v) else (p.2, 0)
/-- The parts of a text, behind those that were told already. -/
def textGo (L : ByteArray → Option VL) : List PartL → List ByteArray → VL × Int
  | [], acc => joinR acc
  | p :: ps, acc => if (partR L p).2 = 0 then textGo L ps (acc ++ [(partR L p).1]) else (vz, (partR L p).2)
/-- What names stand for is of a known kind, and not long as a text. -/
def TextL (L : ByteArray → Option VL) : Prop := ∀ x v, L x = some v → (v.kind = 1 ∨ v.kind = 2 ∨ v.kind = 3 ∨ v.kind = 4) ∧ (textT v).1.size ≤ 10000
section
variable (w : World)
set_option maxHeartbeats 1000000 in
set_option maxRecDepth 20000 in
theorem ppart (g nn : Nat) (L : ByteArray → Option VL) (hs : ScopeAt w 0 g nn L) (hL : TextL L) (hI : LeafL L) (ht : TabOK w) (p : PartL) (hp : p.2.size ≤ maxLen) :
    Calls Tryz.prog 146 #[.map (some g), .agg #[.bool p.1, .string p.2]] w (Made (.tuple #[.string (partR L p).1, .int .i64 (partR L p).2]) w) := by
  obtain ⟨pr, pt⟩ := p
  simp only at hp
  have B := Lib.hid (below_al (Below.refl w.heap.size w) (.cells #[.bool pr, .string pt] 63))
  have HS := Lib.hid (preferS _ 0 g nn L (hs.below B.out) pt hp)
  have HT := Lib.hid (ht.below B.out)
  cases pr
  · have E := Lib.hid (show partR L (false, pt) = (pt, 0) from rfl)
    rw [E.out]
    clear hs ht HS
    go_enter Tryz.func146, Tryz.ntmps146
    go_wp2_with fail
    exact bodyPost_ret (v := .tuple #[.string pt, .int .i64 0]) (by simp [results, Tryz.results146, go_sem]) rfl ⟨rfl, B.out⟩
  · cases hl : L pt with
    | none =>
      have E := Lib.hid (show partR L (true, pt) = (⟨#[]⟩, 2) by unfold partR; simp [hl])
      have R := Lib.hid (show refR L pt = (vz, 2) by unfold refR; rw [hl])
      rw [E.out]
      rw [R.out] at HS
      clear hs ht hl
      go_enter Tryz.func146, Tryz.ntmps146
      go_wp2_with fail
      refine HS.out.mono ?_
      rintro e w1 ⟨lv, rfl, ⟨hk, lo, lc, rfl⟩, hb1⟩
      have B1 := Lib.hid (B.out.trans (hb1.mono B.out.size))
      clear hb1
      unfold VL.val
      go_wp2_with fail
      exact bodyPost_ret (v := .tuple #[.string ⟨#[]⟩, .int .i64 2]) (by simp [results, Tryz.results146, go_sem]) rfl ⟨rfl, below_al B1.out _⟩
    | some v =>
      obtain ⟨hk, hsz⟩ := hL pt v hl
      have E := Lib.hid (show partR L (true, pt) = textT v by unfold partR; simp [hl])
      have R := Lib.hid (show refR L pt = (v, 0) by unfold refR; rw [hl])
      have HI := Lib.hid (hI pt v hl).1
      have HK := Lib.hid hk
      rw [E.out]
      rw [R.out] at HS
      clear hs ht hl hk hsz
      go_enter Tryz.func146, Tryz.ntmps146
      go_wp2_with fail
      refine HS.out.mono ?_
      rintro e w1 ⟨lv, rfl, ⟨hk0, lo, lc, rfl⟩, hb1⟩
      have B1 := Lib.hid (B.out.trans (hb1.mono B.out.size))
      have T1 := Lib.hid (HT.out.below hb1)
      clear hb1
      unfold VL.val
      go_wp2_with fail
      refine (vtext _ v lo 0 lc HI.out HK.out (T1.out.below (below_al (Below.refl _ _) _))).mono ?_
      rintro e w2 ⟨rfl, hb2⟩
      go_wp2_with fail
      exact bodyPost_ret (v := .tuple #[.string (textT v).1, .int .i64 (textT v).2]) (by simp [results, Tryz.results146, go_sem]) rfl ⟨rfl, (below_al B1.out _).trans (hb2.mono (below_al B1.out _).size)⟩
/-- Texts of one's own, read. -/
theorem strs_own {w : World} {B : Nat} {v : Value} {xs : List ByteArray} (h : w.ownsRow B 9 1 v xs.length (xs.map .string)) (hl : xs.length ≤ maxLen) : StrsRd w v xs := by
  rcases h.2 with ⟨rfl, h0⟩ | ⟨g, cap, cur, rfl, _, _, hnc, hcm, _⟩
  · obtain rfl : xs = [] := List.eq_nil_of_length_eq_zero h0
    exact ⟨none, 0, rfl, Nat.le_refl _, Nat.zero_le _, fun j x hj => by simp at hj⟩
  · refine ⟨some ⟨g, 0, none⟩, cap, rfl, hnc, hl, fun j x hj => ⟨g, 0, rfl, ?_⟩⟩
    have := World.ownsRow.cells (g := g) h rfl j (.string x) (by simp [hj])
    have ha : (⟨g, 0, none⟩ : Addr).add j = ⟨g, 0 + j, none⟩ := by unfold Addr.add; split <;> simp_all
    rwa [ha] at this
def TxRel (w : World) (D g nn : Nat) (L : ByteArray → Option VL) (ps : List PartL) (m : Nat) (sv iv : Value) (wr : World) : Prop :=
  ∃ (j : Nat) (acc : List ByteArray), iv = .int .i64 j ∧ ps.length - j ≤ m ∧ j ≤ ps.length ∧ acc.length ≤ j ∧ (∀ x ∈ acc, x.size ≤ 10000) ∧ textGo L ps [] = textGo L (ps.drop j) acc ∧ Below w.heap.size w wr ∧ wr.ownsRow (w.heap.size + 1) 9 1 sv acc.length (acc.map .string) ∧ NBlk wr w.heap.size 0 0 ⟨#[]⟩
set_option maxHeartbeats 4000000 in
set_option maxRecDepth 20000 in
theorem ptextS (g nn : Nat) (L : ByteArray → Option VL) (hs : ScopeAt w 0 g nn L) (hL : TextL L) (hI : LeafL L) (ht : TabOK w) (v : Value) (ps : List PartL) (h : PartsRd w v ps) (hl : ps.length ≤ 10000) (hz : ∀ p ∈ ps, p.2.size ≤ 10000) :
    Calls Tryz.prog 122 #[.map (some g), v] w (Told (textGo L ps []) w) := by
  have H := Lib.hid h
  have HS := Lib.hid hs
  have HT := Lib.hid ht
  have HZ := Lib.hid hz
  have TL := Lib.hid hL
  have LL := Lib.hid hI
  obtain ⟨ao, cap, rfl, -⟩ := h.at
  obtain ⟨i0, hi0, hz0, hz1, hz2⟩ := info_parts info_strE
  have R0 := Lib.hid (show TxRel w 0 g nn L ps ps.length (.slice none 0 0) (.int .i64 (0 : Nat)) (w.alloc (.cells #[.int .i64 0, .int .i64 0, .string ⟨#[]⟩, .slice none 0 0] 39)) from
    ⟨0, [], rfl, Nat.le_refl _, Nat.zero_le _, Nat.le_refl _, fun x hx => by (cases hx), rfl, below_al (Below.refl _ _) _, World.ownsRow_nil _ _ _ _, NBlk.new w 0 0 ⟨#[]⟩⟩)
  clear h hs hL hI ht hz
  go_enter Tryz.func122, Tryz.ntmps122
  go_wp2_with fail
  go_loopg [6, 13] ps.length (fun m sv iv wr => TxRel w 0 g nn L ps m sv iv wr)
  case atStart => exact R0.out
  case round =>
    obtain ⟨j, acc, rfl, hm, hj, hal, haz, hgo, hb, ho, hnb⟩ := hrel
    have HM := Lib.hid hm
    have B := Lib.hid hb
    have AZ := Lib.hid haz
    have GO := Lib.hid hgo
    have NB := Lib.hid hnb
    obtain ⟨so, sc, rfl⟩ := own_len ho
    have OW := Lib.hid ho
    by_cases hjl : j < ps.length
    · obtain ⟨p, hp⟩ : ∃ p, ps[j]? = some p := ⟨_, List.getElem?_eq_getElem hjl⟩
      have hmem : p ∈ ps := List.mem_of_getElem? hp
      have PZ := Lib.hid (HZ.out p hmem)
      have HD := Lib.hid (show ps.drop j = p :: ps.drop (j + 1) by
        obtain ⟨h1, h2⟩ := List.getElem?_eq_some_iff.1 hp
        rw [← h2]
        exact List.drop_eq_getElem_cons h1)
      obtain ⟨ao2, cap2, e2, hat⟩ := PartsRd.at (Rds.below H.out hb)
      simp at e2
      obtain ⟨rfl, rfl⟩ := e2
      obtain ⟨g3, o, rfl, c0, c1⟩ := hat j p hp
      have PS := Lib.hid (show (partR L p).1.size ≤ 10000 by
        unfold partR
        by_cases h1 : p.1 = true
        · rw [if_pos h1]
          cases hx : L p.2 with
          | none => exact Nat.zero_le _
          | some u => exact (TL.out _ u hx).2
        · rw [if_neg h1]; exact PZ.out)
      have PP := Lib.hid (ppart (wr.alloc (.cells #[.bool p.1, .string p.2] 63)) g nn L (HS.out.below (below_al hb _)) TL.out LL.out (HT.out.below (below_al hb _)) p (by have := PZ.out; unfold maxLen; omega))
      have BA := Lib.hid (below_al hb (.cells #[.bool p.1, .string p.2] 63))
      have OA := Lib.hid (World.ownsRow.alloc ho (.cells #[.bool p.1, .string p.2] 63))
      have NA := Lib.hid (NBlk.al hnb (.cells #[.bool p.1, .string p.2] 63))
      clear hat hmem hp hm haz hgo hb ho hnb
      go_wp2_with fail
      refine PP.out.mono ?_
      rintro e w1 ⟨rfl, hb1⟩
      have B1 := Lib.hid (BA.out.trans (hb1.mono BA.out.size))
      have O1 := Lib.hid (own_below OA.out hb1)
      have N1 := Lib.hid (NA.out.below hb1)
      clear hb1 PP
      by_cases he : (partR L p).2 = 0
      · have g1 : ((partR L p).2 != 0) = false := by simp [he]
        have GN := Lib.hid (show textGo L ps [] = textGo L (ps.drop (j + 1)) (acc ++ [(partR L p).1]) by rw [GO.out, HD.out, textGo, if_pos he])
        have hbs : w.heap.size + 1 ≤ (w1.alloc (.cells #[.string (partR L p).1] 9)).heap.size := by have := N1.out.lt; simp; omega
        have hsm : acc.length + 1 ≤ maxLen ∧ (acc.length + 1) * 16 ≤ 140737488355328 := by unfold maxLen; omega
        clear he
        generalize (partR L p).1 = tx at *
        go_wp2_with (at_builtin; refine wpList_append_own _ rfl _ _ 133 rfl (w.heap.size + 1) 9 i0 _ 1 16 Tryz.underlying133 hi0 hz0 hz1 hz2 rfl (by decide) (.slice so acc.length sc) acc.length (acc.map .string) rfl (O1.out.alloc _) ⟨w1.heap.size, 0, none⟩ 1 1 [.string tx] rfl rfl (news_new w1 #[.string tx] 9) (by simp [Value.oneCell']) hsm.1 hsm.2 hbs ?_)
        intro v' w6 hown hgrow _
        have hr6 : ∀ k, (Value.slice so acc.length sc).ownBlock = some k → w.heap.size + 1 ≤ k := fun k hk => (World.ownsRow.lt O1.out k hk).1
        have B6 := Lib.hid (Below.grown (below_al B1.out _) hgrow (by omega) (fun k hk => by have := hr6 k hk; omega))
        have N6 := Lib.hid (show NBlk w6 w.heap.size 0 0 ⟨#[]⟩ from (hgrow.block _ (by omega) (fun q => by have := hr6 _ q.symm; omega)).trans (NBlk.al N1.out _))
        have O6 := Lib.hid (show w6.ownsRow (w.heap.size + 1) 9 1 v' (acc ++ [tx]).length ((acc ++ [tx]).map .string) by
          rw [List.length_append, List.map_append]; exact hown)
        clear hown hgrow
        go_wp2_with fail
        go_roundg (ps.length - (j + 1))
        case rel => exact ⟨j + 1, acc ++ [tx], rfl, Nat.le_refl _, hjl, by simp; omega, fun x hx => by
          rcases List.mem_append.1 hx with hx | hx
          · exact AZ.out x hx
          · simp at hx; subst hx; exact PS.out, GN.out, B6.out, O6.out, N6.out⟩
        case measure => have := HM.out; omega
      · have g1 : ((partR L p).2 != 0) = true := by simpa using he
        have GN := Lib.hid (show textGo L ps [] = (vz, (partR L p).2) by rw [GO.out, HD.out, textGo, if_neg he])
        obtain ⟨⟨z0, z1, z2, z3, z4⟩, f0, f1, f2, f3⟩ := N1.out.full
        clear he
        rw [GN.out]
        go_wp2_with fail
        refine bodyPost_ret (v := .tuple #[.agg #[.int .i64 0, .int .i64 0, .string ⟨#[]⟩, .slice none 0 0], .int .i64 (partR L p).2]) ?_ rfl ⟨by rw [GN.out]; rfl, below_set4 B1.out (Nat.le_refl _) _ _ _ _⟩
        simp [results, Tryz.results122, go_sem, z0, z1, z2, z3, z4]
    · have hjz : j = ps.length := by omega
      have GN := Lib.hid (show textGo L ps [] = joinR acc by rw [hgo, hjz, List.drop_length]; rfl)
      have VJ := Lib.hid (vjoin wr _ acc (strs_own ho (by unfold maxLen; omega)) haz (by omega))
      rw [GN.out]
      clear hm haz hgo hb ho hnb
      go_wp2_with fail
      refine VJ.out.mono ?_
      rintro e w1 ⟨rfl, hb1⟩
      obtain ⟨⟨z0, z1, z2, z3, z4⟩, f0, f1, f2, f3⟩ := (NB.out.below hb1).full
      have B1 := Lib.hid (B.out.trans (hb1.mono B.out.size))
      clear hb1
      go_wp2_with fail
      refine bodyPost_ret (v := .tuple #[.agg #[.int .i64 (joinR acc).1.kind, .int .i64 (joinR acc).1.num, .string (joinR acc).1.text, .slice none 0 0], .int .i64 (joinR acc).2]) ?_ rfl ⟨by rw [GN.out], below_set4 B1.out (Nat.le_refl _) _ _ _ _⟩
      simp [results, Tryz.results122, go_sem, z0, z1, z2, z3, z4]
end
end Go.Proofs.YtndeihmclecmcaaGreatDoor
namespace Go.Proofs.YtndeihmclecmcaaGreatDoor
open Go.RowKit
set_option linter.unusedVariables false
set_option linter.unusedSimpArgs false
theorem textGo_kids (L : ByteArray → Option VL) : ∀ (ps : List PartL) (acc : List ByteArray), (textGo L ps acc).1.kids = [] ∧ (textGo L ps acc).1.num = 0 ∧ (textGo L ps acc).1.kind ≠ 4 := by
  intro ps
  induction ps with
  | nil =>
    intro acc
    unfold textGo joinR
    split
    · exact ⟨rfl, rfl, by simp [vstr, VL.kind]⟩
    · exact ⟨rfl, rfl, by simp [vz, VL.kind]⟩
  | cons p ps ih =>
    intro acc
    unfold textGo
    split
    · exact ih _
    · exact ⟨rfl, rfl, by simp [vz, VL.kind]⟩
set_option maxHeartbeats 2000000 in
set_option maxRecDepth 20000 in
theorem made_str (L : ByteArray → Option VL) (hL : TextL L) (hI : LeafL L) (n : NodeL) (vs : List VL) (hk : n.kind = 2) (hl : n.parts.length ≤ 10000) (hz : ∀ p ∈ n.parts, p.2.size ≤ 10000) : MadeOK TabOK L n vs (textGo L n.parts []) := by
  intro w b g nn nv av vv pao kao pcap kcap lv h
  obtain ⟨lao, lcap, rfl⟩ := h.row.shape
  have B := Lib.hid (show Below w.heap.size w ((w.alloc (.cells #[.int .i64 n.kind, .int .i64 n.num, .string n.text, .slice pao n.parts.length pcap, .slice kao n.kids.length kcap] 35)).alloc (.cells #[.int .i64 0, .int .i64 0, .string ⟨#[]⟩, .slice none 0 0] 39)) from below_al (below_al (Below.refl _ _) _) _)
  have SC := Lib.hid (fun V (hV : Below w.heap.size w V) => ptextS V g nn L (h.scope.below hV) hL hI (h.env.below hV) _ n.parts (Rds.below h.parts hV) hl hz)
  have g1 : (n.kind == 1) = false := by rw [hk]; rfl
  have g2 : (n.kind == 2) = true := by simpa using hk
  obtain ⟨b0, -, -, -, b4, -⟩ := h.blk.cells
  have TK := Lib.hid (textGo_kids L n.parts [])
  clear h hk hl hz hL hI
  go_enter Tryz.func97, Tryz.ntmps97
  go_upto_region 5 with fail
  have d0 : ((w.alloc (.cells #[.int .i64 n.kind, .int .i64 n.num, .string n.text, .slice pao n.parts.length pcap, .slice kao n.kids.length kcap] 35)).alloc (.cells #[.int .i64 0, .int .i64 0, .string ⟨#[]⟩, .slice none 0 0] 39)).cell? ⟨b, 0, none⟩ = some (.map (some g)) := hold B.out b0
  have NB := Lib.hid (show NBlk ((w.alloc (.cells #[.int .i64 n.kind, .int .i64 n.num, .string n.text, .slice pao n.parts.length pcap, .slice kao n.kids.length kcap] 35)).alloc (.cells #[.int .i64 0, .int .i64 0, .string ⟨#[]⟩, .slice none 0 0] 39)) (w.heap.size + 1) 0 0 ⟨#[]⟩ from heap_at (by simp))
  generalize textGo L n.parts [] = r at *
  go_region_with (go_at_call 122; refine (SC.out _ (below_drewN B.out _)).mono ?_; rintro e w' ⟨rfl, hb2⟩; obtain ⟨⟨e0, e1, e2, e3, e4⟩, f0, f1, f2, f3⟩ := ((nblk_drewN NB.out _).below hb2).full; have HB := Lib.hid ((below_drewN B.out _).trans (hb2.mono (below_drewN B.out _).size)); clear hb2)
  all_goals (
    have HW := Lib.hid (below_set4 HB.out (g := w.heap.size + 1) (by omega) (.int .i64 r.1.kind) (.int .i64 r.1.num) (.string r.1.text) (.slice none 0 0))
    go_wp2_with fail
    refine bodyPost_ret (v := .tuple #[.agg #[.int .i64 r.1.kind, .int .i64 r.1.num, .string r.1.text, .slice none 0 0], .int .i64 r.2]) ?_ rfl ⟨.slice none 0 0, rfl, ⟨TK.out.1, _, _, rfl⟩, HW.out⟩
    simp [results, Tryz.results97, go_sem, e0, e1, e2, e3, e4, f0, f1, f2, f3])
def strN (ps : List PartL) : List NodeL := [⟨2, 0, ⟨#[]⟩, ps, []⟩]
def madeT (L : ByteArray → Option VL) (n : NodeL) (vs : List VL) : Option (VL × Int) := if n.kind = 2 then some (textGo L n.parts []) else none
theorem strN_tree (ps : List PartL) : treeP (strN ps) = partsP ps := by
  have e : treeP (strN ps) = nodeP ⟨2, 0, ⟨#[]⟩, ps, []⟩ := by
    show (if (0 : Nat) ≤ 0 then (if ([] : List Int) = [] then (if nodeP ⟨2, 0, ⟨#[]⟩, ps, []⟩ then treeGo [] 1 [0] else false) else false) else false) = _
    rw [if_pos (Nat.le_refl _), if_pos rfl]
    cases nodeP ⟨2, 0, ⟨#[]⟩, ps, []⟩ <;> rfl
  rw [e]
  show (kidsP 2 ((([] : List Int).length : Nat) : Int) && numP ⟨2, 0, ⟨#[]⟩, ps, []⟩ && textP ⟨2, 0, ⟨#[]⟩, ps, []⟩ && (((2 : Int) == 2) || (ps.length == 0)) && partsP ps) = _
  have k : kidsP 2 ((([] : List Int).length : Nat) : Int) = true := by decide
  rw [k]
  have t : textP ⟨2, 0, ⟨#[]⟩, ps, []⟩ = true := by
    unfold textP
    rw [if_neg (by show ¬ (2 : Int) = 5; decide), if_neg (by show ¬ (2 : Int) = 4; decide)]
    exact decide_eq_true rfl
  have m : numP ⟨2, 0, ⟨#[]⟩, ps, []⟩ = true := by
    unfold numP
    rw [if_neg (by show ¬ (2 : Int) = 1; decide), if_neg (by show ¬ (2 : Int) = 3; decide)]
    rfl
  rw [t, m]
  simp
theorem strN_few (ps : List PartL) (hl : ps.length ≤ 10000) (hz : ∀ p ∈ ps, p.2.size ≤ 10000) : ∀ n ∈ strN ps, Few n ∧ n.text.size ≤ 100000 ∧ n.kids.length ≤ 100000 := by
  intro n hn
  simp [strN] at hn
  subst hn
  exact ⟨⟨by show ps.length ≤ _; omega, fun p hp => by have := hz p hp; omega⟩, Nat.zero_le _, Nat.zero_le _⟩
theorem strN_walk (ps : List PartL) (hl : ps.length ≤ 10000) (hz : ∀ p ∈ ps, p.2.size ≤ 10000) (L : ByteArray → Option VL) (hL : TextL L) (hI : LeafL L) : Walk TabOK L (strN ps) (madeT L) (textGo L ps []) where
  kids := by
    intro n hn
    simp [strN] at hn
    subst hn
    exact ⟨Nat.zero_le _, fun k hk => by cases hk⟩
  above := ⟨aboveTo_len _ _, fun j hj => by have : j + 1 < 1 := hj; omega⟩
  few := by simp [strN]
  some_ := by simp [strN]
  plain := by
    intro n hn
    simp [strN] at hn
    subst hn
    rfl
  made := by
    intro n hn vs r hr
    simp [strN] at hn
    subst hn
    unfold madeT at hr
    rw [if_pos rfl] at hr
    obtain rfl := Option.some.inj hr
    obtain ⟨h1, h2, h3⟩ := textGo_kids L ps []
    exact ⟨made_str L hL hI _ vs rfl hl hz, by rw [show (textGo L ps []).1.num = 0 from h2]; unfold I64; omega, h1⟩
  ans := by
    show (if (0 : Nat) ≤ 0 then (madeT L ⟨2, 0, ⟨#[]⟩, ps, []⟩ []).bind fun r => if r.2 ≠ 0 ∨ ([] : List NodeL) = [] then some r else evR (madeT L) [] ([] ++ [r.1]) else none) = _
    rw [if_pos (Nat.le_refl _)]
    have e : madeT L ⟨2, 0, ⟨#[]⟩, ps, []⟩ [] = some (textGo L ps []) := by
      unfold madeT
      rw [if_pos rfl]
    rw [e]
    simp
  leaf := (textGo_kids L ps []).2.2
  keep := fun _ _ h hb => h.below hb
end Go.Proofs.YtndeihmclecmcaaGreatDoor
