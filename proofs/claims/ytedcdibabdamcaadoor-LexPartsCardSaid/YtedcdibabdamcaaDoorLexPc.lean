/- The law of parts, walked (UNDER WAY: three of the four ways of x and y, and what follows the appends, are not yet walked). -/
import Derived.Test.YtedcdibabdamcaaDoorLexPb
import Derived.Deep.DeepCutAuto
import Derived.Deep.RegionWith
import Derived.StillTailTactics
namespace Go.Proofs.YtedcdibabdamcaaDoor
open Go.RowKit
set_option linter.unusedVariables false
set_option linter.unusedSimpArgs false

theorem sel (ss : List ByteArray) (i : Nat) (hi : i < ss.length) : ∃ x, x ∈ ss ∧ (∀ h : i < (ss.map Value.string).length, (ss.map Value.string)[i]'h = .string x) ∧ ∀ W : World, (W.alloc (.cells (ss.map Value.string).toArray 9)).cell? ⟨W.heap.size, i, none⟩ = some (.string x) := by
  refine ⟨ss[i], List.getElem_mem hi, fun h => List.getElem_map _, fun W => ?_⟩
  have h := news_new W (ss.map Value.string).toArray 9 i (.string ss[i]) (by simp [hi])
  have hadd : (⟨W.heap.size, 0, none⟩ : Addr).add i = ⟨W.heap.size, i, none⟩ := by unfold Addr.add; split <;> simp_all
  rw [← hadd]; exact h
theorem want_step {w2 wr w5 : World} {pv v' : Value} {ps : List PartL} {O : Obj} (p : PartL) (H : Below w2.heap.size w2 wr) (P : PartsOwn wr w2.heap.size pv ps)
    (hown : w5.ownsRow w2.heap.size 40 2 v' (ps.length + 1) (partCells ps ++ [.bool p.1, .string p.2])) (G : (wr.alloc O).grownBy w5 pv.ownBlock) :
    Below w2.heap.size w2 w5 ∧ PartsOwn w5 w2.heap.size v' (ps ++ [p]) := by
  have hg := grown_trans (World.grownBy_alloc wr O pv.ownBlock) G
  exact ⟨Below.grown H hg H.size (fun k hk => (World.ownsRow.lt P k hk).1), by unfold PartsOwn; rw [partCells_snoc, List.length_append]; exact hown⟩
theorem slice_to {P : Program} (t : TypeId) (s : ByteArray) (K : Nat) (hu : P.underlying t = some .string) (h : K ≤ s.size) (W : World) :
    (Instr.slice t (.string s) none (some (.int .i64 (K : Int))) none).run P W = .ok (.string (s.extract 0 K)) W := by
  have hj : (0:Int) ≤ K ∧ (K:Int) ≤ (s.size : Int) := ⟨by omega, by omega⟩
  simp [Instr.slice, Instr.sliceBounds, Instr.sliceBound, asIntOf, run_underlying hu, hj]
  try (intro hc; omega)
theorem slice_from {P : Program} (t : TypeId) (s : ByteArray) (K : Nat) (hu : P.underlying t = some .string) (h : K ≤ s.size) (W : World) :
    (Instr.slice t (.string s) (some (.int .i64 (K : Int))) none none).run P W = .ok (.string (s.extract K s.size)) W := by
  have hj : (0:Int) ≤ K ∧ (K:Int) ≤ (s.size : Int) := ⟨by omega, by omega⟩
  simp [Instr.slice, Instr.sliceBounds, Instr.sliceBound, asIntOf, run_underlying hu, hj]
  try (intro hc; omega)
theorem size_ne {x : ByteArray} (h : x ≠ ⟨#[]⟩) : ¬ x.size = 0 := fun e => h (ByteArray.ext (Array.size_eq_zero_iff.1 e))
theorem str_empty {x : ByteArray} (h : x ≠ ⟨#[]⟩) : x.toList.isEmpty = false := by
  rw [ByteArray.toList_eq]; simp; intro e; exact h (by apply ByteArray.ext; simpa using e)
section
variable (w : World)
set_option maxHeartbeats 4000000 in
set_option maxRecDepth 20000 in
theorem law_parts (a b c : Nat) (ha : a < 256) (hb : b < 256) (hc : c < 256) (hv : ErrVar w) : Calls Tryd.prog 7 #[.int .u8 a, .int .u8 b, .int .u8 c] w (Made (.bool true) w) := by
  have V := Lib.hid hv
  clear hv
  obtain ⟨x, hx, lx, fx⟩ := sel pxs (a % 3) (by show a % 3 < 3; omega)
  obtain ⟨y, hy, ly, fy⟩ := sel pys (b % 3) (by show b % 3 < 3; omega)
  obtain ⟨r, hr, -, fr⟩ := sel prs (a / 3 % 4) (by show a / 3 % 4 < 4; omega)
  have ma : a % 3 < 3 := by omega
  have mb : b % 3 < 3 := by omega
  have mr : a / 3 % 4 < 4 := by omega
  have HX := Lib.hid hx
  have HY := Lib.hid hy
  have HR := Lib.hid hr
  clear hx hy hr
  have fx : ∀ W : World, (W.alloc (.cells #[.string ⟨#[]⟩, .string ⟨#[112]⟩, .string ⟨#[113, 32, 114]⟩] 9)).cell? ⟨W.heap.size, a % 3, none⟩ = some (.string x) := fx
  have fy : ∀ W : World, (W.alloc (.cells #[.string ⟨#[]⟩, .string ⟨#[115]⟩, .string ⟨#[116, 36]⟩] 9)).cell? ⟨W.heap.size, b % 3, none⟩ = some (.string y) := fy
  have fr : ∀ W : World, (W.alloc (.cells #[.string ⟨#[118, 97, 114, 46, 120]⟩, .string ⟨#[108, 111, 99, 97, 108, 46, 108, 111, 110, 103, 95, 110, 97, 109, 101, 49]⟩, .string ⟨#[99, 111, 117, 110, 116, 46, 105, 110, 100, 101, 120]⟩, .string ⟨#[95, 46, 97]⟩] 9)).cell? ⟨W.heap.size, a / 3 % 4, none⟩ = some (.string r) := fr
  have f1 : (w.drew.alloc (.cells #[.string ⟨#[]⟩, .string ⟨#[112]⟩, .string ⟨#[113, 32, 114]⟩] 9)).cell? ⟨w.heap.size, a % 3, none⟩ = some (.string x) := fx w.drew
  have f2 : ((w.drew.alloc (.cells #[.string ⟨#[]⟩, .string ⟨#[115]⟩, .string ⟨#[116, 36]⟩] 9)).alloc (.cells #[.string ⟨#[]⟩, .string ⟨#[112]⟩, .string ⟨#[113, 32, 114]⟩] 9)).cell? ⟨w.heap.size + 1, a % 3, none⟩ = some (.string x) := by
    have h := fx (w.drew.alloc (.cells #[.string ⟨#[]⟩, .string ⟨#[115]⟩, .string ⟨#[116, 36]⟩] 9))
    rw [show (w.drew.alloc (.cells #[.string ⟨#[]⟩, .string ⟨#[115]⟩, .string ⟨#[116, 36]⟩] 9)).heap.size = w.heap.size + 1 by simp] at h
    exact h
  have g1 : (w.drew.alloc (.cells #[.string ⟨#[]⟩, .string ⟨#[115]⟩, .string ⟨#[116, 36]⟩] 9)).cell? ⟨w.heap.size, b % 3, none⟩ = some (.string y) := fy w.drew
  have g2 : ((w.drew.alloc (.cells #[.string ⟨#[]⟩, .string ⟨#[112]⟩, .string ⟨#[113, 32, 114]⟩] 9)).alloc (.cells #[.string ⟨#[]⟩, .string ⟨#[115]⟩, .string ⟨#[116, 36]⟩] 9)).cell? ⟨w.heap.size + 1, b % 3, none⟩ = some (.string y) := by
    have h := fy (w.drew.alloc (.cells #[.string ⟨#[]⟩, .string ⟨#[112]⟩, .string ⟨#[113, 32, 114]⟩] 9))
    rw [show (w.drew.alloc (.cells #[.string ⟨#[]⟩, .string ⟨#[112]⟩, .string ⟨#[113, 32, 114]⟩] 9)).heap.size = w.heap.size + 1 by simp] at h
    exact h
  clear fx fy
  have sx : x.size ≤ 3 := by have h := HX.out; simp [pxs] at h; rcases h with rfl | rfl | rfl <;> decide
  have sy : y.size ≤ 3 := by have h := HY.out; simp [pys] at h; rcases h with rfl | rfl | rfl <;> decide
  have sr : 0 < r.size ∧ r.size ≤ 16 := by have h := HR.out; simp [prs] at h; rcases h with rfl | rfl | rfl | rfl <;> decide
  obtain ⟨sr0, sr1⟩ := sr
  have z1 : (⟨#[34]⟩ : ByteArray).size = 1 := rfl
  have z2 : (⟨#[36, 123]⟩ : ByteArray).size = 2 := rfl
  have z3 : (⟨#[125]⟩ : ByteArray).size = 1 := rfl
  have z4 : (⟨#[32]⟩ : ByteArray).size = 1 := rfl
  go_enter Tryd.func7, Tryd.ntmps7
  go_wp2_with fail
  go_cut [7, 8] (fun sx sy wx => sx = .string x ∧ sy = .string y ∧ Below w.heap.size w wx)
  case first =>
    have LX := Lib.hid lx
    have LY := Lib.hid ly
    clear lx ly f1 f2 g1 g2 fr
    go_region
    all_goals go_wp2
    all_goals go_meet
    all_goals (case rel => exact ⟨LX.out _, LY.out _, by first | exact ((below_drew (Below.refl _ _)).alloc (Nat.le_refl _) _).alloc (by simp) _ | exact (((Below.refl _ w).drew').alloc (by simp) _).alloc (by simp) _⟩)
  case rest =>
    obtain ⟨rfl, rfl, hb1⟩ := hcut
    have B1 := Lib.hid hb1
    clear hb1 f1 f2 g1 g2 lx ly
    obtain ⟨h1, ⟨t, u, h2, h2p⟩, h3, h4⟩ := parts_lex HX.out HY.out HR.out
    have E1 := Lib.hid h1
    have T1 := Lib.hid h2
    have TP := Lib.hid h2p
    have E3 := Lib.hid h3
    have E4 := Lib.hid h4
    have SZ := Lib.hid (show (ptext x y r).size ≤ 40 by simp only [ptext, q1, ByteArray.size_append]; omega)
    have PT := Lib.hid (show ptext x y r = ⟨#[34]⟩ ++ x ++ ⟨#[36, 123]⟩ ++ r ++ ⟨#[125]⟩ ++ y ++ ⟨#[34]⟩ from rfl)
    clear h1 h2 h2p h3 h4
    go_wp2_with fail
    clear fr
    rw [← PT.out]
    have B2 := Lib.hid (show Below w.heap.size w (wc.alloc (.cells #[.string ⟨#[118, 97, 114, 46, 120]⟩, .string ⟨#[108, 111, 99, 97, 108, 46, 108, 111, 110, 103, 95, 110, 97, 109, 101, 49]⟩, .string ⟨#[99, 111, 117, 110, 116, 46, 105, 110, 100, 101, 120]⟩, .string ⟨#[95, 46, 97]⟩] 9)) from B1.out.alloc B1.out.size _)
    refine (lex_rd (ptext x y r) _ (by have := SZ.out; unfold maxLen; omega) (V.out.below B2.out V.out.lt)).mono ?_
    rw [LexRdPost.eq_def', E1.out, T1.out]
    rintro e w2 ⟨v, rfl, hb2, ht2⟩
    obtain ⟨g, o, cap, rfl, hcl⟩ := ht2.cell (by simp)
    obtain ⟨pv, c0, c1, c2, c3, c4, c5⟩ := hcl 0 (by simp)
    have B3 := Lib.hid (B2.out.trans (hb2.mono B2.out.size))
    have PR := Lib.hid c5
    simp at c3
    have C3 := Lib.hid c3
    clear hb2 ht2 hcl c5 c0 c1 c2 c4 c3
    go_wp2_with fail
    refine (num_any _ 0 (by omega) (by omega)).mono ?_
    rintro e w6 ⟨rfl, rfl⟩
    generalize hpt : ptext x y r = pt at *
    obtain ⟨i0, hi0, hz0, hz1, hz2⟩ := info_parts info_part
    obtain ⟨j, hj1, hj2⟩ : ∃ j : Nat, (c : Int) % (r.size : Int) = (j : Nat) ∧ j < r.size := ⟨c % r.size, by omega, Nat.mod_lt _ sr0⟩
    have hps : pt.size = x.size + r.size + y.size + 5 := by
      rw [← hpt]; simp only [ptext, q1, ByteArray.size_append]; omega
    have hk : x.size + 3 + j ≤ pt.size := by omega
    have hs40 : pt.size ≤ 40 := by omega
    have e1 : (pt.extract 0 (x.size + 3 + j)).size ≤ 40 := by simp [ByteArray.size_extract]; omega
    have e2 : (pt.extract (x.size + 3 + j) pt.size).size ≤ 40 := by simp [ByteArray.size_extract]; omega
    have E5 := Lib.hid (show lexE (pt.extract 0 (x.size + 3 + j) ++ ⟨#[32]⟩ ++ pt.extract (x.size + 3 + j) pt.size) = 5 by
      rw [← hpt]; exact E4.out j hj2)
    have S5 := Lib.hid (show (pt.extract 0 (x.size + 3 + j) ++ ⟨#[32]⟩ ++ pt.extract (x.size + 3 + j) pt.size).size ≤ maxLen by
      simp only [ByteArray.size_append]; unfold maxLen; omega)
    have E6 := Lib.hid (show lexE (⟨#[34]⟩ ++ x ++ ⟨#[36, 123]⟩ ++ r ++ y ++ ⟨#[34]⟩) = 5 from E3.out)
    have S6 := Lib.hid (show (⟨#[34]⟩ ++ x ++ ⟨#[36, 123]⟩ ++ r ++ y ++ ⟨#[34]⟩ : ByteArray).size ≤ maxLen by
      simp only [ByteArray.size_append]; unfold maxLen; omega)
    clear E3 E4 PT hpt E1 T1
    generalize hwx : (if x.size = 0 then ([] : List PartL) else [(false, x)]) = XW at *
    generalize hwy : (if y.size = 0 then ([] : List PartL) else [(false, y)]) = YW at *
    have HW := Lib.hid (show t.parts = XW ++ [(true, r)] ++ YW by rw [TP.out]; unfold pwant; rw [hwx, hwy])
    have HWX := Lib.hid hwx
    have HWY := Lib.hid hwy
    clear hwx hwy TP
    have LW := Lib.hid (show XW.length ≤ 1 by rw [← HWX.out]; split <;> simp)
    have LY := Lib.hid (show YW.length ≤ 1 by rw [← HWY.out]; split <;> simp)
    go_upto_if 58 with fail
    go_cut [13] (fun s13 wx => ∃ v, s13 = v ∧ Below w2.heap.size w2 wx ∧ PartsOwn wx w2.heap.size v XW)
    case first =>
      by_cases hx0 : x = ⟨#[]⟩
      · have ex : (!x.toList.isEmpty) = false := by rw [hx0, ByteArray.toList_eq]; rfl
        have N0 := Lib.hid (show PartsOwn w2 w2.heap.size (.slice none 0 0) XW by rw [← HWX.out, if_pos (by rw [hx0]; rfl)]; exact World.ownsRow_nil _ _ _ _)
        clear hx0
        go_upto_region 9 with fail
        all_goals rename_i hh
        all_goals (first | exact absurd (hh.symm.trans ex) (by decide) | skip)
        go_meet
        case rel => exact ⟨_, rfl, Below.refl _ _, N0.out⟩
      · have ex : (!x.toList.isEmpty) = true := by rw [str_empty hx0]; rfl
        go_upto_region 9 with fail
        all_goals rename_i hh
        all_goals (first | exact absurd (hh.symm.trans ex) (by decide) | skip)
        have P0 := Lib.hid (show PartsOwn w2 w2.heap.size (.slice none 0 0) [] from World.ownsRow_nil _ _ _ _)
        have K0 := Lib.hid (Below.refl w2.heap.size w2)
        go_wp2_with (at_builtin; refine wpList_append_own _ rfl _ _ 34 rfl w2.heap.size 40 i0 _ 2 24 Tryd.underlying34 hi0 hz0 hz1 hz2 rfl (by decide) (.slice none 0 0) ([] : List PartL).length (partCells ([] : List PartL)) rfl (World.ownsRow.alloc P0.out _) ⟨w2.heap.size, 0, none⟩ 1 1 [.bool false, .string x] rfl rfl ?a0 ?b0 ?c0 ?d0 ?e0 ?_)
        try case a0 => exact news_new w2 #[.bool false, .string x] 40
        try case b0 => simp [Value.oneCell']
        try case c0 => simp [maxLen]
        try case d0 => simp
        try case e0 => have := K0.out.size; first | (simp; done) | (simp; omega)
        intro v1 wq1 hown0 hgrow0 _
        have hst0 := want_step (false, x) K0.out P0.out hown0 hgrow0
        have K1 := Lib.hid hst0.1
        have P1 := Lib.hid (show PartsOwn wq1 w2.heap.size v1 XW by rw [← HWX.out, if_neg (size_ne hx0)]; exact hst0.2)
        clear hown0 hgrow0 hst0
        go_wp2_with fail
        go_meet
        case rel => exact ⟨_, rfl, K1.out, P1.out⟩
    case rest =>
      obtain ⟨v1, hv1, k1, p1⟩ := hcut
      have hv1' := hv1.symm
      subst hv1'
      have K1 := Lib.hid k1
      have P1 := Lib.hid p1
      clear k1 p1 hv1
      generalize wc = wq1 at *
      go_wp2_with (at_builtin; refine wpList_append_own _ rfl _ _ 34 rfl w2.heap.size 40 i0 _ 2 24 Tryd.underlying34 hi0 hz0 hz1 hz2 rfl (by decide) v1 (XW).length (partCells (XW)) rfl (World.ownsRow.alloc P1.out _) ⟨wq1.heap.size, 0, none⟩ 1 1 [.bool true, .string r] rfl rfl ?a1 ?b1 ?c1 ?d1 ?e1 ?_)
      try case a1 => exact news_new wq1 #[.bool true, .string r] 40
      try case b1 => simp [Value.oneCell']
      try case c1 => have := LW.out; unfold maxLen; omega
      try case d1 => have := LW.out; omega
      try case e1 => have := K1.out.size; first | (simp; done) | (simp; omega)
      intro v2 wq2 hown1 hgrow1 _
      have hst1 := want_step (true, r) K1.out P1.out hown1 hgrow1
      have K2 := Lib.hid hst1.1
      have P2 := Lib.hid hst1.2
      have LW2 := Lib.hid (show (XW ++ [(true, r)]).length ≤ 2 by have := LW.out; simp; omega)
      clear hown1 hgrow1 hst1
      generalize hxw : XW ++ [(true, r)] = XR at *
      go_upto_if 70 with fail
      go_cut [13] (fun s13 wx => ∃ v, s13 = v ∧ Below w2.heap.size w2 wx ∧ PartsOwn wx w2.heap.size v (XR ++ YW))
      case first =>
        by_cases hy0 : y = ⟨#[]⟩
        · have ey : (!y.toList.isEmpty) = false := by rw [hy0, ByteArray.toList_eq]; rfl
          have N0 := Lib.hid (show PartsOwn wq2 w2.heap.size v2 (XR ++ YW) by rw [← HWY.out, if_pos (by rw [hy0]; rfl), List.append_nil]; exact P2.out)
          clear hy0
          go_upto_region 12 with fail
          all_goals rename_i hh
          all_goals (first | exact absurd (hh.symm.trans ey) (by decide) | skip)
          go_meet
          case rel => exact ⟨_, rfl, K2.out, N0.out⟩
        · have ey : (!y.toList.isEmpty) = true := by rw [str_empty hy0]; rfl
          go_upto_region 12 with fail
          all_goals rename_i hh
          all_goals (first | exact absurd (hh.symm.trans ey) (by decide) | skip)
          go_wp2_with (at_builtin; refine wpList_append_own _ rfl _ _ 34 rfl w2.heap.size 40 i0 _ 2 24 Tryd.underlying34 hi0 hz0 hz1 hz2 rfl (by decide) v2 (XR).length (partCells (XR)) rfl (World.ownsRow.alloc P2.out _) ⟨wq2.heap.size, 0, none⟩ 1 1 [.bool false, .string y] rfl rfl ?a2 ?b2 ?c2 ?d2 ?e2 ?_)
          try case a2 => exact news_new wq2 #[.bool false, .string y] 40
          try case b2 => simp [Value.oneCell']
          try case c2 => have := LW2.out; unfold maxLen; omega
          try case d2 => have := LW2.out; omega
          try case e2 => have := K2.out.size; first | (simp; done) | (simp; omega)
          intro v3 wq3 hown2 hgrow2 _
          have hst2 := want_step (false, y) K2.out P2.out hown2 hgrow2
          have K3 := Lib.hid hst2.1
          have P3 := Lib.hid (show PartsOwn wq3 w2.heap.size v3 (XR ++ YW) by rw [← HWY.out, if_neg (size_ne hy0)]; exact hst2.2)
          clear hown2 hgrow2 hst2
          go_wp2_with fail
          go_meet
          case rel => exact ⟨_, rfl, K3.out, P3.out⟩
      case rest =>
        obtain ⟨vz, hv2, k2, p2⟩ := hcut
        have hv2' := hv2.symm
        subst hv2'
        have KW := Lib.hid k2
        have PW := Lib.hid (show PartsOwn wc w2.heap.size vz t.parts by rw [HW.out]; exact p2)
        have HP := Lib.hid HW.out
        clear k2 p2 hv2 K1 K2 P1 P2 HWX HWY HW
        generalize wc = wz at *
        have C4 := Lib.hid ((KW.out.cell (p := ⟨g, o + 3, none⟩) (World.block_lt_of_cell? w2 _ C3.out)).trans C3.out)
        have PR4 := Lib.hid (Rds.below PR.out KW.out)
        have PW4 := Lib.hid (Rds.of_own PW.out)
        have B4 := Lib.hid (B3.out.trans (KW.out.mono B3.out.size))
        have hjc : (x.size : Int) + 3 + (j : Int) = ((x.size + 3 + j : Nat) : Int) := by simp
        generalize hKK : x.size + 3 + j = K at *
        have KK := Lib.hid hKK
        clear hKK
        go_upto_region 14 with fail
        have sl1 := fun W => slice_to (P := Tryd.prog) 9 pt K Tryd.underlying9 hk W
        have sl2 := fun W => slice_from (P := Tryd.prog) 9 pt K Tryd.underlying9 hk W
        clear hps hk
        generalize pt.extract 0 K = P1 at *
        generalize pt.extract K pt.size = P2 at *
        have m1 : ¬ 9223372036854775807 < P1.size + 1 := by omega
        have m2 : ¬ 9223372036854775807 < P1.size + 1 + P2.size := by omega
        go_cut [15, 16] (fun s15 s16 wx => s16 = .int .i64 5 ∧ Below wz.heap.size wz wx)
        case first =>
          clear PR4 PW4 C4 E6 S6 KK LW LW2 LY
          go_region_with (first | (go_at_call 10; refine (lex_rd _ _ ?_ ?_).mono ?_; exact S5.out; exact V.out.below (below_drewN B4.out _) V.out.lt; rw [LexRdPost.eq_def', E5.out]; rintro e w' ⟨v, rfl, hb, -⟩; have HBL := Lib.hid (below_drewL hb); clear hb))
          all_goals go_wp2
          all_goals go_meet
          all_goals (case rel => exact ⟨rfl, HBL.out⟩)
        case rest =>
          obtain ⟨rfl, hb5⟩ := hcut
          clear sl1 sl2 m1 m2
          have C5 := Lib.hid ((hb5.cell (p := ⟨g, o + 3, none⟩) (World.block_lt_of_cell? wz _ C4.out)).trans C4.out)
          have PR5 := Lib.hid (Rds.below PR4.out hb5)
          have PW5 := Lib.hid (Rds.below PW4.out hb5)
          have B5 := Lib.hid (B4.out.trans (hb5.mono B4.out.size))
          clear hb5
          generalize wc = wa at *
          go_wp2_with fail
          refine (lex_rd _ _ S6.out (V.out.below B5.out V.out.lt)).mono ?_
          rw [LexRdPost.eq_def', E6.out]
          rintro e wb ⟨v, rfl, hb6, -⟩
          have C6 := Lib.hid ((hb6.cell (p := ⟨g, o + 3, none⟩) (World.block_lt_of_cell? wa _ C5.out)).trans C5.out)
          have PR6 := Lib.hid (Rds.below PR5.out hb6)
          have PW6 := Lib.hid (Rds.below PW5.out hb6)
          have B6 := Lib.hid (B5.out.trans (hb6.mono B5.out.size))
          clear hb6
          go_upto_region 16 with fail
          have LP := Lib.hid (show t.parts.length ≤ 9000 by rw [HP.out]; simp; have := LW2.out; have := LY.out; omega)
          have c6 := C6.out
          have PR6 := Lib.hid (show PartsRd wb pv t.parts from PR6.out)
          generalize t.parts = TP at *
          go_wp2_with fail
          refine (sameParts_any _ _ _ TP PR6.out PW6.out LP.out).mono ?_
          rintro e w7 ⟨rfl, n, rfl⟩
          go_wp2_with fail
          refine (num_any _ _ (by omega) (by omega)).mono ?_
          rintro e w8 ⟨rfl, rfl⟩
          go_wp2_with fail
          refine (num_any _ _ (by omega) (by omega)).mono ?_
          rintro e w9 ⟨rfl, rfl⟩
          go_wp2_with fail
          refine (awake_any _ (V.out.below (below_drewN B6.out n) V.out.lt)).mono ?_
          rintro e w10 ⟨rfl, hb⟩
          have HB := Lib.hid ((below_drewN B6.out n).trans (hb.mono (below_drewN B6.out n).size))
          clear hb
          go_wp2_with fail
          go_ret
          exact ⟨rfl, HB.out⟩
end
end Go.Proofs.YtedcdibabdamcaaDoor
