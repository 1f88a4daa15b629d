/- Package tree: Find, Up, Below, Depth. -/
import Derived.Test.YtekaefeogbmmmaaTrS
namespace Go.Proofs.Ytekaefeogbmmmaa
open Go.RowKit
set_option linter.unusedVariables false
set_option linter.unusedSimpArgs false
theorem upF_take (l : List I12) : ∀ n d s, upF l n s = (upF l (n + d) s).take n
  | 0, d, s => by simp [upF]
  | n + 1, d, s => by
    rw [show n + 1 + d = (n + d) + 1 by omega]
    cases hs : look l s with
    | none => rw [upF_lnone hs, upF_lnone hs]; rfl
    | some x => rw [upF_lsome hs, upF_lsome hs, List.take_succ_cons, ← upF_take l n d x.parent]
theorem up_same {l : List I12} {s : ByteArray} (h : (upI l s).length ≤ l.length) : upF l l.length s = upI l s := by
  unfold upI at *
  rw [upF_take l l.length 1 s, List.take_of_length_le h]
section
variable (w : World)
set_option maxHeartbeats 4000000 in
set_option maxRecDepth 20000 in
theorem pfind (l : List I12) (lv : Value) (h : IRow w l lv) (hl : l.length ≤ 1000) (hs : Srt l) (s : ByteArray) :
    Calls Try.prog 45 #[lv, .string s] w (Made (.int .i64 (findI l s)) w) := by
  have BS := Lib.hid (pbsearch w l lv h hl s)
  obtain ⟨ao, cap, rfl⟩ := h.shape
  cases hk : iIdx l s with
  | none =>
    have R := Lib.hid (show findI l s = -1 by unfold findI; rw [hk])
    have F := found_none hk
    rw [F] at BS
    generalize placeT l s = q at *
    clear h hs hk F
    go_enter Try.func45, Try.ntmps45
    go_wp2_with fail
    with_reducible refine BS.out.mono ?_
    rintro e w1 ⟨rfl, hb⟩
    have B1 := Lib.hid hb
    clear hb
    go_wp2_with fail
    go_ret
    exact ⟨by rw [R.out]; rfl, B1.out⟩
  | some k =>
    have R := Lib.hid (show findI l s = (k : Int) by unfold findI; rw [hk])
    obtain ⟨F1, F2⟩ := found_some hs hk
    rw [F1, F2] at BS
    clear h hs hk F1 F2
    go_enter Try.func45, Try.ntmps45
    go_wp2_with fail
    with_reducible refine BS.out.mono ?_
    rintro e w1 ⟨rfl, hb⟩
    have B1 := Lib.hid hb
    clear hb
    go_wp2_with fail
    go_ret
    exact ⟨by rw [R.out]; rfl, B1.out⟩
set_option maxHeartbeats 4000000 in
set_option maxRecDepth 20000 in
theorem pFind (l : List I12) (lv : Value) (h : IRow w l lv) (hl : l.length ≤ 1000) (hs : Srt l) (s : ByteArray) :
    Calls Try.prog 40 #[lv, .string s] w (Made (.int .i64 (findI l s)) w) := by
  have PF := Lib.hid (pfind w l lv h hl hs s)
  obtain ⟨ao, cap, rfl⟩ := h.shape
  clear h hs
  go_enter Try.func40, Try.ntmps40
  go_wp2_with fail
  with_reducible refine PF.out.mono ?_
  rintro e w1 ⟨rfl, hb⟩
  have B1 := Lib.hid hb
  clear hb
  go_wp2_with fail
  go_ret
  exact ⟨rfl, B1.out⟩
set_option maxHeartbeats 4000000 in
set_option maxRecDepth 20000 in
theorem pup (l : List I12) (lv : Value) (h : IRow w l lv) (hl : l.length ≤ 1000) (hs : Srt l) (s : ByteArray) :
    Calls Try.prog 44 #[lv, .string s] w (MadeStrs (upF l l.length s) w) := by
  have RF := Lib.hid (fun W (hW : Below w.heap.size w W) s => pfind W l lv (h.below hW) hl hs s)
  obtain ⟨i0, hi0, hz0, hz1, hz2⟩ := info_partsT info_str
  obtain ⟨ao, cap, rfl, h1, h2, hat⟩ := h
  have HAT := Lib.hid hat
  clear hat h1 h2 hs
  go_enter Try.func44, Try.ntmps44
  go_wp2_with fail
  with_reducible refine (RF.out w (Below.refl _ _) s).mono ?_
  rintro e w1 ⟨rfl, hb1⟩
  have B0 := Lib.hid hb1
  clear hb1
  go_wp2_with fail
  go_loopg [5, 6] l.length (fun m ov kv wr => ∃ (out : List ByteArray) (t : ByteArray), kv = .int .i64 (findI l t) ∧ out.length ≤ l.length ∧ l.length - out.length ≤ m ∧ Below w.heap.size w wr ∧ StrsO wr w.heap.size ov out ∧ Hid (upF l l.length s = out ++ upF l (l.length - out.length) t))
  case atStart => exact ⟨[], s, rfl, Nat.zero_le _, Nat.le_refl _, B0.out, (own_none _ _ _ _ : World.ownsRow _ _ _ _ _ _ _), Lib.hid rfl⟩
  case round =>
    obtain ⟨out, t, rfl, hol, hm, hb, ho, UP⟩ := hrel
    have HM := Lib.hid hm
    have BR := Lib.hid hb
    have OO := Lib.hid ho
    obtain ⟨oo, oc, rfl⟩ := ho.shape
    clear hm hb ho
    cases hk : iIdx l t with
    | none =>
      have E := Lib.hid (show findI l t = -1 by unfold findI; rw [hk])
      have R := Lib.hid (show upF l l.length s = out by rw [UP.out, upF_none hk, List.append_nil])
      rw [E.out]
      clear hk UP
      go_wp2_with fail
      go_ret
      exact ⟨_, rfl, BR.out, by rw [R.out]; exact OO.out⟩
    | some k =>
      have E := Lib.hid (show findI l t = (k : Int) by unfold findI; rw [hk])
      obtain ⟨x, hx, -⟩ := iIdx_spec hk
      have hkl := iIdx_lt hk
      have KK := Lib.hid hk
      have HX := Lib.hid hx
      obtain ⟨g, o, rfl, hcu⟩ := HAT.out k x hx
      have c0 := hold BR.out hcu.c0
      have c1 := hold BR.out hcu.c1
      have kp : (0 : Int) ≤ (k : Int) := by omega
      rw [E.out]
      clear hk hx hcu
      by_cases hfull : out.length = l.length
      · have R := Lib.hid (show upF l l.length s = out by rw [UP.out, hfull, Nat.sub_self]; unfold upF; rw [List.append_nil])
        have HF := Lib.hid hfull
        have gf : ¬ out.length < l.length := by omega
        have gf2 : ¬ (out.length : Int) < (l.length : Int) := by omega
        have gf3 : (l.length : Int) ≤ (out.length : Int) := by omega
        have gl : out.length ≤ 1001 := by omega
        clear UP hfull
        go_wp2_with fail
        go_ret
        exact ⟨.slice oo out.length oc, rfl, BR.out, by rw [R.out]; exact OO.out⟩
      · have hlt : out.length < l.length := by omega
        have gf : (out.length : Int) < (l.length : Int) := by omega
        have NU := Lib.hid (show upF l l.length s = (out ++ [x.name]) ++ upF l (l.length - (out ++ [x.name]).length) x.parent from by
          rw [UP.out, show l.length - out.length = (l.length - out.length - 1) + 1 by omega, upF_some KK.out HX.out, List.append_assoc, List.length_append, List.length_singleton]
          congr 3)
        have BX := Lib.hid (below_al (Below.refl wr.heap.size wr) (.cells #[.string x.name] 9))
        have O1 := Lib.hid (show (wr.alloc (.cells #[.string x.name] 9)).ownsRow w.heap.size 9 1 (.slice oo out.length oc) out.length (strC out) from World.ownsRow.alloc OO.out _)
        have B1 := Lib.hid (below_tr BR.out BX.out)
        have LOW := Lib.hid (show ∀ q, (Value.slice oo out.length oc).ownBlock = some q → w.heap.size ≤ q from fun q hq => (World.ownsRow.lt OO.out q hq).1)
        have SZ := Lib.hid BR.out.size
        clear UP
        go_wp2_with (first
          | (at_builtin; refine wpList_append_lies _ rfl _ _ 48 rfl w.heap.size 9 i0 (.string ⟨#[]⟩) 1 16 Try.underlying48 hi0 hz0 hz1 hz2 rfl (by decide) (.slice oo out.length oc) out.length (strC out) rfl O1.out ⟨wr.heap.size, 0, none⟩ 1 1 [.string x.name] rfl rfl (news_str wr x.name) (by simp [Value.oneCell']) (by decide) (by unfold maxLen; omega) (by omega) B1.out.size _ rfl ?_; intro gg cc w6 hown6 hgrow6 hat6 hlt6; have c16 := grow_cellT hgrow6 (hold BX.out c1) (fun e => by have h7 := LOW.out g e; have h8 := World.block_lt_of_cell? _ _ (HAT.out k x HX.out |> fun ⟨_, _, e2, h9⟩ => by cases e2; exact h9.c0); simp only at h8; omega)))
        have B6 := Lib.hid (below_grown' B1.out hgrow6 LOW.out)
        have O6 := Lib.hid (show StrsO w6 w.heap.size (.slice (some ⟨gg, 0, none⟩) (out.length + 1) cc) (out ++ [x.name]) from by
          unfold StrsO
          rw [List.length_append, strC_app]; exact hown6)
        have FP := Lib.hid (RF.out w6 B6.out x.parent)
        clear hown6 hgrow6 hat6 hlt6
        with_reducible refine FP.out.mono ?_
        rintro e w7 ⟨rfl, h7⟩
        have B7 := Lib.hid (below_tr B6.out h7)
        have O7 := Lib.hid (O6.out.below h7)
        clear h7
        go_wp2_with fail
        go_roundg (l.length - (out.length + 1))
        case rel => exact ⟨out ++ [x.name], x.parent, rfl, by rw [List.length_append]; simp; omega, by rw [List.length_append]; exact Nat.le_refl _, B7.out, O7.out, NU⟩
        case measure => have := HM.out; omega
end
end Go.Proofs.Ytekaefeogbmmmaa
