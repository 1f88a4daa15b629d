/- Trees that change: the document's Do; walked. -/
import Derived.Test.YtmpakgabehplbaaShE
import Derived.Test.YtmpakgabehplbaaStB
import Derived.Test.YtmpakgabehplbaaTrJ
namespace Go.Proofs.Ytmpakgabehplbaa
open Go.RowKit
set_option linter.unusedVariables false
set_option linter.unusedSimpArgs false
def doE (l : List I12) (st : St6) (ver : Int) : Nat := if st.kind = 1 then createE l st.name st.par st.lim else if st.kind = 2 then limE l st.name st.lim ver else if st.kind = 3 then movE l st.name st.par ver else if st.kind = 4 then delE l st.name ver else 1
def doL (l : List I12) (st : St6) : List I12 := if st.kind = 1 then createL l st.name st.par st.lim else if st.kind = 2 then limL l st.name st.lim else if st.kind = 3 then movL l st.name st.par else delL l st.name
theorem do_ok {l : List I12} (h : RT l) {st : St6} {ver : Int} (h0 : doE l st ver = 0) : RT (doL l st) := by
  unfold doE at h0
  unfold doL
  split at h0
  · rename_i e; rw [if_pos e]; exact create_ok h h0
  · rename_i e1
    rw [if_neg e1]
    split at h0
    · rename_i e; rw [if_pos e]; exact lim_ok h h0
    · rename_i e2
      rw [if_neg e2]
      split at h0
      · rename_i e; rw [if_pos e]; exact mov_ok h h0
      · rename_i e3
        rw [if_neg e3]
        split at h0
        · exact del_ok h h0
        · cases h0
section
variable (w : World)
set_option maxHeartbeats 16000000 in
set_option maxRecDepth 100000 in
theorem rdo (l : List I12) (lv : Value) (h : IRow w l lv) (hr : RT l) (st : St6) (ver : Int) (hs : st.name.size ≤ 1000000) :
    Calls Try.prog 23 #[lv, st.val, .int .i64 ver] w (GrownI (doE l st ver) (doL l st) w) := by
  have RN := Lib.hid (fun W (E : Nat) => rno W E)
  have RC := Lib.hid (fun W (hW : Below w.heap.size w W) => rcreate W l lv (h.below hW) (by have := hr.len; omega) st.name st.par hs st.lim)
  have RL := Lib.hid (fun W (hW : Below w.heap.size w W) => rlimit W l lv (h.below hW) hr st.name st.lim ver)
  have RM := Lib.hid (fun W (hW : Below w.heap.size w W) => rmove W l lv (h.below hW) hr st.name st.par ver)
  have RD := Lib.hid (fun W (hW : Below w.heap.size w W) => rdelete W l lv (h.below hW) hr st.name ver)
  unfold GrownI at RC RL RM RD
  have B0 := Lib.hid (below_al (below_al (Below.refl w.heap.size w) (.cells #[.int .i64 st.kind, .string st.name, .string st.par, .int .i64 st.lim.c, .int .i64 st.lim.m, .int .i64 st.lim.p] 26)) (.cells #[.slice none 0 0, .int .i64 0] 38))
  have S0 := Lib.hid ((SBlk.new w st).below (below_al (Below.refl _ (w.alloc (.cells #[.int .i64 st.kind, .string st.name, .string st.par, .int .i64 st.lim.c, .int .i64 st.lim.m, .int .i64 st.lim.p] 26))) (.cells #[.slice none 0 0, .int .i64 0] 38)))
  have G0 := Lib.hid (show GBlk ((w.alloc (.cells #[.int .i64 st.kind, .string st.name, .string st.par, .int .i64 st.lim.c, .int .i64 st.lim.m, .int .i64 st.lim.p] 26)).alloc (.cells #[.slice none 0 0, .int .i64 0] 38)) (w.heap.size + 1) (.slice none 0 0) 0 from heap_at (by simp))
  have DE := Lib.hid (show doE l st ver = if st.kind = 1 then createE l st.name st.par st.lim else if st.kind = 2 then limE l st.name st.lim ver else if st.kind = 3 then movE l st.name st.par ver else if st.kind = 4 then delE l st.name ver else 1 from rfl)
  have DL := Lib.hid (show doL l st = if st.kind = 1 then createL l st.name st.par st.lim else if st.kind = 2 then limL l st.name st.lim else if st.kind = 3 then movL l st.name st.par else delL l st.name from rfl)
  obtain ⟨s0, s1, s2, s3, s4, s5⟩ := S0.out.cells
  obtain ⟨ao, cap, rfl⟩ := h.shape
  clear h hr
  unfold St6.val
  go_enter Try.func23, Try.ntmps23
  go_upto_region 2 with fail
  generalize (w.alloc (.cells #[.int .i64 st.kind, .string st.name, .string st.par, .int .i64 st.lim.c, .int .i64 st.lim.m, .int .i64 st.lim.p] 26)).alloc (.cells #[.slice none 0 0, .int .i64 0] 38) = w0 at *
  by_cases h1 : st.kind = 1
  · rw [h1] at s0
    have R := Lib.hid (show doE l st ver = createE l st.name st.par st.lim from by rw [DE.out]; rw [if_pos h1])
    have RL2 := Lib.hid (show doL l st = createL l st.name st.par st.lim from by rw [DL.out]; rw [if_pos h1])
    clear DE DL
    go_wp2_with fail
    with_reducible refine (RC.out _ B0.out).mono ?_
    rintro e2 w2 ⟨ov, rfl, h2, o2⟩
    have B2 := Lib.hid (below_tr B0.out h2)
    have G2 := Lib.hid (G0.out.below h2)
    have O2 := Lib.hid (show IOwn w2 w.heap.size _ ov from own_lower0 o2 B0.out.size)
    obtain ⟨oo, om, oc, rfl⟩ := own_slice (show w2.ownsRow _ _ _ _ _ _ from o2)
    have f0 := G2.out.free 0
    have f1 := G2.out.free 1
    obtain ⟨c0, c1⟩ := G2.out.cells
    clear h2 o2 s0 s1 s2 s3 s4 s5
    go_wp2_with fail
    have GF := Lib.hid (G2.out.set (.slice oo om oc) (createE l st.name st.par st.lim : Nat))
    have OF := Lib.hid (O2.out.far (O2.out.apart G2.out) (.slice oo om oc) (.int .i64 (createE l st.name st.par st.lim : Nat)))
    obtain ⟨g0, g1⟩ := GF.out.cells
    exact bodyPost_ret (v := .agg #[.slice oo om oc, .int .i64 (createE l st.name st.par st.lim : Nat)]) (by simp [results, Try.results23, go_sem, g0, g1]) rfl ⟨_, by rw [R.out], below_set2 B2.out (Nat.le_succ _) _ _, by rw [R.out, RL2.out]; exact OF.out⟩
  · have n1 : (st.kind == 1) = false := beq_false_of_ne h1
    by_cases h2 : st.kind = 2
    · rw [h2] at s0
      clear n1
      have R := Lib.hid (show doE l st ver = limE l st.name st.lim ver from by rw [DE.out]; rw [if_neg h1, if_pos h2])
      have RL2 := Lib.hid (show doL l st = limL l st.name st.lim from by rw [DL.out]; rw [if_neg h1, if_pos h2])
      clear DE DL
      go_wp2_with fail
      with_reducible refine (RL.out _ B0.out).mono ?_
      rintro e2 w2 ⟨ov, rfl, h2, o2⟩
      have B2 := Lib.hid (below_tr B0.out h2)
      have G2 := Lib.hid (G0.out.below h2)
      have O2 := Lib.hid (show IOwn w2 w.heap.size _ ov from own_lower0 o2 B0.out.size)
      obtain ⟨oo, om, oc, rfl⟩ := own_slice (show w2.ownsRow _ _ _ _ _ _ from o2)
      have f0 := G2.out.free 0
      have f1 := G2.out.free 1
      obtain ⟨c0, c1⟩ := G2.out.cells
      clear h2 o2 s0 s1 s2 s3 s4 s5
      go_wp2_with fail
      have GF := Lib.hid (G2.out.set (.slice oo om oc) (limE l st.name st.lim ver : Nat))
      have OF := Lib.hid (O2.out.far (O2.out.apart G2.out) (.slice oo om oc) (.int .i64 (limE l st.name st.lim ver : Nat)))
      obtain ⟨g0, g1⟩ := GF.out.cells
      exact bodyPost_ret (v := .agg #[.slice oo om oc, .int .i64 (limE l st.name st.lim ver : Nat)]) (by simp [results, Try.results23, go_sem, g0, g1]) rfl ⟨_, by rw [R.out], below_set2 B2.out (Nat.le_succ _) _ _, by rw [R.out, RL2.out]; exact OF.out⟩
    · have n2 : (st.kind == 2) = false := beq_false_of_ne h2
      by_cases h3 : st.kind = 3
      · rw [h3] at s0
        clear n1 n2
        have R := Lib.hid (show doE l st ver = movE l st.name st.par ver from by rw [DE.out]; rw [if_neg h1, if_neg h2, if_pos h3])
        have RL2 := Lib.hid (show doL l st = movL l st.name st.par from by rw [DL.out]; rw [if_neg h1, if_neg h2, if_pos h3])
        clear DE DL
        go_wp2_with fail
        with_reducible refine (RM.out _ B0.out).mono ?_
        rintro e2 w2 ⟨ov, rfl, h2, o2⟩
        have B2 := Lib.hid (below_tr B0.out h2)
        have G2 := Lib.hid (G0.out.below h2)
        have O2 := Lib.hid (show IOwn w2 w.heap.size _ ov from own_lower0 o2 B0.out.size)
        obtain ⟨oo, om, oc, rfl⟩ := own_slice (show w2.ownsRow _ _ _ _ _ _ from o2)
        have f0 := G2.out.free 0
        have f1 := G2.out.free 1
        obtain ⟨c0, c1⟩ := G2.out.cells
        clear h2 o2 s0 s1 s2 s3 s4 s5
        go_wp2_with fail
        have GF := Lib.hid (G2.out.set (.slice oo om oc) (movE l st.name st.par ver : Nat))
        have OF := Lib.hid (O2.out.far (O2.out.apart G2.out) (.slice oo om oc) (.int .i64 (movE l st.name st.par ver : Nat)))
        obtain ⟨g0, g1⟩ := GF.out.cells
        exact bodyPost_ret (v := .agg #[.slice oo om oc, .int .i64 (movE l st.name st.par ver : Nat)]) (by simp [results, Try.results23, go_sem, g0, g1]) rfl ⟨_, by rw [R.out], below_set2 B2.out (Nat.le_succ _) _ _, by rw [R.out, RL2.out]; exact OF.out⟩
      · have n3 : (st.kind == 3) = false := beq_false_of_ne h3
        by_cases h4 : st.kind = 4
        · rw [h4] at s0
          clear n1 n2 n3
          have R := Lib.hid (show doE l st ver = delE l st.name ver from by rw [DE.out]; rw [if_neg h1, if_neg h2, if_neg h3, if_pos h4])
          have RL2 := Lib.hid (show doL l st = delL l st.name from by rw [DL.out]; rw [if_neg h1, if_neg h2, if_neg h3])
          clear DE DL
          go_wp2_with fail
          with_reducible refine (RD.out _ B0.out).mono ?_
          rintro e2 w2 ⟨ov, rfl, h2, o2⟩
          have B2 := Lib.hid (below_tr B0.out h2)
          have G2 := Lib.hid (G0.out.below h2)
          have O2 := Lib.hid (show IOwn w2 w.heap.size _ ov from own_lower0 o2 B0.out.size)
          obtain ⟨oo, om, oc, rfl⟩ := own_slice (show w2.ownsRow _ _ _ _ _ _ from o2)
          have f0 := G2.out.free 0
          have f1 := G2.out.free 1
          obtain ⟨c0, c1⟩ := G2.out.cells
          clear h2 o2 s0 s1 s2 s3 s4 s5
          go_wp2_with fail
          have GF := Lib.hid (G2.out.set (.slice oo om oc) (delE l st.name ver : Nat))
          have OF := Lib.hid (O2.out.far (O2.out.apart G2.out) (.slice oo om oc) (.int .i64 (delE l st.name ver : Nat)))
          obtain ⟨g0, g1⟩ := GF.out.cells
          exact bodyPost_ret (v := .agg #[.slice oo om oc, .int .i64 (delE l st.name ver : Nat)]) (by simp [results, Try.results23, go_sem, g0, g1]) rfl ⟨_, by rw [R.out], below_set2 B2.out (Nat.le_succ _) _ _, by rw [R.out, RL2.out]; exact OF.out⟩
        · have n4 : (st.kind == 4) = false := beq_false_of_ne h4
          have R := Lib.hid (show doE l st ver = 1 from by rw [DE.out, if_neg h1, if_neg h2, if_neg h3, if_neg h4])
          clear DE DL
          go_wp2_with fail
          have RE := Lib.hid (fun W => (show Calls Try.prog 50 #[.int .i64 1] W (Made (.agg #[.slice none 0 0, .int .i64 1]) W) from RN.out W 1))
          with_reducible refine (RE.out _).mono ?_
          rintro e9 w9 ⟨rfl, h9⟩
          have B9 := Lib.hid (below_tr B0.out h9)
          have G9 := Lib.hid (G0.out.below h9)
          have f0 := G9.out.free 0
          have f1 := G9.out.free 1
          obtain ⟨c0, c1⟩ := G9.out.cells
          clear h9
          go_wp2_with fail
          have GF := Lib.hid (G9.out.set (.slice none 0 0) 1)
          obtain ⟨g0, g1⟩ := GF.out.cells
          exact bodyPost_ret (v := .agg #[.slice none 0 0, .int .i64 1]) (by simp [results, Try.results23, go_sem, g0, g1]) rfl ⟨_, by rw [R.out]; rfl, below_set2 B9.out (Nat.le_succ _) _ _, by rw [R.out]; exact IOwn_nil _ _⟩
end
end Go.Proofs.Ytmpakgabehplbaa
