/- WantSums: children may be promised just what there is, where package want answers as the document says. -/
import Derived.Test.YtmiadhcmhnjmfaaWnG
namespace Go.Proofs.Ytmiadhcmhnjmfaa
open Go.RowKit
set_option linter.unusedVariables false
set_option linter.unusedSimpArgs false
def amV (n : Int) (mem : Bool) : V3 := if mem then ⟨0, n, 0⟩ else ⟨n, 0, 0⟩
def sumsW (a v b c : V3) : List W5 := [⟨⟨#[120]⟩, ⟨#[112]⟩, a⟩, ⟨⟨#[112]⟩, ⟨#[]⟩, v⟩, ⟨⟨#[121]⟩, ⟨#[112]⟩, b⟩, ⟨⟨#[122]⟩, ⟨#[112]⟩, c⟩, ⟨⟨#[102, 114, 101, 101]⟩, ⟨#[]⟩, ⟨0, 0, 1⟩⟩]
theorem may_ofS {v : V3} (h : (0 ≤ v.c ∧ v.c ≤ 1099511627776) ∧ (0 ≤ v.m ∧ v.m ≤ 1099511627776) ∧ (0 ≤ v.p ∧ v.p ≤ 1099511627776)) : mayV v = true := by
  unfold mayV leV
  simp only [Bool.and_eq_true, decide_eq_true_eq]
  simp only [z3, mostV]
  omega
theorem le_of {a b : V3} (h : a.c ≤ b.c ∧ a.m ≤ b.m ∧ a.p ≤ b.p) : leV a b = true := by
  unfold leV; simp only [Bool.and_eq_true, decide_eq_true_eq]; omega
theorem le_not {a b : V3} (h : ¬ (a.c ≤ b.c ∧ a.m ≤ b.m ∧ a.p ≤ b.p)) : leV a b = false := by
  cases e : leV a b with
  | false => rfl
  | true =>
    unfold leV at e
    simp only [Bool.and_eq_true, decide_eq_true_eq] at e
    exact absurd ⟨e.1.1, e.1.2, e.2⟩ h
theorem at5 {α : Type} {P : Nat → α → Prop} {x0 x1 x2 x3 x4 : α} (h0 : P 0 x0) (h1 : P 1 x1) (h2 : P 2 x2) (h3 : P 3 x3) (h4 : P 4 x4) : ∀ j y, [x0, x1, x2, x3, x4][j]? = some y → P j y
  | 0, y, h => by cases h; exact h0
  | 1, y, h => by cases h; exact h1
  | 2, y, h => by cases h; exact h2
  | 3, y, h => by cases h; exact h3
  | 4, y, h => by cases h; exact h4
  | j + 5, y, h => by simp at h
def Sm (v : V3) : Prop := (0 ≤ v.c ∧ v.c ≤ 100000) ∧ (0 ≤ v.m ∧ v.m ≤ 100000) ∧ (0 ≤ v.p ∧ v.p ≤ 100000)
theorem Sm.may {v : V3} (h : Sm v) : mayV v = true := may_ofS (by unfold Sm at h; omega)
theorem sums_c1 {a v b c : V3} (ha : Sm a) (hv : Sm v) (hb : Sm b) (hc : Sm c) : scanE (c1W (sumsW a v b c)) 0 (sumsW a v b c) = 0 := by
  refine scanE_none _ _ _ fun j y hy => ?_
  rw [Nat.zero_add]
  revert j y
  refine at5 ?_ ?_ ?_ ?_ ?_ <;> unfold c1W <;> rw [if_neg (by dsimp only; decide), if_neg, if_neg]
  all_goals first
    | (show ¬ _ = true; exact (by decide : ¬ (false = true)))
    | (simp only; first | (rw [ha.may]; decide) | (rw [hv.may]; decide) | (rw [hb.may]; decide) | (rw [hc.may]; decide) | decide)
theorem sums_c2 (a v b c : V3) : scanE (c2W (sumsW a v b c)) 0 (sumsW a v b c) = 0 := by
  refine scanE_none _ _ _ fun j y hy => ?_
  rw [Nat.zero_add]
  revert j y
  have hp : wIdx (sumsW a v b c) ⟨#[112]⟩ = some 1 := rfl
  refine at5 ?_ ?_ ?_ ?_ ?_ <;> unfold c2W <;> rw [if_neg]
  all_goals first
    | (rintro ⟨-, h⟩; simp only at h; rw [hp] at h; cases h)
    | (rintro ⟨h, -⟩; exact h rfl)
theorem sums_c3 (a v b c : V3) : scanE (c3W (sumsW a v b c)) 0 (sumsW a v b c) = 0 := by
  refine scanE_none _ _ _ fun j y hy => ?_
  rw [Nat.zero_add]
  revert j y
  have h0 : depthL (sumsW a v b c) ⟨#[120]⟩ = 2 := rfl
  have h1 : depthL (sumsW a v b c) ⟨#[112]⟩ = 1 := rfl
  have h2 : depthL (sumsW a v b c) ⟨#[121]⟩ = 2 := rfl
  have h3 : depthL (sumsW a v b c) ⟨#[122]⟩ = 2 := rfl
  have h4 : depthL (sumsW a v b c) ⟨#[102, 114, 101, 101]⟩ = 1 := rfl
  refine at5 ?_ ?_ ?_ ?_ ?_ <;> unfold c3W <;> simp only [h0, h1, h2, h3, h4] <;> rfl
theorem sums_check {a v b c : V3} (ha : Sm a) (hv : Sm v) (hb : Sm b) (hc : Sm c) : checkL (sumsW a v b c) = if leV (addV (addV (addV z3 a) b) c) v = false then 11 else 0 := by
  have hk0 : kidsV (sumsW a v b c) ⟨#[120]⟩ = z3 := rfl
  have hk1 : kidsV (sumsW a v b c) ⟨#[112]⟩ = addV (addV (addV z3 a) b) c := rfl
  have hk2 : kidsV (sumsW a v b c) ⟨#[121]⟩ = z3 := rfl
  have hk3 : kidsV (sumsW a v b c) ⟨#[122]⟩ = z3 := rfl
  have hk4 : kidsV (sumsW a v b c) ⟨#[102, 114, 101, 101]⟩ = z3 := rfl
  have hl : ¬ 120 < (sumsW a v b c).length := by show ¬ 120 < 5; decide
  unfold checkL
  rw [if_neg hl, if_neg (by rw [sums_c1 ha hv hb hc]; decide), if_neg (by rw [sums_c2]; decide), if_neg (by rw [sums_c3]; decide)]
  have z0 : ∀ {u : V3}, Sm u → leV z3 u = true := fun {u} hu => le_of (by unfold Sm at hu; simp only [z3]; omega)
  by_cases h : leV (addV (addV (addV z3 a) b) c) v = false
  · rw [if_pos h]
    exact (scanE_at (c4W (sumsW a v b c)) (sumsW a v b c) 0 1 ⟨⟨#[112]⟩, ⟨#[]⟩, v⟩ rfl (by unfold c4W; simp only [hk1]; rw [if_pos h]; decide) (fun j y hj hy => by
      obtain rfl : j = 0 := by omega
      cases hy
      unfold c4W; simp only [hk0]; rw [if_neg (by rw [z0 ha]; decide)])).trans (by unfold c4W; simp only [hk1]; rw [if_pos h])
  · rw [if_neg h]
    refine scanE_none _ _ _ fun j y hy => ?_
    rw [Nat.zero_add]
    revert j y
    refine at5 ?_ ?_ ?_ ?_ ?_ <;> unfold c4W <;> simp only [hk0, hk1, hk2, hk3, hk4]
    · rw [if_neg (by rw [z0 ha]; decide)]
    · rw [if_neg h]
    · rw [if_neg (by rw [z0 hb]; decide)]
    · rw [if_neg (by rw [z0 hc]; decide)]
    · rfl
section
variable (w : World)
theorem lamount (n : Int) (mem : Bool) : Calls Try.prog 20 #[.int .i64 n, .bool mem] w (Made (.agg #[.int .i64 (amV n mem).c, .int .i64 (amV n mem).m, .int .i64 (amV n mem).p]) w) := by
  cases mem
  · go_enter Try.func20, Try.ntmps20
    go_wp2_with fail
    exact bodyPost_ret (v := .agg #[.int .i64 n, .int .i64 0, .int .i64 0]) (by simp [results, Try.results20, go_sem]) rfl ⟨rfl, below_al (Below.refl _ _) _⟩
  · go_enter Try.func20, Try.ntmps20
    go_wp2_with fail
    exact bodyPost_ret (v := .agg #[.int .i64 0, .int .i64 n, .int .i64 0]) (by simp [results, Try.results20, go_sem]) rfl ⟨rfl, below_al (Below.refl _ _) _⟩
theorem lcheck (CK : CkP) (l : List W5) (lv : Value) (h : WRow w l lv) (hz : ∀ u ∈ l, u.name.size ≤ 1000000 ∧ u.parent.size ≤ 1000000) (hl : l.length ≤ 1000) : Calls Try.prog 21 #[lv] w (Made (.int .i64 (checkL l)) w) := by
  have C := Lib.hid (CK w l lv h hz hl)
  generalize checkL l = c at *
  go_enter Try.func21, Try.ntmps21
  go_wp2_with fail
  with_reducible refine C.out.mono ?_
  rintro e w1 ⟨rfl, hb⟩
  go_wp2_with fail
  go_ret
  exact ⟨rfl, hb⟩
theorem am_small (n : Nat) (mem : Bool) (h : n ≤ 65535) : Sm (amV n mem) := by cases mem <;> simp [Sm, amV] <;> omega
theorem sums_size (a v b c : V3) : ∀ u ∈ sumsW a v b c, u.name.size ≤ 1000000 ∧ u.parent.size ≤ 1000000 := by
  intro u hu
  simp only [sumsW, List.mem_cons, List.not_mem_nil, or_false] at hu
  rcases hu with rfl | rfl | rfl | rfl | rfl <;> exact ⟨by dsimp only; decide, by dsimp only; decide⟩
theorem sums_le (a b c h : Nat) (mem : Bool) : leV (addV (addV (addV z3 (amV a mem)) (amV b mem)) (amV c mem)) (amV h mem) = decide (a + b + c ≤ h) := by
  by_cases hle : a + b + c ≤ h
  · rw [decide_eq_true hle]
    refine le_of ?_
    cases mem <;> simp [addV, amV, z3] <;> omega
  · rw [decide_eq_false hle]
    refine le_not ?_
    cases mem <;> simp [addV, amV, z3] <;> omega
set_option maxHeartbeats 4000000 in
set_option maxRecDepth 20000 in
theorem law_wantsums (CK : CkP) (DP : DpP) (TP : TpP) (a b c h : Nat) (mem : Bool) (ha : a < 256) (hb : b < 256) (hc : c < 256) (hh : h < 65536) :
    Calls Try.prog 7 #[.int .u8 a, .int .u8 b, .int .u8 c, .int .u16 h, .bool mem] w (Made (.bool true) w) := by
  have AW := Lib.hid (fun W => law11_awake W CK DP TP)
  have SA := Lib.hid (am_small a mem (by omega))
  have SB := Lib.hid (am_small b mem (by omega))
  have SC := Lib.hid (am_small c mem (by omega))
  have SH := Lib.hid (am_small h mem (by omega))
  have CH := Lib.hid (fun W lv (hr : WRow W (sumsW (amV a mem) (amV h mem) (amV b mem) (amV c mem)) lv) => lcheck W CK _ lv hr (sums_size _ _ _ _) (by show 5 ≤ 1000; decide))
  have SK := Lib.hid (show checkL (sumsW (amV a mem) (amV h mem) (amV b mem) (amV c mem)) = if decide (a + b + c ≤ h) = false then 11 else 0 by rw [sums_check SA.out SH.out SB.out SC.out, sums_le])
  have M1 := Lib.hid (fun W => lamount W a mem)
  have M2 := Lib.hid (fun W => lamount W b mem)
  have M3 := Lib.hid (fun W => lamount W c mem)
  have M4 := Lib.hid (fun W => lamount W h mem)
  generalize amV a mem = va at *
  generalize amV b mem = vb at *
  generalize amV c mem = vc at *
  generalize amV h mem = vh at *
  have wa : IntKind.i64.wrap (a : Int) = (a : Int) := by rw [IntKind.wrap_i64]; omega
  have wb : IntKind.i64.wrap (b : Int) = (b : Int) := by rw [IntKind.wrap_i64]; omega
  have wc : IntKind.i64.wrap (c : Int) = (c : Int) := by rw [IntKind.wrap_i64]; omega
  go_enter Try.func7, Try.ntmps7
  go_wp2_with fail
  with_reducible refine (M4.out _).mono ?_
  rintro e w1 ⟨rfl, hb1⟩
  have B1 := Lib.hid (below_al hb1 (.cells #[.int .i64 vh.c, .int .i64 vh.m, .int .i64 vh.p] 37))
  obtain ⟨q0, q1, q2, -⟩ := (CBlk.new w1 vh).cells
  clear hb1
  go_wp2_with fail
  refine wp_region_mono (by kernel_rfl) (by kernel_rfl) ?_
  simp only [List.map_cons, List.map_nil]
  repeat (first
    | (apply wpM_is
       · (intro us W hW hg K hK
          clear hg
          have c0 := hold hW q0
          have c1 := hold hW q1
          have c2 := hold hW q2
          simp only [fillA]
          go_simp
          first
          | exact hK _ (Below.refl _ _)
          | ((with_reducible refine (M1.out _).mono ?_); rintro e w' ⟨rfl, hb⟩; exact hK _ hb)
          | ((with_reducible refine (M2.out _).mono ?_); rintro e w' ⟨rfl, hb⟩; exact hK _ hb)
          | ((with_reducible refine (M3.out _).mono ?_); rintro e w' ⟨rfl, hb⟩; exact hK _ hb))
       simp only [setD, List.set_cons_zero, List.set_cons_succ]))
  refine wpM_any (fun v W => WRow W (sumsW va vh vb vc) v) (fun v W W' h hb => h.below hb) ?_ ?_
  · intro us W hW hg K hK
    clear hg
    simp only [fillA]
    go_simp
    exact hK _ _ (wrow_new (sumsW va vh vb vc) (heap_alloc_new _ _) (by show 5 ≤ maxLen; unfold maxLen; decide)) (below_al (Below.refl _ _) _)
  simp only [setD, List.set_cons_zero, List.set_cons_succ]
  refine wpM_any (fun v W => WRow W (sumsW va vh vb vc) v) (fun v W W' h hb => h.below hb) ?_ ?_
  · intro us W hW hg K hK
    have h0 := hg 37 (List.elem_iff.1 (by kernel_rfl)) _ rfl
    clear hg
    simp only [fillA]
    go_simp
    exact hK _ _ h0 (Below.refl _ _)
  simp only [setD, List.set_cons_zero, List.set_cons_succ]
  intro us W hW hg
  have h12 := hg 12 _ rfl
  have h37 := hg 37 _ rfl
  simp only [fillA]
  clear hg
  have R12 := Lib.hid h12
  obtain ⟨ro, rc, hro⟩ := h12.shape
  have RS := Lib.hid (show us 12 = .slice ro (sumsW va vh vb vc).length rc from hro)
  have B2 := Lib.hid (below_tr B1.out hW)
  clear h12 h37 hro hW q0 q1 q2
  generalize us 12 = l12 at *
  generalize us 37 = l37 at *
  clear wa wb wc
  by_cases hle : a + b + c ≤ h
  · have e1 : ¬ ((h : Int) < (a : Int) + (b : Int) + (c : Int)) := by omega
    have CZ := Lib.hid (show Calls Try.prog 21 #[l12] W (Made (.int .i64 0) W) by
      have := CH.out W l12 R12.out
      rw [show checkL (sumsW va vh vb vc) = 0 by rw [SK.out, decide_eq_true hle]; rfl] at this
      exact this)
    clear hle
    go_wp2_with fail
    with_reducible refine CZ.out.mono ?_
    rintro e w3 ⟨rfl, hb3⟩
    go_wp2_with fail
    with_reducible refine (lnumE _ _).mono ?_
    rintro e w4 ⟨rfl, rfl⟩
    go_wp2_with fail
    with_reducible refine (AW.out _).mono ?_
    rintro e w5 ⟨rfl, hb5⟩
    go_wp2_with fail
    go_ret
    exact ⟨rfl, below_tr (below_tr B2.out hb3) hb5⟩
  · have e1 : (h : Int) < (a : Int) + (b : Int) + (c : Int) := by omega
    have CZ := Lib.hid (show Calls Try.prog 21 #[l12] W (Made (.int .i64 11) W) by
      have := CH.out W l12 R12.out
      rw [show checkL (sumsW va vh vb vc) = 11 by rw [SK.out, decide_eq_false hle]; rfl] at this
      exact this)
    clear hle
    go_wp2_with fail
    with_reducible refine CZ.out.mono ?_
    rintro e w3 ⟨rfl, hb3⟩
    go_wp2_with fail
    with_reducible refine (lnumE _ _).mono ?_
    rintro e w4 ⟨rfl, rfl⟩
    go_wp2_with fail
    with_reducible refine (AW.out _).mono ?_
    rintro e w5 ⟨rfl, hb5⟩
    go_wp2_with fail
    go_ret
    exact ⟨rfl, below_tr (below_tr B2.out hb3) hb5⟩
end
end Go.Proofs.Ytmiadhcmhnjmfaa
