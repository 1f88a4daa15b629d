/- law12.Make: trees by numbers. -/
import Derived.Test.YtmpakgabehplbaaTrN
import Derived.Test.YtmpakgabehplbaaTrJ
import Derived.Test.YtmpakgabehplbaaTrL
import Derived.Test.YtmpakgabehplbaaDigC
import Derived.Test.YtmpakgabehplbaaU8s
namespace Go.Proofs.Ytmpakgabehplbaa
open Go.RowKit
set_option linter.unusedVariables false
set_option linter.unusedSimpArgs false
theorem IOwn.belowI {w w' : World} {B : Nat} {l : List I12} {v : Value} (h : IOwn w B l v) (hb : Below w.heap.size w w') : IOwn w' B l v := own_below h hb
theorem IOwn.lower {w : World} {B B' : Nat} {l : List I12} {v : Value} (h : IOwn w B l v) (hB : B' ≤ B) : IOwn w B' l v := own_lower0 h hB
theorem makeT_end {ns : List Nat} {l : List I12} (h : ¬ (2 < ns.length ∧ l.length < 24)) : makeT ns l = l := by
  match ns with
  | n :: a :: b :: r =>
    rw [makeT, if_neg (fun h2 => h ⟨by simp, h2⟩)]
  | [] => rfl
  | [n] => rfl
  | [n, a] => rfl
section
variable (w : World)
set_option maxHeartbeats 16000000 in
set_option maxRecDepth 100000 in
theorem lmakeT (ns : List Nat) (nv : Value) (h : NumsRd .u8 w nv (ns.map fun n : Nat => (n : Int))) (hr : ∀ x ∈ ns, x ≤ 255) (hl : ns.length ≤ 1000) : Calls Try.prog 25 #[nv] w (MadeI (makeT ns []) w) := by
  obtain ⟨ao, cap, rfl, hat⟩ := h
  rw [List.length_map] at *
  have HAT := Lib.hid hat
  have HR := Lib.hid hr
  clear hat hr
  go_enter Try.func25, Try.ntmps25
  go_wp2_with fail
  go_loopg [3, 4] ns.length (fun m lv iv wr => ∃ (i : Nat) (l : List I12), iv = .int .i64 (i : Int) ∧ ns.length - i ≤ m ∧ i ≤ ns.length + 2 ∧ Below w.heap.size w wr ∧ IOwn wr w.heap.size l lv ∧ Hid (RT l ∧ l.length ≤ 24) ∧ Hid (makeT ns [] = makeT (ns.drop i) l))
  case atStart => exact ⟨0, [], rfl, Nat.le_refl _, Nat.zero_le _, Below.refl _ _, IOwn_nil _ _, Lib.hid ⟨RT.nil, Nat.zero_le _⟩, Lib.hid rfl⟩
  case round =>
    obtain ⟨i, l, rfl, hm, hi, hb, ho, RR, MK⟩ := hrel
    have HM := Lib.hid hm
    have BR := Lib.hid hb
    have OO := Lib.hid ho
    have ll : l.length ≤ 24 := RR.out.2
    have WO := Lib.hid (irow_of_own ho)
    obtain ⟨lo, lc, rfl⟩ := WO.out.shape
    clear hm hb ho
    by_cases h1 : i + 2 < ns.length
    · by_cases h2 : l.length < 24
      · have n0 : i < ns.length := by omega
        have n1 : i + 1 < ns.length := by omega
        obtain ⟨n, hn⟩ : ∃ n, ns[i]? = some n := ⟨_, List.getElem?_eq_getElem n0⟩
        obtain ⟨a, ha⟩ : ∃ a, ns[i + 1]? = some a := ⟨_, List.getElem?_eq_getElem n1⟩
        obtain ⟨b, hb⟩ : ∃ b, ns[i + 2]? = some b := ⟨_, List.getElem?_eq_getElem h1⟩
        have ML := Lib.hid (show makeT ns [] = makeT (ns.drop (i + 3)) (stepM l n a b) from by
          rw [MK.out]
          have e : ns.drop i = n :: a :: b :: ns.drop (i + 3) := by
            rw [List.drop_eq_getElem_cons n0, List.drop_eq_getElem_cons n1, List.drop_eq_getElem_cons h1]
            rw [List.getElem?_eq_getElem n0] at hn
            rw [List.getElem?_eq_getElem n1] at ha
            rw [List.getElem?_eq_getElem h1] at hb
            cases hn; cases ha; cases hb; rfl
          rw [e, makeT, if_pos h2])
        have SM := Lib.hid (step_m RR.out.1 n a b)
        have nb := HR.out n (List.mem_of_getElem? hn)
        have ab := HR.out a (List.mem_of_getElem? ha)
        have bb := HR.out b (List.mem_of_getElem? hb)
        obtain ⟨g, o, rfl, a0'⟩ := HAT.out i (n : Int) (by rw [List.getElem?_map, hn]; rfl)
        obtain ⟨g', o', e', a1'⟩ := HAT.out (i + 1) (a : Int) (by rw [List.getElem?_map, ha]; rfl)
        simp only [Option.some.injEq, Addr.mk.injEq, and_true] at e'
        obtain ⟨rfl, rfl⟩ := e'
        obtain ⟨g', o', e', a2'⟩ := HAT.out (i + 2) (b : Int) (by rw [List.getElem?_map, hb]; rfl)
        simp only [Option.some.injEq, Addr.mk.injEq, and_true] at e'
        obtain ⟨rfl, rfl⟩ := e'
        have a0 := hold BR.out a0'
        have a1 := hold BR.out a1'
        have A2 := Lib.hid a2'
        have y0 : (0 : Int) ≤ (i : Int) := by omega
        have y1 : (i : Int) < (ns.length : Int) := by omega
        have y2 : (i : Int) + 2 < (ns.length : Int) := by omega
        have y3 : (i : Int) + 1 < (ns.length : Int) := by omega
        have y4 : (l.length : Int) < 24 := by omega
        clear hn ha hb MK a0' a1' a2'
        obtain ⟨hb, hhb⟩ : ∃ hb : Bool, hb = decide (0 < l.length ∧ 0 < n % 3) := ⟨_, rfl⟩
        replace hhb := Lib.hid hhb
        go_upto_region 7 with fail
        go_cut [36] (fun s wx => s = .bool hb ∧ wx = wr)
        case first =>
          by_cases hjp : 0 < l.length
          · by_cases hn3 : 0 < n % 3
            · have z1 : (0 : Int) < (l.length : Int) := by omega
              have z2 : (0 : Int) < (n : Int) % 3 := by omega
              go_wp2_with fail
              go_meet
              case rel => exact ⟨by rw [hhb.out]; simp [hjp, hn3], rfl⟩
            · have z1 : (0 : Int) < (l.length : Int) := by omega
              have z2 : ¬ (0 : Int) < (n : Int) % 3 := by omega
              go_wp2_with fail
              go_meet
              case rel => exact ⟨by rw [hhb.out]; simp [hjp, hn3], rfl⟩
          · have z1 : ¬ (0 : Int) < (l.length : Int) := by omega
            go_wp2_with fail
            go_meet
            case rel => exact ⟨by rw [hhb.out]; simp [hjp], rfl⟩
        case rest =>
        obtain ⟨rfl, rfl⟩ := hcut
        generalize wc = wr at *
        go_upto_if 36 with fail
        go_cut [6] (fun s wx => s = .string (parM l n) ∧ wx = wr)
        case first =>
          cases hb with
          | false =>
            go_wp2_with fail
            go_meet
            case rel => exact ⟨by unfold parM; rw [if_neg (fun h => by have := hhb.out; rw [decide_eq_true h] at this; cases this)], rfl⟩
          | true =>
            obtain ⟨hjp, hn3⟩ : 0 < l.length ∧ 0 < n % 3 := by simpa using hhb.out.symm
            have q1 : n / 3 % l.length < l.length := Nat.mod_lt _ hjp
            obtain ⟨p, hp⟩ : ∃ p, p = n / 3 % l.length := ⟨_, rfl⟩
            have PE := Lib.hid hp
            have hpi : (n : Int) / 3 % (l.length : Int) = (p : Int) := by rw [hp]; push_cast; rfl
            rw [← hp] at q1
            obtain ⟨x, hx⟩ : ∃ x, l[p]? = some x := ⟨_, List.getElem?_eq_getElem q1⟩
            obtain ⟨_, _, e8, -, -, hat8⟩ := WO.out
            simp only [Value.slice.injEq, true_and] at e8
            obtain ⟨rfl, rfl⟩ := e8
            obtain ⟨gl, ol, rfl, hc8⟩ := hat8 p x hx
            have d0 := hc8.c0
            have PN := Lib.hid (show parM l n = x.name from by
              unfold parM
              rw [if_pos ⟨hjp, hn3⟩, ← PE.out, nameAt_at hx])
            have z0 : (0 : Int) ≤ (p : Int) := by omega
            have z1 : (p : Int) < (l.length : Int) := by omega
            have z2 : (l.length : Int) ≠ 0 := by omega
            clear hp hx hc8 hat8 hn3
            go_wp2_with fail
            go_meet
            case rel => exact ⟨by rw [PN.out], rfl⟩
        case rest =>
        obtain ⟨rfl, rfl⟩ := hcut
        generalize wc = wr at *
        obtain ⟨cc, hcc⟩ : ∃ cc : UInt8, cc = UInt8.ofNat (97 + l.length * 5 % 24) := ⟨_, rfl⟩
        have hcv := ddig_conv wr (97 + (l.length : Int) * 5 % 24) cc (by
          rw [hcc, UInt8.toNat_ofNat']
          rw [show (97 + l.length * 5 % 24) % 2 ^ 8 = 97 + l.length * 5 % 24 by omega]
          push_cast
          rfl)
        have wc1 : IntKind.u8.wrap (97 + (l.length : Int) * 5 % 24) = 97 + (l.length : Int) * 5 % 24 := by
          rw [IntKind.wrap_u8]; omega
        have RC := Lib.hid (fun W (hW : Below wr.heap.size wr W) => rcreate W l (.slice lo l.length lc) (WO.out.below hW) (by omega) ⟨#[cc]⟩ (parM l n) (by show 1 ≤ 1000000; decide) (limM a))
        have SD := Lib.hid (show stepM l n a b = if createE l ⟨#[cc]⟩ (parM l n) (limM a) = 0 then admM (createL l ⟨#[cc]⟩ (parM l n) (limM a)) b else l from by
          unfold stepM letS; rw [hcc])
        have CO := Lib.hid (fun h0 => create_ok RR.out.1 (s := ⟨#[cc]⟩) (p := parM l n) (lim := limM a) h0)
        have CLN := Lib.hid (create_len l ⟨#[cc]⟩ (parM l n) (limM a))
        replace hcc := Lib.hid hcc
        generalize createE l ⟨#[cc]⟩ (parM l n) (limM a) = E at *
        generalize createL l ⟨#[cc]⟩ (parM l n) (limM a) = lcr at *
        generalize parM l n = pm at *
        simp only [limM] at RC
        have BA := Lib.hid (below_al (Below.refl wr.heap.size wr) (.cells #[.int .u8 (97 + (l.length : Int) * 5 % 24)] 5))
        go_wp2_with fail
        with_reducible refine (RC.out _ BA.out).mono ?_
        rintro e w2 ⟨v2, rfl, hb2, ho2⟩
        have C2 := Lib.hid (below_tr BR.out (below_tr BA.out hb2))
        have OL2 := Lib.hid (OO.out.belowI (below_tr BA.out hb2))
        have a2 := hold C2.out A2.out
        by_cases hE : E = 0
        · subst hE
          rw [if_pos rfl] at ho2
          have O2 := Lib.hid ho2
          have W2 := Lib.hid (irow_of_own ho2)
          obtain ⟨so, sc, rfl⟩ := W2.out.shape
          have RT2 := Lib.hid (CO.out rfl)
          have SE := Lib.hid (show stepM l n a b = admM lcr b from by rw [SD.out, if_pos rfl])
          clear hb2 ho2 hcv wc1 SD CO
          have lpos : 0 < lcr.length := by have := CLN.out; omega
          have pl : b / 16 % lcr.length < lcr.length := Nat.mod_lt _ lpos
          obtain ⟨p, hp⟩ : ∃ p, p = b / 16 % lcr.length := ⟨_, rfl⟩
          have PE := Lib.hid hp
          have hpi : (b : Int) / 16 % (lcr.length : Int) = (p : Int) := by rw [hp]; push_cast; rfl
          rw [← hp] at pl
          obtain ⟨x, hx⟩ : ∃ x, lcr[p]? = some x := ⟨_, List.getElem?_eq_getElem pl⟩
          have W3 := Lib.hid (W2.out.below (below_al (Below.refl w2.heap.size w2) (.cells #[.slice so lcr.length sc, .int .i64 0] 38)))
          obtain ⟨_, _, e8, -, -, hat8⟩ := W3.out
          simp only [Value.slice.injEq, true_and] at e8
          obtain ⟨rfl, rfl⟩ := e8
          obtain ⟨gl, ol, rfl, hc8⟩ := hat8 p x hx
          have d0 := hc8.c0
          replace a2 := hold (below_al (Below.refl w2.heap.size w2) (.cells #[.slice (some ⟨gl, ol, none⟩) lcr.length sc, .int .i64 0] 38)) a2
          have UM := Lib.hid (show useM b = ⟨(b : Int) % 16, (b : Int) % 16 / 2, (b : Int) % 16 % 3⟩ from by unfold useM; simp only [V3.mk.injEq]; push_cast; exact ⟨rfl, rfl, rfl⟩)
          have AM := Lib.hid (show admM lcr b = if admE lcr x.name (useM b) = 0 then admL lcr x.name (useM b) else lcr from by
            unfold admM; rw [← PE.out, nameAt_at hx])
          have RA := Lib.hid (fun W (hW : Below (w2.alloc (.cells #[.slice (some ⟨gl, ol, none⟩) lcr.length sc, .int .i64 0] 38)).heap.size (w2.alloc (.cells #[.slice (some ⟨gl, ol, none⟩) lcr.length sc, .int .i64 0] 38)) W) => radmit W lcr _ (W3.out.below hW) RT2.out x.name (useM b))
          have AL := Lib.hid (adm_len lcr x.name (useM b))
          generalize admE lcr x.name (useM b) = E2 at *
          generalize admL lcr x.name (useM b) = lad at *
          rw [UM.out] at RA
          simp only at RA
          have z0 : (0 : Int) ≤ (p : Int) := by omega
          have z1 : (p : Int) < (lcr.length : Int) := by omega
          have z2 : (lcr.length : Int) ≠ 0 := by omega
          have z3' : (lcr.length : Int) ≤ 1000000 := by have := CLN.out; omega
          have O3 := Lib.hid (O2.out.belowI (below_al (Below.refl w2.heap.size w2) (.cells #[.slice (some ⟨gl, ol, none⟩) lcr.length sc, .int .i64 0] 38)))
          have C3 := Lib.hid (below_al C2.out (.cells #[.slice (some ⟨gl, ol, none⟩) lcr.length sc, .int .i64 0] 38))
          clear hp hx hc8 hat8
          go_wp2_with fail
          with_reducible refine (RA.out _ (Below.refl _ _)).mono ?_
          rintro e w4 ⟨v4, rfl, hb4, ho4⟩
          have C4 := Lib.hid (below_tr C3.out hb4)
          have O4 := Lib.hid (O3.out.belowI hb4)
          have LOW := Lib.hid (show w.heap.size ≤ (wr.alloc (.cells #[.int .u8 (97 + (l.length : Int) * 5 % 24)] 5)).heap.size from by have := BR.out.size; simp; omega)
          have LOW2 := Lib.hid (show w.heap.size ≤ (w2.alloc (.cells #[.slice (some ⟨gl, ol, none⟩) lcr.length sc, .int .i64 0] 38)).heap.size from by have := C2.out.size; simp; omega)
          clear hb4
          by_cases hE2 : E2 = 0
          · subst hE2
            rw [if_pos rfl] at ho4
            have W4 := Lib.hid (irow_of_own ho4)
            obtain ⟨qo, qc, rfl⟩ := W4.out.shape
            have SF := Lib.hid (show stepM l n a b = lad from by rw [SE.out, AM.out, if_pos rfl])
            have C5 := Lib.hid (below_al C4.out (.cells #[.slice qo lad.length qc, .int .i64 0] 38))
            have O5 := Lib.hid ((ho4.lower LOW2.out).belowI (below_al (Below.refl w4.heap.size w4) (.cells #[.slice qo lad.length qc, .int .i64 0] 38)))
            rw [SF.out] at ML SM
            clear ho4
            go_wp2_with fail
            go_roundg (ns.length - (i + 3))
            case rel => exact ⟨i + 3, lad, by go_num, Nat.le_refl _, by omega, C5.out, O5.out, Lib.hid ⟨SM.out.1, by have := SM.out.2; omega⟩, ML⟩
            case measure => have := HM.out; omega
          · have hEn2 : (E2 : Int) ≠ 0 := by omega
            rw [if_neg hE2] at ho4
            have W4 := Lib.hid (irow_of_own ho4)
            obtain ⟨qo, qc, rfl⟩ := W4.out.shape
            have SF := Lib.hid (show stepM l n a b = lcr from by rw [SE.out, AM.out, if_neg hE2])
            have C5 := Lib.hid (below_al C4.out (.cells #[.slice qo ([] : List I12).length qc, .int .i64 (E2 : Int)] 38))
            have O5 := Lib.hid ((O4.out.lower LOW.out).belowI (below_al (Below.refl w4.heap.size w4) (.cells #[.slice qo ([] : List I12).length qc, .int .i64 (E2 : Int)] 38)))
            rw [SF.out] at ML SM
            clear ho4 hE2
            go_wp2_with fail
            go_roundg (ns.length - (i + 3))
            case rel => exact ⟨i + 3, lcr, by go_num, Nat.le_refl _, by omega, C5.out, O5.out, Lib.hid ⟨SM.out.1, by have := SM.out.2; omega⟩, ML⟩
            case measure => have := HM.out; omega
        · have hEn : (E : Int) ≠ 0 := by omega
          rw [if_neg hE] at ho2
          have W2 := Lib.hid (irow_of_own ho2)
          obtain ⟨so, sc, rfl⟩ := W2.out.shape
          have SE := Lib.hid (show stepM l n a b = l from by rw [SD.out, if_neg hE])
          have C3 := Lib.hid (below_al C2.out (.cells #[.slice so ([] : List I12).length sc, .int .i64 (E : Int)] 38))
          have OL3 := Lib.hid (OL2.out.belowI (below_al (Below.refl w2.heap.size w2) (.cells #[.slice so ([] : List I12).length sc, .int .i64 (E : Int)] 38)))
          rw [SE.out] at ML SM
          clear hb2 ho2 hcv wc1 SD CO hE
          go_wp2_with fail
          go_roundg (ns.length - (i + 3))
          case rel => exact ⟨i + 3, l, by go_num, Nat.le_refl _, by omega, C3.out, OL3.out, RR, ML⟩
          case measure => have := HM.out; omega
      · have R := Lib.hid (show makeT ns [] = l from by rw [MK.out]; exact makeT_end (fun h => h2 h.2))
        have y2 : (i : Int) + 2 < (ns.length : Int) := by omega
        have y4 : (24 : Int) ≤ (l.length : Int) := by omega
        go_wp2_with fail
        go_ret
        exact ⟨_, rfl, BR.out, by rw [R.out]; exact OO.out⟩
    · have R := Lib.hid (show makeT ns [] = l from by rw [MK.out]; exact makeT_end (fun h => by rw [List.length_drop] at h; omega))
      have y2 : (ns.length : Int) ≤ (i : Int) + 2 := by omega
      go_wp2_with fail
      go_ret
      exact ⟨_, rfl, BR.out, by rw [R.out]; exact OO.out⟩
end
end Go.Proofs.Ytmpakgabehplbaa
