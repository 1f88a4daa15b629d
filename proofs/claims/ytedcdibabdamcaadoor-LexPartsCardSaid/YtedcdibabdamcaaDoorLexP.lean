/- The document's number, as a walk. -/
import Derived.Test.YtedcdibabdamcaaDoorLexO
namespace Go.Proofs.YtedcdibabdamcaaDoor
open Go.RowKit
set_option linter.unusedVariables false
set_option linter.unusedSimpArgs false

/-- What a reader of the document's tells: a token and its length; or none. -/
def RTokPost (i : Nat) (r : Option (TokL × Nat)) (w : World) (e : Ending) (w' : World) : Prop :=
  match r with
  | some (t, k') => ∃ pv, e = .returned (.tuple #[.agg #[.int .i64 t.kind, .string t.text, .int .i64 t.num, pv, .int .i64 t.at_], .int .i64 ((k' : Int) - i)]) ∧ Below w.heap.size w w' ∧ PartsOwn w' w.heap.size pv t.parts
  | none => ∃ (x y : Int) (tx : ByteArray), e = .returned (.tuple #[.agg #[.int .i64 x, .string tx, .int .i64 0, .slice none 0 0, .int .i64 y], .int .i64 0]) ∧ Below w.heap.size w w'
def numTok (s : ByteArray) (i : Nat) : Option (TokL × Nat) :=
  if numB (s.extract i (runTo digitB s i)) then some (⟨1, ⟨#[]⟩, numV (s.extract i (runTo digitB s i)), [], i⟩, runTo digitB s i) else none
def NumRel (s : ByteArray) (i : Nat) (vn vk : Value) : Prop :=
  ∃ k n : Nat, vn = .int .i64 n ∧ vk = .int .i64 k ∧ n ≤ 9223372036854775807 ∧ i ≤ k ∧ k ≤ s.size ∧ gol (decide (k = i)) n (digs s k) = gol true 0 (digs s i) ∧ runTo digitB s k = runTo digitB s i
theorem num_rel_step {s : ByteArray} {i k n : Nat} (x y : Int) (hk : k < s.size) (b1 : 48 ≤ (s[k].toNat : Int)) (b2 : (s[k].toNat : Int) ≤ 57) (hx : x = 10 * (n : Int) + ((s[k].toNat : Int) - 48)) (hy : y = (k : Int) + 1) (hA : x ≤ 9223372036854775807) (hik : i ≤ k)
    (NX : gol (decide (k + 1 = i)) (10 * n + (s[k].toNat - 48)) (digs s (k + 1)) = gol true 0 (digs s i)) (RS : runTo digitB s (k + 1) = runTo digitB s i) :
    NumRel s i (.int .i64 x) (.int .i64 y) := by
  have hn : 10 * n + (s[k].toNat - 48) ≤ 9223372036854775807 := by omega
  have e1 : Value.int .i64 x = .int .i64 ((10 * n + (s[k].toNat - 48) : Nat) : Int) := by
    congr 1; omega
  have e2 : Value.int .i64 y = .int .i64 ((k + 1 : Nat) : Int) := by rw [hy]; rfl
  generalize hm : 10 * n + (s[k].toNat - 48) = m at *
  exact ⟨k + 1, m, e1, e2, hn, by omega, hk, NX, RS⟩
section
variable (s : ByteArray) (w : World)
set_option maxHeartbeats 20000000 in
set_option maxRecDepth 20000 in
theorem rnumber_any (i : Nat) (x : Int) (hx : x = i) (hs : s.size ≤ 6000) (hi : i < s.size) (hd : digitB (pk s i) = true) :
    Calls Tryd.prog 35 #[.string s, .int .i64 x] w (RTokPost i (numTok s i) w) := by
  subst hx
  have GN := Lib.hid (show (gol true 0 (digs s i)).map (fun n : Nat => (n : Int)) = if numB (s.extract i (runTo digitB s i)) then some (numV (s.extract i (runTo digitB s i))) else none from by
    have r1 := runTo_gt hi hd
    have r2 := runTo_le (p := digitB) (Nat.le_of_lt hi)
    have hex := extract_run digitB s i
    have hdig : AllDig (s.extract i (runTo digitB s i)).data.toList := by
      rw [hex]; intro c hc
      have := mem_takeWhile hc
      simp [digitB] at this; omega
    have e : digs s i = (s.extract i (runTo digitB s i)).data.toList := by rw [hex]; rfl
    rw [e]
    exact gol_num hdig (by rw [size_extract' r2]; omega))
  clear hd
  go_enter Tryd.func35, Tryd.ntmps35
  go_wp2_with fail
  go_loop [6, 7] (fun vn vk => NumRel s i vn vk) (fun _ vk => s.size - (intOf vk).toNat)
  case atStart => exact ⟨i, 0, rfl, rfl, by omega, Nat.le_refl _, Nat.le_of_lt hi, by simp, rfl⟩
  case round =>
    obtain ⟨k, n, rfl, rfl, hn, hik, hks, hg, hr⟩ := hrel
    have HG := Lib.hid hg
    have HR := Lib.hid hr
    have HN := Lib.hid hn
    clear hg hr hn
    by_cases hk : k < s.size
    · have hp := pk_in hk
      have q1 := pk_lo s k
      have q2 := pk_hi s k
      rw [hp] at q1 q2
      cases hdg : digitB (s[k].toNat : Int)
      · have DG := Lib.hid hdg
        have DS := Lib.hid (digs_stop (s := s) (k := k) (fun _ => by rw [hp]; exact hdg))
        have RS := Lib.hid (show runTo digitB s i = k by rw [← HR.out, runTo_stop (fun _ => by rw [hp]; exact hdg)])
        have NT := Lib.hid (show numTok s i = some (⟨1, ⟨#[]⟩, (n : Int), [], i⟩, k) by
          have h := GN.out
          rw [← HG.out, DS.out, gol, RS.out] at h
          unfold numTok
          rw [RS.out]
          cases hb : numB (s.extract i k) with
          | true => rw [hb] at h; simp at h; simp [h]
          | false => rw [hb] at h; simp at h)
        clear hdg hp
        go_wp2_with fail
        refine (rdigit_any _ (s[k].toNat : Int) q1 q2).mono ?_
        rw [DG.out]
        rintro e w1 ⟨rfl, rfl⟩
        go_wp2_with fail
        refine bodyPost_ret (v := .tuple #[.agg #[.int .i64 1, .string ⟨#[]⟩, .int .i64 n, .slice none 0 0, .int .i64 i], .int .i64 ((k : Int) - i)]) (by simp [results, Tryd.results35, go_sem]) rfl ?_
        rw [NT.out]
        exact ⟨.slice none 0 0, rfl, (Below.refl _ _).alloc (Nat.le_refl _) _, World.ownsRow_nil _ _ _ _⟩
      · have DG := Lib.hid hdg
        have DS := Lib.hid (digs_step hk (by rw [hp]; exact hdg))
        have RS := Lib.hid ((runTo_step (p := digitB) hk (by rw [hp]; exact hdg)).symm.trans HR.out)
        have hb : 48 ≤ (s[k].toNat : Int) ∧ (s[k].toNat : Int) ≤ 57 := by simpa [digitB] using hdg
        obtain ⟨b1, b2⟩ := hb
        have hn := HN.out
        clear hdg hp
        by_cases hA : (9223372036854775807 - ((s[k].toNat : Int) - 48)) / 10 < (n : Int)
        · have NT := Lib.hid (show numTok s i = none by
            have h := GN.out
            rw [← HG.out, DS.out, gol, if_pos (by omega)] at h
            cases hb : numB (s.extract i (runTo digitB s i)) with
            | true => rw [hb] at h; simp at h
            | false => simp [numTok, hb])
          go_wp2_with fail
          refine (rdigit_any _ (s[k].toNat : Int) q1 q2).mono ?_
          rw [DG.out]
          rintro e w1 ⟨rfl, rfl⟩
          go_wp2_with fail
          refine bodyPost_ret (v := .tuple #[.agg #[.int .i64 0, .string ⟨#[]⟩, .int .i64 0, .slice none 0 0, .int .i64 0], .int .i64 0]) (by simp [results, Tryd.results35, go_sem]) rfl ?_
          rw [NT.out]
          exact ⟨0, 0, ⟨#[]⟩, rfl, (Below.refl _ _).alloc (Nat.le_refl _) _⟩
        · by_cases hik2 : i < k
          · by_cases hn0 : n = 0
            · have g0 : ((n : Int) == 0) = true := by simp; omega
              have NT := Lib.hid (show numTok s i = none by
                have h := GN.out
                rw [← HG.out, DS.out, gol, if_neg (by omega), if_pos ⟨by simp; omega, hn0⟩] at h
                cases hb : numB (s.extract i (runTo digitB s i)) with
                | true => rw [hb] at h; simp at h
                | false => simp [numTok, hb])
              clear hn0
              go_wp2_with fail
              refine (rdigit_any _ (s[k].toNat : Int) q1 q2).mono ?_
              rw [DG.out]
              rintro e w1 ⟨rfl, rfl⟩
              go_wp2_with fail
              refine bodyPost_ret (v := .tuple #[.agg #[.int .i64 0, .string ⟨#[]⟩, .int .i64 0, .slice none 0 0, .int .i64 0], .int .i64 0]) (by simp [results, Tryd.results35, go_sem]) rfl ?_
              rw [NT.out]
              exact ⟨0, 0, ⟨#[]⟩, rfl, (Below.refl _ _).alloc (Nat.le_refl _) _⟩
            · have g0 : ((n : Int) == 0) = false := by simp; omega
              have NX := Lib.hid (show gol (decide (k + 1 = i)) (10 * n + (s[k].toNat - 48)) (digs s (k + 1)) = gol true 0 (digs s i) by
                rw [← HG.out, DS.out, gol, if_neg (by omega), if_neg (by omega), show decide (k + 1 = i) = false by simp; omega])
              go_wp2_with fail
              refine (rdigit_any _ (s[k].toNat : Int) q1 q2).mono ?_
              rw [DG.out]
              rintro e w1 ⟨rfl, rfl⟩
              go_wp2_with fail
              go_round
              case rel => refine num_rel_step _ _ hk b1 b2 ?_ ?_ ?_ hik NX.out RS.out <;> omega
              case measure => simp [intOf]; omega
          · have hki : k = i := by omega
            have NX := Lib.hid (show gol (decide (k + 1 = i)) (10 * n + (s[k].toNat - 48)) (digs s (k + 1)) = gol true 0 (digs s i) by
              rw [← HG.out, DS.out, gol, if_neg (by omega), if_neg (by simp [hki]), show decide (k + 1 = i) = false by simp; omega])
            clear hki
            go_wp2_with fail
            refine (rdigit_any _ (s[k].toNat : Int) q1 q2).mono ?_
            rw [DG.out]
            rintro e w1 ⟨rfl, rfl⟩
            go_wp2_with fail
            go_round
            case rel => refine num_rel_step _ _ hk b1 b2 ?_ ?_ ?_ hik NX.out RS.out <;> omega
            case measure => simp [intOf]; omega
    · have DS := Lib.hid (digs_stop (s := s) (k := k) (fun h => absurd h hk))
      have RS := Lib.hid (show runTo digitB s i = k by rw [← HR.out, runTo_stop (fun h => absurd h hk)])
      have NT := Lib.hid (show numTok s i = some (⟨1, ⟨#[]⟩, (n : Int), [], i⟩, k) by
        have h := GN.out
        rw [← HG.out, DS.out, gol, RS.out] at h
        unfold numTok
        rw [RS.out]
        cases hb : numB (s.extract i k) with
        | true => rw [hb] at h; simp at h; simp [h]
        | false => rw [hb] at h; simp at h)
      go_wp2_with fail
      refine bodyPost_ret (v := .tuple #[.agg #[.int .i64 1, .string ⟨#[]⟩, .int .i64 n, .slice none 0 0, .int .i64 i], .int .i64 ((k : Int) - i)]) (by simp [results, Tryd.results35, go_sem]) rfl ?_
      rw [NT.out]
      exact ⟨.slice none 0 0, rfl, (Below.refl _ _).alloc (Nat.le_refl _) _, World.ownsRow_nil _ _ _ _⟩
end
end Go.Proofs.YtedcdibabdamcaaDoor
