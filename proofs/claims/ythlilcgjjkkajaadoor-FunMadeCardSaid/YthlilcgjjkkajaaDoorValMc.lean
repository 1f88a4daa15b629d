/- Values by numbers: Make. -/
import Derived.Test.YthlilcgjjkkajaaDoorValMb
import Derived.Test.YthlilcgjjkkajaaDoorU8s
import Derived.Test.YthlilcgjjkkajaaDoorOwnW
namespace Go.Proofs.YthlilcgjjkkajaaDoor
open Go.RowKit
set_option linter.unusedVariables false
set_option linter.unusedSimpArgs false

/-- What Make tells. -/
def MadeBy (D : Nat) (v : VL) (w : World) (e : Ending) (w' : World) : Prop := ∃ lv, e = .returned (.agg #[.int .i64 v.kind, .int .i64 v.num, .string v.text, lv]) ∧ RowIn w' (fun g => w.heap.size ≤ g) D v.kids lv ∧ Below w.heap.size w w' ∧ (v.kind ≠ 4 → lv = .slice none 0 0)
theorem rowIn_nil (w : World) (P : Nat → Prop) (D : Nat) (ao : Option Addr) (cap : Nat) : RowIn w P D [] (.slice ao 0 cap) := by
  cases D with
  | zero => exact ⟨rfl, ao, cap, rfl⟩
  | succ D => exact ⟨Nat.zero_le _, ao, cap, rfl, fun i u h => by simp at h⟩
section
variable (w : World)
set_option maxHeartbeats 4000000 in
set_option maxRecDepth 20000 in
theorem make_none (f : Nat) (s : ByteArray) (ao : Option Addr) (cap : Nat) : Calls Tryd.prog 5 #[.slice ao 0 cap, .string s] w (MadeBy f (vnum 0) w) := by
  go_enter Tryd.func5, Tryd.ntmps5
  go_wp2_with fail
  refine bodyPost_ret (v := .agg #[.int .i64 1, .int .i64 0, .string ⟨#[]⟩, .slice none 0 0]) (by simp [results, Tryd.results5, go_sem]) rfl ⟨_, rfl, ?_, ?_, fun _ => rfl⟩
  · exact rowIn_nil _ _ _ _ _
  · exact below_al (Below.refl _ _) _
set_option maxHeartbeats 4000000 in
set_option maxRecDepth 20000 in
theorem make_text_call (f : Nat) (s : ByteArray) (ao : Option Addr) (len cap k g o : Nat) (hao : ao = some ⟨g, o, none⟩) (hlen : 0 < len) (hc : w.cell? ⟨g, o, none⟩ = some (.int .u8 (k : Int))) (hk : k ≤ 255) (h : k % 5 = 0) (hs : s.size ≤ 60) :
    Calls Tryd.prog 5 #[.slice ao len cap, .string s] w (MadeBy f (vstr (s ++ dig3 ((k : Int) / 5 % 3))) w) := by
  subst hao
  have g0 : ((k : Int) % 5 == 0) = true := by simp; omega
  have hl0 : ((len : Int) == 0) = false := by simp; omega
  have HD := Lib.hid (fun W => rdig3 W ((k : Int) / 5 % 3) (by omega))
  have hg : g < w.heap.size := World.block_lt_of_cell? _ _ hc
  go_enter Tryd.func5, Tryd.ntmps5
  go_wp2_with fail
  refine (HD.out _).mono ?_
  rintro e w1 ⟨rfl, hb1⟩
  have B1 := Lib.hid (below_tr (below_al (Below.refl _ _) _) hb1)
  obtain ⟨⟨r0, r1, r2, r3, rl⟩, f0, f1, f2, f3⟩ := ((NBlk.new w 0 0 ⟨#[]⟩).below hb1).full
  have hd := dig3_size ((k : Int) / 5 % 3)
  clear hb1 hc
  generalize dig3 ((k : Int) / 5 % 3) = t at *
  go_wp2_with fail
  refine bodyPost_ret (v := .agg #[.int .i64 2, .int .i64 0, .string (s ++ t), .slice none 0 0]) (by simp [results, Tryd.results5, go_sem, r0, r1, r2, r3]) rfl ⟨_, rfl, ?_, ?_, fun _ => rfl⟩
  · exact rowIn_nil _ _ _ _ _
  · exact below_set4 B1.out (Nat.le_refl _) _ _ _ _
set_option maxHeartbeats 4000000 in
set_option maxRecDepth 20000 in
theorem make_bool_call (f : Nat) (s : ByteArray) (ao : Option Addr) (len cap k g o : Nat) (hao : ao = some ⟨g, o, none⟩) (hlen : 0 < len) (hc : w.cell? ⟨g, o, none⟩ = some (.int .u8 (k : Int))) (hk : k ≤ 255) (h : k % 5 = 1) :
    Calls Tryd.prog 5 #[.slice ao len cap, .string s] w (MadeBy f (.mk 3 ((k : Int) / 5 % 2) ⟨#[]⟩ []) w) := by
  subst hao
  have g0 : ((k : Int) % 5 == 0) = false := by simp; omega
  have g1 : ((k : Int) % 5 == 1) = true := by simp; omega
  have hl0 : ((len : Int) == 0) = false := by simp; omega
  have hg : g < w.heap.size := World.block_lt_of_cell? _ _ hc
  go_enter Tryd.func5, Tryd.ntmps5
  go_wp2_with fail
  refine bodyPost_ret (v := .agg #[.int .i64 3, .int .i64 ((k : Int) / 5 % 2), .string ⟨#[]⟩, .slice none 0 0]) (by simp [results, Tryd.results5, go_sem]) rfl ⟨_, rfl, ?_, ?_, fun _ => rfl⟩
  · exact rowIn_nil _ _ _ _ _
  · exact below_al (Below.refl _ _) _
set_option maxHeartbeats 4000000 in
set_option maxRecDepth 20000 in
theorem make_num_call (f : Nat) (s : ByteArray) (ao : Option Addr) (len cap k g o : Nat) (hao : ao = some ⟨g, o, none⟩) (hlen : 0 < len) (hc : w.cell? ⟨g, o, none⟩ = some (.int .u8 (k : Int))) (hk : k ≤ 255) (hs : s.size ≤ 100) (h : (k % 5 = 0 ∧ 60 < s.size) ∨ k % 5 = 3 ∨ k % 5 = 4) :
    Calls Tryd.prog 5 #[.slice ao len cap, .string s] w (MadeBy f (vnum ((k : Int) / 5 - 20)) w) := by
  subst hao
  have g1 : ((k : Int) % 5 == 1) = false := by simp; omega
  have g2 : ((k : Int) % 5 == 2) = false := by simp; omega
  have hl0 : ((len : Int) == 0) = false := by simp; omega
  have hg : g < w.heap.size := World.block_lt_of_cell? _ _ hc
  rcases h with ⟨h0, h6⟩ | h
  · have g0 : ((k : Int) % 5 == 0) = true := by simp; omega
    go_enter Tryd.func5, Tryd.ntmps5
    go_wp2_with fail
    refine bodyPost_ret (v := .agg #[.int .i64 1, .int .i64 ((k : Int) / 5 - 20), .string ⟨#[]⟩, .slice none 0 0]) (by simp [results, Tryd.results5, go_sem]) rfl ⟨_, rfl, ?_, ?_, fun _ => rfl⟩
    · exact rowIn_nil _ _ _ _ _
    · exact below_al (Below.refl _ _) _
  · have g0 : ((k : Int) % 5 == 0) = false := by simp; omega
    go_enter Tryd.func5, Tryd.ntmps5
    go_wp2_with fail
    refine bodyPost_ret (v := .agg #[.int .i64 1, .int .i64 ((k : Int) / 5 - 20), .string ⟨#[]⟩, .slice none 0 0]) (by simp [results, Tryd.results5, go_sem]) rfl ⟨_, rfl, ?_, ?_, fun _ => rfl⟩
    · exact rowIn_nil _ _ _ _ _
    · exact below_al (Below.refl _ _) _
end
end Go.Proofs.YthlilcgjjkkajaaDoor
