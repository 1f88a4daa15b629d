/- Made trees: versions; limits and what goes, there and back (pure). -/
import Derived.Test.YtmpakgabehplbaaShL
namespace Go.Proofs.Ytmpakgabehplbaa
open Go.RowKit
set_option linter.unusedVariables false
set_option linter.unusedSimpArgs false
theorem step_ver {l : List I12} (h : ∀ y ∈ l, y.ver = 1) (n a b : Nat) : ∀ y ∈ stepM l n a b, y.ver = 1 := by
  have hc : ∀ s p v, ∀ y ∈ createL l s p v, y.ver = 1 := fun s p v y hy => by
    rw [mem_create] at hy
    rcases hy with rfl | hy
    · rfl
    · exact h y hy
  unfold stepM
  split
  · unfold admM
    split
    · intro y hy
      obtain ⟨z, hz, rfl⟩ := List.mem_map.1 hy
      exact hc _ _ _ z hz
    · exact hc _ _ _
  · exact h
theorem make_ver : ∀ (ns : List Nat) (l : List I12), (∀ y ∈ l, y.ver = 1) → ∀ y ∈ makeT ns l, y.ver = 1
  | n :: a :: b :: r, l, h => by
    rw [makeT]
    split
    · exact make_ver r _ (step_ver h n a b)
    · exact h
  | [], l, h => h
  | [n], l, h => h
  | [n, a], l, h => h
theorem old_any {l : List I12} (hr : RT l) {x : I12} (hx : x ∈ l) : oldE l x.name (-1) = 0 ∧ itAt l x.name = x := by
  have h1 := look_mem hr.srt.uq hx
  refine ⟨?_, itAt_at h1⟩
  unfold oldE
  rw [h1]
  show (if (0 : Int) ≤ -1 ∧ x.ver ≠ -1 then 14 else 0) = 0
  rw [if_neg (fun h => by omega)]
theorem old_is {l : List I12} (hr : RT l) {x : I12} (hx : x ∈ l) : oldE l x.name x.ver = 0 := by
  unfold oldE
  rw [look_mem hr.srt.uq hx]
  show (if 0 ≤ x.ver ∧ x.ver ≠ x.ver then 14 else 0) = 0
  rw [if_neg (fun h => h.2 rfl)]
theorem old_next {l : List I12} (hr : RT l) {x : I12} (hx : x ∈ l) (hv : x.ver = 1) : oldE l x.name (x.ver + 1) = 14 := by
  unfold oldE
  rw [look_mem hr.srt.uq hx]
  show (if 0 ≤ x.ver + 1 ∧ x.ver ≠ x.ver + 1 then 14 else 0) = 14
  rw [if_pos (by omega)]
theorem lim_any {l : List I12} (hr : RT l) {x : I12} (hx : x ∈ l) (hv : x.ver = 1) {v : V3} (hm : mayV v = true) : limE l x.name v (-1) = if leV x.sub v = false then 12 else 0 := by
  obtain ⟨h1, h2⟩ := old_any hr hx
  unfold limE
  rw [if_neg (by rw [hm]; decide), if_neg (fun h => h h1), h2, if_neg (by omega)]
theorem lim_next {l : List I12} (hr : RT l) {x : I12} (hx : x ∈ l) (hv : x.ver = 1) {v : V3} (hm : mayV v = true) : limE l x.name v (x.ver + 1) = 14 := by
  unfold limE
  rw [if_neg (by rw [hm]; decide), old_next hr hx hv, if_pos (by decide)]
def busyB (l : List I12) (x : I12) : Bool := !eqV x.own z3 || l.any fun y => decide (y.parent = x.name)
theorem del_any {l : List I12} (hr : RT l) {x : I12} (hx : x ∈ l) : delE l x.name (-1) = if busyB l x = true then 13 else 0 := by
  obtain ⟨h1, h2⟩ := old_any hr hx
  unfold delE
  rw [if_neg (fun h => h h1), h2]
  have e : (!(belowI l x.name).isEmpty || !eqV x.own z3) = busyB l x := by
    unfold busyB
    rw [Bool.or_comm]
    congr 1
    rw [Bool.eq_iff_iff, Bool.not_eq_true', List.any_eq_true]
    constructor
    · intro h
      by_cases hn : ∃ y, y ∈ l ∧ decide (y.parent = x.name) = true
      · exact hn
      · have : belowI l x.name = [] := below_nil.2 fun y hy e => hn ⟨y, hy, decide_eq_true e⟩
        rw [this] at h; cases h
    · rintro ⟨y, hy, he⟩
      cases hb : (belowI l x.name).isEmpty with
      | false => rfl
      | true => exact absurd (by simpa using he) (below_nil.1 (List.isEmpty_iff.1 hb) y hy)
  rw [e]
theorem busy_step {l : List I12} {x y : I12} {k : Nat} (hy : l[k]? = some y) : busyB (l.take (k + 1)) x = if busyB (l.take k) x = true then true else decide (y.parent = x.name) := by
  unfold busyB
  rw [List.take_add_one, hy, List.any_append]
  simp only [Option.toList_some, List.any_cons, List.any_nil, Bool.or_false]
  cases (!eqV x.own z3) <;> cases ((l.take k).any fun y => decide (y.parent = x.name)) <;> simp
theorem lim_find {l : List I12} (hr : RT l) {x : I12} (hx : x ∈ l) (v : V3) : ∃ k : Nat, findI (limL l x.name v) x.name = (k : Int) ∧ (limL l x.name v)[k]? = some ⟨x.name, x.parent, v, x.own, x.sub, x.ver + 1⟩ := by
  obtain ⟨k, h1, h2⟩ := find_at (look_mem hr.srt.uq hx)
  refine ⟨k, ?_, ?_⟩
  · unfold findI at h1 ⊢
    rw [show iIdx (limL l x.name v) x.name = iIdx l x.name from idx_map (f := limF x.name v) (fun _ => rfl) l x.name]
    exact h1
  · unfold limL
    rw [List.getElem?_map, h2]
    show some (limF x.name v x) = _
    unfold limF
    rw [if_pos rfl, if_pos rfl]
theorem leV_c {s : V3} {v : V3} (hm : s.m = v.m) (hp : s.p = v.p) : leV s v = decide (s.c ≤ v.c) := by
  rw [Bool.eq_iff_iff, le_iff, decide_eq_true_iff]
  omega
/-- Moved, and moved back. -/
def twoF (s : ByteArray) (y : I12) : I12 := ⟨y.name, y.parent, y.lim, y.own, y.sub, if y.name = s then y.ver + 2 else y.ver⟩
theorem movS_back (was up : List ByteArray) (d : V3) (s p : ByteArray) (y : I12) : movS up was d (movF was up d s p y) = y.sub := by
  unfold movS
  show (if y.name ∈ was then addV (if y.name ∈ up then addV (movS was up d y) (negV d) else movS was up d y) d else if y.name ∈ up then addV (movS was up d y) (negV d) else movS was up d y) = y.sub
  unfold movS
  by_cases h1 : y.name ∈ was <;> by_cases h2 : y.name ∈ up <;> simp only [h1, h2, if_true, if_false] <;> apply v3_eq <;> simp only [addV, negV] <;> omega
theorem mov_under {l : List I12} (hr : RT l) {x : I12} (hx : x ∈ l) {p : ByteArray} (hp : p = ⟨#[]⟩ ∨ ∃ y ∈ l, y.name = p) (hu : x.name ∈ upI l p) : movE l x.name p x.ver = 10 := by
  unfold movE
  rw [if_neg (fun h => h (old_is hr hx)), if_neg (fun h => by rw [h.2] at hu; cases hu), if_pos hu]
theorem up_some {l : List I12} (hr : RT l) {y : I12} (hy : y ∈ l) : upI l y.name ≠ [] := by
  obtain ⟨r, e⟩ := up_head hr hy
  rw [e]; exact List.cons_ne_nil _ _
theorem mov_there {l : List I12} (hr : RT l) {x : I12} (hx : x ∈ l) (hv : x.ver = 1) {p : ByteArray} (hp : p = ⟨#[]⟩ ∨ ∃ y ∈ l, y.name = p) (hu : x.name ∉ upI l p) : movE l x.name p x.ver = if movR l x.name p = false then 12 else 0 := by
  obtain ⟨-, h2⟩ := old_any hr hx
  unfold movE
  rw [if_neg (fun h => h (old_is hr hx)), if_neg ?_, if_neg hu, h2, if_neg (by omega)]
  rintro ⟨h3, h4⟩
  rcases hp with hp | ⟨y, hy, rfl⟩
  · exact h3 hp
  · exact up_some hr hy h4
theorem mov_back {l : List I12} (hr : RT l) {x : I12} (hx : x ∈ l) (hv : x.ver = 1) {p : ByteArray} (hm : RT (movL l x.name p)) (hu : x.name ∉ upI l p) :
    movE (movL l x.name p) x.name x.parent (x.ver + 1) = 0 ∧ movE (movL l x.name p) x.name x.parent x.ver = 14 ∧ movL (movL l x.name p) x.name x.parent = l.map (twoF x.name) := by
  have hsw := up_not hr hx
  have hit : itAt l x.name = x := (old_any hr hx).2
  obtain ⟨was, hwas⟩ : ∃ was, was = upI l x.parent := ⟨_, rfl⟩
  obtain ⟨up, hup⟩ : ∃ up, up = upI l p := ⟨_, rfl⟩
  have em : movL l x.name p = l.map (movF was up x.sub x.name p) := by unfold movL; rw [hit, hwas, hup]
  have e1 : upI (movL l x.name p) x.parent = was := by
    rw [em]
    refine Eq.trans ?_ hwas.symm
    unfold upI
    rw [List.length_map]
    exact upF_avoid (f := movF was up x.sub x.name p) (fun _ => rfl) (fun z hz => if_neg hz) _ _ hsw
  have e2 : upI (movL l x.name p) p = up := by
    rw [em]
    refine Eq.trans ?_ hup.symm
    unfold upI
    rw [List.length_map]
    exact upF_avoid (f := movF was up x.sub x.name p) (fun _ => rfl) (fun z hz => if_neg hz) _ _ hu
  have ex : movF was up x.sub x.name p x = ⟨x.name, p, x.lim, x.own, x.sub, x.ver + 1⟩ := by
    unfold movF
    rw [if_pos rfl, if_pos rfl]
    unfold movS
    rw [if_neg (by rw [hup]; exact hu), if_neg (by rw [hwas]; exact hsw)]
  have xm : (⟨x.name, p, x.lim, x.own, x.sub, x.ver + 1⟩ : I12) ∈ movL l x.name p := by rw [em, ← ex]; exact List.mem_map.2 ⟨x, hx, rfl⟩
  have lk := look_mem hm.srt.uq xm
  simp only at lk
  have it2 := itAt_at lk
  have o1 := old_is hm xm
  simp only at o1
  have o2 : oldE (movL l x.name p) x.name x.ver = 14 := by
    unfold oldE
    rw [lk]
    show (if 0 ≤ x.ver ∧ x.ver + 1 ≠ x.ver then 14 else 0) = 14
    rw [if_pos (by omega)]
  have eL : movL (movL l x.name p) x.name x.parent = l.map (twoF x.name) := by
    rw [show movL (movL l x.name p) x.name x.parent = (movL l x.name p).map (movF (upI (movL l x.name p) (itAt (movL l x.name p) x.name).parent) (upI (movL l x.name p) x.parent) (itAt (movL l x.name p) x.name).sub x.name x.parent) from rfl]
    rw [show upI (movL l x.name p) (itAt (movL l x.name p) x.name).parent = up from by rw [it2]; exact e2, e1, it2, em, List.map_map]
    refine List.map_congr_left fun y hy => ?_
    show movF up was x.sub x.name x.parent (movF was up x.sub x.name p y) = twoF x.name y
    unfold movF
    rw [show movS up was x.sub ⟨y.name, if y.name = x.name then p else y.parent, y.lim, y.own, movS was up x.sub y, if y.name = x.name then y.ver + 1 else y.ver⟩ = y.sub from movS_back was up x.sub x.name p y]
    unfold twoF
    by_cases e : y.name = x.name
    · have hy1 := look_mem hr.srt.uq hy
      rw [e, look_mem hr.srt.uq hx] at hy1
      obtain rfl := Option.some.inj hy1
      simp only [if_true]
      congr 1
      omega
    · simp only [e, if_false]
  refine ⟨?_, ?_, eL⟩
  · unfold movE
    rw [if_neg (fun h => h o1), if_neg ?_, if_neg (by rw [e1, hwas]; exact hsw), it2, if_neg (by show ¬ (9007199254740992 ≤ x.ver + 1); omega), if_neg ?_]
    · rw [Bool.not_eq_false]
      unfold movR
      rw [List.all_eq_true]
      intro y' hy'
      rw [em] at hy'
      obtain ⟨y, hy, rfl⟩ := List.mem_map.1 hy'
      rw [e1, it2, show upI (movL l x.name p) (⟨x.name, p, x.lim, x.own, x.sub, x.ver + 1⟩ : I12).parent = up from e2]
      rw [show movS up was (⟨x.name, p, x.lim, x.own, x.sub, x.ver + 1⟩ : I12).sub (movF was up x.sub x.name p y) = y.sub from movS_back was up x.sub x.name p y]
      rw [show leV y.sub (movF was up x.sub x.name p y).lim = true from (one_iff.1 (hr.one y hy)).2.2.2.2.2.1, Bool.or_true]
    · rintro ⟨h3, h4⟩
      rw [e1, hwas] at h4
      rcases (one_iff.1 (hr.one x hx)).2.2.2.1 with h5 | ⟨y, hy, h5⟩
      · exact h3 h5
      · rw [← h5] at h4; exact up_some hr hy h4
  · unfold movE
    rw [o2, if_pos (by decide)]
end Go.Proofs.Ytmpakgabehplbaa
