/- The texts of the law of parts: what Lex makes of them (closed facts, for the law of parts, which is under way). -/
import Derived.Test.YtedcdibabdamcaaDoorLexY
namespace Go.Proofs.YtedcdibabdamcaaDoor
open Go.RowKit
set_option linter.unusedVariables false
set_option linter.unusedSimpArgs false

def pxs : List ByteArray := [⟨#[]⟩, ⟨#[112]⟩, ⟨#[113, 32, 114]⟩]
def pys : List ByteArray := [⟨#[]⟩, ⟨#[115]⟩, ⟨#[116, 36]⟩]
def prs : List ByteArray := [⟨#[118, 97, 114, 46, 120]⟩, ⟨#[108, 111, 99, 97, 108, 46, 108, 111, 110, 103, 95, 110, 97, 109, 101, 49]⟩, ⟨#[99, 111, 117, 110, 116, 46, 105, 110, 100, 101, 120]⟩, ⟨#[95, 46, 97]⟩]
def q1 : ByteArray := ⟨#[34]⟩
def ptext (x y r : ByteArray) : ByteArray := q1 ++ x ++ ⟨#[36, 123]⟩ ++ r ++ ⟨#[125]⟩ ++ y ++ q1
def popen (x y r : ByteArray) : ByteArray := q1 ++ x ++ ⟨#[36, 123]⟩ ++ r ++ y ++ q1
def pcut (x y r : ByteArray) (j : Nat) : ByteArray := (ptext x y r).extract 0 (x.size + 3 + j) ++ ⟨#[32]⟩ ++ (ptext x y r).extract (x.size + 3 + j) (ptext x y r).size
def pwant (x y r : ByteArray) : List PartL := (if x.size = 0 then [] else [(false, x)]) ++ [(true, r)] ++ (if y.size = 0 then [] else [(false, y)])
def pcode (ps : List PartL) : List (Bool × List UInt8) := ps.map fun p => (p.1, p.2.data.toList)
def pcheck (x y r : ByteArray) : Bool :=
  lexE (ptext x y r) == 0 && (lexT (ptext x y r)).length == 2 && ((lexT (ptext x y r)).head?.map fun t => pcode t.parts) == some (pcode (pwant x y r)) &&
  lexE (popen x y r) == 5 && (List.range r.size).all (fun j => lexE (pcut x y r j) == 5)
theorem pcheck_all : (pxs.all fun x => pys.all fun y => prs.all fun r => pcheck x y r) = true := by kernel_rfl
theorem pcode_inj : ∀ {a b : List PartL}, pcode a = pcode b → a = b := by
  intro a
  induction a with
  | nil => intro b h; cases b with
    | nil => rfl
    | cons c b => simp [pcode] at h
  | cons c a ih =>
    intro b h
    cases b with
    | nil => simp [pcode] at h
    | cons d b =>
      simp only [pcode, List.map_cons, List.cons.injEq, Prod.mk.injEq] at h
      obtain ⟨⟨h1, h2⟩, h3⟩ := h
      have e : c = d := Prod.ext h1 (ByteArray.ext (Array.ext' h2))
      rw [e, ih h3]
/-- What the law of parts needs of Lex. -/
theorem parts_lex {x y r : ByteArray} (hx : x ∈ pxs) (hy : y ∈ pys) (hr : r ∈ prs) :
    lexE (ptext x y r) = 0 ∧ (∃ t u, lexT (ptext x y r) = [t, u] ∧ t.parts = pwant x y r) ∧ lexE (popen x y r) = 5 ∧ ∀ j, j < r.size → lexE (pcut x y r j) = 5 := by
  have h := pcheck_all
  rw [List.all_eq_true] at h
  have h := h x hx
  rw [List.all_eq_true] at h
  have h := h y hy
  rw [List.all_eq_true] at h
  have h := h r hr
  simp only [pcheck, Bool.and_eq_true, beq_iff_eq, List.all_eq_true, List.mem_range] at h
  obtain ⟨⟨⟨⟨h1, h2⟩, h3⟩, h4⟩, h5⟩ := h
  refine ⟨h1, ?_, h4, h5⟩
  match hl : lexT (ptext x y r), h2 with
  | [t, u], _ =>
    rw [hl] at h3
    simp at h3
    exact ⟨t, u, rfl, pcode_inj h3⟩
end Go.Proofs.YtedcdibabdamcaaDoor
