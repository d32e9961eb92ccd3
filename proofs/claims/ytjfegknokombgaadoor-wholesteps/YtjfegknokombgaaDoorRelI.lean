/- Walks: the reference's Closure and Acyclic of pairs. Conditions: slices' cells are known; at most 100 pairs. -/
import Derived.Test.YtjfegknokombgaaDoorRelH
namespace Go.Proofs.YtjfegknokombgaaDoor
set_option maxRecDepth 100000
open Go.RowKit

def lenOf : Value → Nat
  | .slice _ n _ => n
  | _ => 0
theorem Prs.lenOf {w : World} {v : Value} {l : List Pr} (h : Prs w v l) : lenOf v = l.length := by
  obtain ⟨ao, cap, rfl, _⟩ := h.form
  rfl
/-- Does no pair of a list stand to itself? -/
def irrP (c : List Pr) : Bool := c.all fun p => !(p.1 == p.2)
theorem irrP_succ (c : List Pr) (k : Nat) (hk : k < c.length) : irrP (c.take (k + 1)) = (irrP (c.take k) && !(c[k].1 == c[k].2)) := by
  unfold irrP
  rw [List.take_succ_eq_append_getElem hk, List.all_append]; simp
theorem irrP_no (c : List Pr) (k : Nat) (hk : k < c.length) (h : (c[k].1 == c[k].2) = true) : false = irrP c := by
  symm
  unfold irrP
  rw [List.all_eq_false]
  exact ⟨c[k], List.getElem_mem hk, by simp [h]⟩
theorem irrP_iff {l c : List Pr} (hi : CloInv l c) (hd : (cloNext c l).length = c.length) : irrP c = true ↔ ∀ a, ¬ PathP l a a := by
  unfold irrP
  rw [List.all_eq_true]
  constructor
  · intro h a hp
    have := h (a, a) ((hi.done hd a a).2 hp)
    simp at this
  · rintro h ⟨a, b⟩ hp
    have := (hi.done hd a b).1 hp
    by_cases e : a = b
    · subst e; exact absurd this (h a)
    · simp [e]
end Go.Proofs.YtjfegknokombgaaDoor
