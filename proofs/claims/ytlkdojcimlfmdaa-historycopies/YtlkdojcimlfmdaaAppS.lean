/- An append onto a row that the call itself made, at a step of a region that draws; nothing of the program. -/
import Derived.Test.YtlkdojcimlfmdaaOpZ
import Derived.Deep.AppendLies
namespace Go.Proofs.Ytlkdojcimlfmdaa
set_option maxRecDepth 100000
open Go.RowKit

/-- An append onto an owned row, at a step of a region that draws: whatever is appended, nothing too. -/
theorem step_app {P : Program} (w : World) {ops : Array Oper} {o : Oper} {a : Act} {K : Act → World → Prop} {Q : Exit → Act → World → Prop} {E : Prop} (hgd : o.guard = none) (s x : Operand) (t : TypeId)
    (ho : o.op = .call { callee := .builtin .append, args := #[s, x], argTypes := #[t, t] })
    (base : Nat) (e : TypeId) (i : TypeInfo) (z : Value) (size bytes : Nat) (ht : P.underlying t = some (.slice e)) (hi : P.info? e = some i) (hz : i.zero = some z)
    (hsize : i.size = size) (hby : i.bytes = bytes) (hzs : z.cells.size = size) (hsz : 0 < size)
    (v : Value) (n : Nat) (xs : List Value) (hs : a.eval s = v) (hown : w.ownsRow base e size v n xs)
    (ad : Addr) (m c : Nat) (news : List Value) (hx : a.eval x = .slice (some ad) m c) (hl : news.length = m * size) (hnews : ∀ j u, news[j]? = some u → w.cell? (ad.add j) = some u) (h1 : ∀ u ∈ news, u.oneCell' = true)
    (h63 : n + m ≤ maxLen) (hbytes : (n + m) * bytes ≤ 140737488355328) (hbase : base ≤ w.heap.size)
    (h : ∀ v' w', w'.ownsRow base e size v' (n + m) (xs ++ news) → w.grownBy w' v.ownBlock → K (a.put o.dst v') w') :
    if Region.wanted o (yielded ops a.tmps) = true then Oper.wp P o a w K Q else E := by
  have hw : Region.wanted o (yielded ops a.tmps) = true := by simp [Region.wanted, hgd]
  rw [if_pos hw]
  obtain ⟨v', w', hr, h2, h3, _⟩ := run_append_own (P := P) w base t o.type e i z size bytes ht hi hz hsize hby hzs hsz v n xs hown ad m c news hl hnews h1 h63 hbytes hbase
  unfold Oper.wp execOp
  simp only [ho, resolve, invoke, builtin, Sem.run_bind, Sem.run_pure, Result.andThen_ok, List.map_toArray, List.map_cons, List.map_nil, hs, hx, hr]
  exact h v' w' h2 h3
/-- The cells of part of a slice, from wherever it lies. -/
theorem Row.part {w : World} {g off : Nat} {n cap size : Nat} {cs : List Value} (h : Row w (.slice (some ⟨g, off, none⟩) n cap) n size cs) (k : Nat) (j : Nat) (u : Value) (hj : (cs.drop (k * size))[j]? = some u) : w.cell? ((⟨g, off + k * size, none⟩ : Addr).add j) = some u := by
  obtain ⟨hl, ao', cap', he, hm, hno, hc⟩ := h
  have hjl : k * size + j < cs.length := by
    have := (List.getElem?_eq_some_iff.1 hj).1
    rw [List.length_drop] at this; omega
  have hn : 0 < n := by
    rcases Nat.eq_zero_or_pos n with h0 | h0
    · subst h0; rw [Nat.zero_mul] at hl; omega
    · exact h0
  obtain ⟨b, o, e, hcell⟩ := hc hn
  obtain ⟨rfl, _⟩ : ao' = some ⟨g, off, none⟩ ∧ cap' = cap := by
    have := he; simp at this; exact ⟨this.1.symm, this.2.symm⟩
  cases e
  rw [Addr.add_lit, Nat.add_assoc, hcell (k * size + j) (by omega), ← hj, List.getElem?_drop]
theorem lit_of {w : World} {B : Nat} {x y z : Value} (c0 : w.cell? ⟨B, 0, none⟩ = some x) (c1 : w.cell? ⟨B, 1, none⟩ = some y) (c2 : w.cell? ⟨B, 2, none⟩ = some z) : ∀ j u, [x, y, z][j]? = some u → w.cell? ((⟨B, 0, none⟩ : Addr).add j) = some u := fun j u hu => by
  match j, hu with
  | 0, hu => simp at hu; subst hu; exact c0
  | 1, hu => simp at hu; subst hu; exact c1
  | 2, hu => simp at hu; subst hu; exact c2
  | j + 3, hu => simp at hu
theorem lit_new (w : World) (x y z : Value) (t : TypeId) : ∀ j u, [x, y, z][j]? = some u → (w.alloc (.cells #[x, y, z] t)).cell? ((⟨w.heap.size, 0, none⟩ : Addr).add j) = some u := by
  obtain ⟨c0, c1, c2⟩ := opBlock w x y z t
  exact lit_of c0 c1 c2
theorem drew_own {w : World} {base : Nat} {e : TypeId} {size : Nat} {v : Value} {n : Nat} {cs : List Value} (h : w.ownsRow base e size v n cs) : w.drew.ownsRow base e size v n cs := owns_below h (Below.refl _ _).drew
end Go.Proofs.Ytlkdojcimlfmdaa
