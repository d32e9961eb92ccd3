/- What a slice of integers holds in a world, and how that carries over; nothing of the program. -/
import Derived.WalkKit
import Derived.Lib.Hide
import Derived.WalkSpells
import Derived.WalkSmall
import Derived.Laws.AppendOwnNone
namespace Go.Proofs.YtadihdkpoeibhaaDoor
set_option maxRecDepth 100000
open Go.RowKit

/-- The slice v has n elements of 'size' cells each, which are cs. -/
def Row (w : World) (v : Value) (n size : Nat) (cs : List Value) : Prop :=
  cs.length = n * size ∧ ∃ ao cap, v = .slice ao n cap ∧ (n ≤ cap ∧ cap ≤ maxLen) ∧ (ao = none → n = 0 ∧ cap = 0) ∧ (0 < n → ∃ b off, ao = some ⟨b, off, none⟩ ∧ ∀ i, i < n * size → w.cell? ⟨b, off + i, none⟩ = cs[i]?)
/-- The slice v holds these ints. -/
def Ints (w : World) (v : Value) (xs : List Int) : Prop := Row w v xs.length 1 (xs.map (Value.int .i64))

theorem block_lt {w : World} {a : Addr} {v : Value} (h : w.cell? a = some v) : a.block < w.heap.size := by
  by_cases h0 : a.block < w.heap.size
  · exact h0
  · simp [World.cell?, Array.getElem?_eq_none (Nat.le_of_not_lt h0)] at h
theorem Row.below {w w' : World} {v : Value} {n size : Nat} {cs : List Value} (h : Row w v n size cs) (hb : Below w.heap.size w w') : Row w' v n size cs := by
  obtain ⟨hl, ao, cap, rfl, hm, hno, hc⟩ := h
  refine ⟨hl, ao, cap, rfl, hm, hno, fun hn => ?_⟩
  obtain ⟨b, off, rfl, hcell⟩ := hc hn
  refine ⟨b, off, rfl, fun i hi => ?_⟩
  have h1 := hcell i hi
  have h2 : cs[i]? = some cs[i] := List.getElem?_eq_getElem (by omega)
  rw [h2] at h1
  have hlt := block_lt h1
  rw [hb.cell (p := ⟨b, off + i, none⟩) hlt, h1, h2]
theorem Ints.below {w w' : World} {v : Value} {xs : List Int} (h : Ints w v xs) (hb : Below w.heap.size w w') : Ints w' v xs := Row.below h hb
theorem Row.drewN {w : World} {v : Value} {n size : Nat} {cs : List Value} (h : Row w v n size cs) (k : Nat) : Row (w.drewN k) v n size cs := h.below (below_drewN (Below.refl _ _) k)
theorem Row.of_owns {w : World} {base : Nat} {e : TypeId} {size : Nat} {v : Value} {n : Nat} {cs : List Value} (h : w.ownsRow base e size v n cs) : Row w v n size cs := by
  obtain ⟨hl, h⟩ := h
  refine ⟨hl, ?_⟩
  rcases h with ⟨rfl, rfl⟩ | ⟨g, cap, cur, rfl, hb, hh, hn, hm, hs, ht⟩
  · exact ⟨none, 0, rfl, by simp, fun _ => ⟨rfl, rfl⟩, fun h => by omega⟩
  · refine ⟨some ⟨g, 0, none⟩, cap, rfl, by omega, fun h => (by cases h), fun _ => ⟨g, 0, rfl, fun i hi => ?_⟩⟩
    have hown : w.ownsRow base e size (.slice (some ⟨g, 0, none⟩) n cap) n cs := ⟨hl, .inr ⟨g, cap, cur, rfl, hb, hh, hn, hm, hs, ht⟩⟩
    have := hown.cellAt i hi
    simpa using this
theorem Ints.of_owns {w : World} {base : Nat} {e : TypeId} {v : Value} {n : Nat} {xs : List Int} (h : w.ownsRow base e 1 v n (xs.map (Value.int .i64))) : Ints w v xs := by
  have hr := Row.of_owns h
  have hn : n = xs.length := by have := h.1; simp at this; omega
  subst hn; exact hr
theorem Ints.form {w : World} {v : Value} {xs : List Int} (h : Ints w v xs) : ∃ ao cap, v = .slice ao xs.length cap ∧ xs.length ≤ 9223372036854775807 := by
  obtain ⟨_, ao, cap, rfl, hm, _, _⟩ := h
  exact ⟨ao, cap, rfl, Nat.le_trans hm.1 hm.2⟩
theorem Ints.at {w : World} {ao : Option Addr} {n cap : Nat} {xs : List Int} (h : Ints w (.slice ao n cap) xs) {k : Nat} (hk : k < xs.length) :
    ∃ b off, ao = some ⟨b, off, none⟩ ∧ w.cell? ⟨b, off + k, none⟩ = some (.int .i64 xs[k]) := by
  obtain ⟨_, ao', cap', he, hm, _, hc⟩ := h
  obtain ⟨rfl, _, _⟩ : ao = ao' ∧ n = xs.length ∧ cap = cap' := by simpa using he
  obtain ⟨b, off, rfl, hcell⟩ := hc (by omega)
  refine ⟨b, off, rfl, ?_⟩
  rw [hcell k (by omega)]
  simp [List.getElem?_eq_getElem hk]
theorem owns_below {w w' : World} {base : Nat} {e : TypeId} {size : Nat} {v : Value} {n : Nat} {cs : List Value} (h : w.ownsRow base e size v n cs) (hb : Below w.heap.size w w') : w'.ownsRow base e size v n cs :=
  h.kept (row := none) ⟨hb.os, hb.tape, hb.output, hb.size, fun k hk _ => hb.block k hk⟩ (by cases v.ownBlock <;> simp)
/-- 'append(own, x...)', x any slice whose cells are known, nil included. -/
theorem wpList_append_row {P : Program} {w : World} {ops : Array Oper} {rest : List Oper} {o : Oper} {a : Act} {Q : Exit → Act → World → Prop} (hgd : o.guard = none) (s x : Operand) (t : TypeId)
    (ho : o.op = .call { callee := .builtin .append, args := #[s, x], argTypes := #[t, t] })
    (base : Nat) (e : TypeId) (i : TypeInfo) (z : Value) (size bytes : Nat) (ht : P.underlying t = some (.slice e)) (hi : P.info? e = some i) (hz : i.zero = some z)
    (hsize : i.size = size) (hby : i.bytes = bytes) (hzs : z.cells.size = size) (hsz : 0 < size)
    (v : Value) (n : Nat) (xs : List Value) (hs : a.eval s = v) (hown : w.ownsRow base e size v n xs)
    (sv : Value) (m : Nat) (news : List Value) (hx : a.eval x = sv) (hsrc : Row w sv m size news) (h1 : ∀ u ∈ news, u.oneCell' = true)
    (h63 : n + m ≤ maxLen) (hbytes : (n + m) * bytes ≤ 140737488355328) (hbase : base ≤ w.heap.size)
    (h : ∀ v' w', w'.ownsRow base e size v' (n + m) (xs ++ news) → w.grownBy w' v.ownBlock → wpList P ops Q rest (a.put o.dst v') w') : wpList P ops Q (o :: rest) a w := by
  obtain ⟨hl, ao, cap, rfl, _, hno, hc⟩ := hsrc
  cases ao with
  | none =>
    obtain ⟨rfl, rfl⟩ := hno rfl
    have hnews : news = [] := List.eq_nil_of_length_eq_zero (by simpa using hl)
    subst hnews
    exact wpList_append_own_none hgd s x t ho base e i size ht hi v n xs hs hown hx (by simpa using h v w (by simpa using hown) (World.grownBy.refl _ _))
  | some ad =>
    refine wpList_append_own w hgd s x t ho base e i z size bytes ht hi hz hsize hby hzs hsz v n xs hs hown ad m cap news hx hl ?_ h1 h63 hbytes hbase (fun v' w' h2 h3 _ => h v' w' h2 h3)
    intro j u hu
    have hj : j < news.length := (List.getElem?_eq_some_iff.1 hu).1
    have hm : 0 < m := by
      rcases Nat.eq_zero_or_pos m with h0 | h0
      · subst h0; rw [Nat.zero_mul] at hl; omega
      · exact h0
    obtain ⟨b, off, he, hcell⟩ := hc hm
    obtain rfl := Option.some.inj he
    rw [Addr.add_lit, hcell j (by omega), hu]
end Go.Proofs.YtadihdkpoeibhaaDoor
