/- The walk of the statement on transactions' parts: it answers true. Conditions: the library's table of tens lies as it is laid; a slice's cells are known, and hold operations of ints. -/
import Derived.Test.YtlkdojcimlfmdaaDoorTxnP
namespace Go.Proofs.YtlkdojcimlfmdaaDoor
set_option maxRecDepth 100000
open Go.RowKit

theorem opV_set : ∀ (l : List OpV) (k : Nat) (hk : k < l.length) (z : Int), opV (l.set k ⟨l[k].wr, z, l[k].val⟩) = (opV l).set (k * 3 + 1) (.int .i64 z)
  | a :: l, 0, _, z => rfl
  | a :: l, k + 1, hk, z => by
    have ih := opV_set l k (by simpa using hk) z
    rw [show (k + 1) * 3 + 1 = (k * 3 + 1) + 1 + 1 + 1 from by omega]
    show opV (a :: l.set k _) = (Value.bool a.wr :: .int .i64 a.key :: .int .i64 a.val :: opV l).set _ _
    simp only [List.set_cons_succ]
    rw [← ih]; rfl
theorem Own.setKey {w : World} {base g cap : Nat} {l : List OpV} (h : Own w base (.slice (some ⟨g, 0, none⟩) l.length cap) l) {k : Nat} (hk : k < l.length) (z : Int) :
    Own (w.setCell ⟨g, k * 3 + 1, none⟩ (.int .i64 z)) base (.slice (some ⟨g, 0, none⟩) l.length cap) (l.set k ⟨l[k].wr, z, l[k].val⟩) := by
  obtain ⟨h1, h2⟩ := h
  rcases h2 with ⟨h2, _⟩ | ⟨g', cap', cur, e1, e2, hb, e3, e4, e5, e6⟩
  · cases h2
  cases e1
  have hl := opV_len l
  refine ⟨by rw [opV_len], .inr ⟨g, cap, cur.setIfInBounds (k * 3 + 1) (.int .i64 z), by rw [List.length_set], e2, ?_, by rw [List.length_set]; exact e3, e4, by simpa using e5, ?_⟩⟩
  · rw [Sort.setCell_eq]
    simp [Sort.mapBlock, Array.getElem?_modify, hb, Sort.onCells]
  · rw [List.length_set, Array.toList_setIfInBounds, List.take_set, e6, opV_set l k hk z]
theorem Own.at {w : World} {base g cap : Nat} {l : List OpV} (h : Own w base (.slice (some ⟨g, 0, none⟩) l.length cap) l) {k : Nat} (hk : k < l.length) :
    w.cell? ⟨g, k * 3, none⟩ = some (.bool l[k].wr) ∧ w.cell? ⟨g, k * 3 + 1, none⟩ = some (.int .i64 l[k].key) ∧ w.cell? ⟨g, k * 3 + 2, none⟩ = some (.int .i64 l[k].val) ∧ w.frozen? ⟨g, k * 3 + 1, none⟩ = false := by
  obtain ⟨b, off, e, c0, c1, c2⟩ := h.ops.at hk
  cases e
  simp only [Nat.zero_add] at c0 c1 c2
  refine ⟨c0, c1, c2, ?_⟩
  obtain ⟨h1, h2⟩ := h
  rcases h2 with ⟨h2, _⟩ | ⟨g', cap', cur, e1, e2, hb, _⟩
  · cases h2
  cases e1
  simp [World.frozen?, hb]
theorem reads_ref (s b c : Int) (va : Value) (l : List OpV) (w : World) (ha : Ops w va l) (hok : ∀ o ∈ l, o.ok) (hlen : l.length ≤ 100000) (hk : keysIn l) :
    Calls Tryd.prog 11 #[.agg #[.int .i64 s, .int .i64 b, .int .i64 c, va]] w fun e w' => ∃ v, e = .returned v ∧ Own w' w.heap.size v (refReads l) ∧ Below w.heap.size w w' :=
  (reads_any s b c va l w ha hok hlen).mono fun e w' ⟨v, out, he, hO, hR, _, hb⟩ => ⟨v, he, by rw [hR.eq (refReads_rise hk)] at hO; exact hO, hb⟩
theorem writes_ref (s b c : Int) (va : Value) (l : List OpV) (w : World) (ha : Ops w va l) (hok : ∀ o ∈ l, o.ok) (hlen : l.length ≤ 100000) (hk : keysIn l) :
    Calls Tryd.prog 12 #[.agg #[.int .i64 s, .int .i64 b, .int .i64 c, va]] w fun e w' => ∃ v, e = .returned v ∧ Own w' w.heap.size v (refWrites l) ∧ Below w.heap.size w w' :=
  (writes_any s b c va l w ha hok hlen).mono fun e w' ⟨v, out, he, hO, hR, _, hb⟩ => ⟨v, he, by rw [hR.eq (refWrites_rise hk)] at hO; exact hO, hb⟩
theorem sameI_refl (l : List OpV) : sameI l l = 1 := by unfold sameI; simp
end Go.Proofs.YtlkdojcimlfmdaaDoor
