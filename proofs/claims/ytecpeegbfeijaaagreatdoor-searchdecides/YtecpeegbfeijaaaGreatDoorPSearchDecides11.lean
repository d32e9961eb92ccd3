/- Walks and plain facts that the proof of the statement SearchDecides uses, joined: BruG BruH BruI PlaP ArgC LeaI LeaJ TopA BruK BruV BruZ BrcA BrcC BruW BruX AxhN BruY BrcB SeaL. Conditions: each theorem's own. -/
import Derived.Deep.Upon
import Derived.Test.YtecpeegbfeijaaaGreatDoorPSearchDecides0
import Derived.Test.YtecpeegbfeijaaaGreatDoorPSearchDecides2
import Derived.Test.YtecpeegbfeijaaaGreatDoorPSearchDecides4
import Derived.Test.YtecpeegbfeijaaaGreatDoorPSearchDecides5
import Derived.Test.YtecpeegbfeijaaaGreatDoorPSearchDecides9
import Derived.Test.YtecpeegbfeijaaaGreatDoorPSearchDecides10
namespace Go.Proofs.YtecpeegbfeijaaaGreatDoor
set_option maxHeartbeats 32000000
set_option maxRecDepth 100000
open Lib (hid)
section
open Go.RowKit Go.Shelf
theorem info50 : (Tryz.prog.info? 32).map (·.size) = some 2 := by kernel_rfl
theorem run_load_wit {w : World} {g : Nat} {vo vs : Value} (h0 : w.cell? ⟨g, 0, none⟩ = some vo) (h1 : w.cell? ⟨g, 1, none⟩ = some vs) : (loadVar 32 ⟨g, 0, none⟩).run Tryz.prog w = .ok (.agg #[vo, vs]) w := by
 have hl : (loadCells ⟨g, 0, none⟩ [vo, vs].length).run Tryz.prog w = .ok [vo, vs].toArray w :=
  run_loadCells_list (P := Tryz.prog) w ⟨g, 0, none⟩ [vo, vs] (fun j v hv => by
   have hadd : (⟨g, 0, none⟩ : Addr).add j = ⟨g, j, none⟩ := by unfold Addr.add; split <;> simp_all
   rw [hadd]
   match j, hv with
   | 0, hv => rw [h0]; exact hv
   | 1, hv => rw [h1]; exact hv
   | j + 2, hv => simp at hv)
 cases hq : Tryz.prog.info? 32 with
 | none => have := info50; simp [hq] at this
 | some i =>
  have hs : i.size = 2 := by have := info50; simpa [hq] using this
  have hagg : (isAgg 32).run Tryz.prog w = .ok true w := by
   unfold isAgg
   rw [Sem.run_bind, run_underlying Tryz.underlying32 w]
   rfl
  simp only [List.length_cons, List.length_nil, Nat.zero_add, Nat.reduceAdd] at hl
  simp [loadVar, Sem.run_bind, hagg, sizeOf, typeInfo, hq, hs, hl]
theorem run_load_bool {w : World} {g : Nat} {v : Value} (h0 : w.cell? ⟨g, 0, none⟩ = some v) : (loadVar 4 ⟨g, 0, none⟩).run Tryz.prog w = .ok v w := by
 have hagg : (isAgg 4).run Tryz.prog w = .ok false w := by
  unfold isAgg
  rw [Sem.run_bind, run_underlying Tryz.underlying4 w]
  rfl
 simp [loadVar, Sem.run_bind, hagg, h0]
theorem results_dec {fn : Func} {p q u : Tmp} (h : fn.results = #[.cell p 32, .cell q 4, .cell u 4]) (tmps : Array Value) (w : World) (g1 g2 g3 : Nat) (vo vs b1 b2 : Value)
  (hp : tmps.getD p undef = .pointer (some ⟨g1, 0, none⟩)) (hq : tmps.getD q undef = .pointer (some ⟨g2, 0, none⟩)) (hu : tmps.getD u undef = .pointer (some ⟨g3, 0, none⟩))
  (h0 : w.cell? ⟨g1, 0, none⟩ = some vo) (h1 : w.cell? ⟨g1, 1, none⟩ = some vs) (h2 : w.cell? ⟨g2, 0, none⟩ = some b1) (h3 : w.cell? ⟨g3, 0, none⟩ = some b2) : (results fn tmps).run Tryz.prog w = .ok (.tuple #[.agg #[vo, vs], b1, b2]) w := by
 have hp' : tmps[p]?.getD undef = .pointer (some ⟨g1, 0, none⟩) := by simpa using hp
 have hq' : tmps[q]?.getD undef = .pointer (some ⟨g2, 0, none⟩) := by simpa using hq
 have hu' : tmps[u]?.getD undef = .pointer (some ⟨g3, 0, none⟩) := by simpa using hu
 simp [results, h, hp', hq', hu', asAddr, Sem.run_bind, run_load_wit h0 h1, run_load_bool h2, run_load_bool h3, Result.andThen]
def DecRes (h : List TxnV) (lv : Int) (v : Value) (w : World) : Prop :=
 if h.length ≤ 8 then
  match (ordersN h.length).find? (keptL h lv) with
  | none => v = .tuple #[.agg #[.slice none 0 0, .slice none 0 0], .bool false, .bool true]
  | some r => ∃ vo vs X, v = .tuple #[.agg #[vo, vs], .bool true, .bool true] ∧ LeastIs h (askN lv) (r.map Int.ofNat) X ∧ Ints w vo (r.map Int.ofNat) ∧ Lists w vs (seesL X (r.map Int.ofNat).length)
 else v = .tuple #[.agg #[.slice none 0 0, .slice none 0 0], .bool false, .bool false]
structure DecI (s B : Nat) (lv : Int) (vo vs b1 b2 : Value) (w W : World) : Prop where
 c0 : W.cell? ⟨s, 0, none⟩ = some (.pointer (some ⟨B, 0, none⟩))
 c1 : W.cell? ⟨s + 1, 0, none⟩ = some (.int .i64 lv)
 c2 : W.cell? ⟨s + 1 + 1, 0, none⟩ = some vo
 d2 : W.cell? ⟨s + 1 + 1, 1, none⟩ = some vs
 c3 : W.cell? ⟨s + 1 + 1 + 1, 0, none⟩ = some b1
 c4 : W.cell? ⟨s + 1 + 1 + 1 + 1, 0, none⟩ = some b2
 f2 : W.frozen? ⟨s + 1 + 1, 0, none⟩ = false
 g2 : W.frozen? ⟨s + 1 + 1, 1, none⟩ = false
 f3 : W.frozen? ⟨s + 1 + 1 + 1, 0, none⟩ = false
 f4 : W.frozen? ⟨s + 1 + 1 + 1 + 1, 0, none⟩ = false
 bel : Below s w W
section
variable {s B D : Nat} {lv : Int} {vo vs b1 b2 : Value} {w W W' : World}
theorem DecI.below (q : DecI s B lv vo vs b1 b2 w W) (hb : Below D W W') (hD : s + 6 ≤ D) : DecI s B lv vo vs b1 b2 w W' :=
 ⟨(hb.cell (p := ⟨s, 0, none⟩) (by show s < D; omega)).trans q.c0, (hb.cell (p := ⟨s + 1, 0, none⟩) (by show s + 1 < D; omega)).trans q.c1, (hb.cell (p := ⟨s + 1 + 1, 0, none⟩) (by show s + 1 + 1 < D; omega)).trans q.c2, (hb.cell (p := ⟨s + 1 + 1, 1, none⟩) (by show s + 1 + 1 < D; omega)).trans q.d2,
  (hb.cell (p := ⟨s + 1 + 1 + 1, 0, none⟩) (by show s + 1 + 1 + 1 < D; omega)).trans q.c3, (hb.cell (p := ⟨s + 1 + 1 + 1 + 1, 0, none⟩) (by show s + 1 + 1 + 1 + 1 < D; omega)).trans q.c4,
  (hb.frozen (p := ⟨s + 1 + 1, 0, none⟩) (by show s + 1 + 1 < D; omega)).trans q.f2, (hb.frozen (p := ⟨s + 1 + 1, 1, none⟩) (by show s + 1 + 1 < D; omega)).trans q.g2,
  (hb.frozen (p := ⟨s + 1 + 1 + 1, 0, none⟩) (by show s + 1 + 1 + 1 < D; omega)).trans q.f3, (hb.frozen (p := ⟨s + 1 + 1 + 1 + 1, 0, none⟩) (by show s + 1 + 1 + 1 + 1 < D; omega)).trans q.f4, q.bel.trans (hb.mono (by omega))⟩
theorem DecI.put (q : DecI s B lv vo vs b1 b2 w W) (uo us u1 u2 : Value) :
  DecI s B lv uo us u1 u2 w ((((W.setCell ⟨s + 1 + 1, 0, none⟩ uo).setCell ⟨s + 1 + 1, 1, none⟩ us).setCell ⟨s + 1 + 1 + 1, 0, none⟩ u1).setCell ⟨s + 1 + 1 + 1 + 1, 0, none⟩ u2) := by
 obtain ⟨c0, c1, c2, d2, c3, c4, f2, g2, f3, f4, bel⟩ := q
 refine ⟨?_, ?_, ?_, ?_, ?_, ?_, ?_, ?_, ?_, ?_, ?_⟩
 ·simp [World.cell?_setCell_other, c0]
 ·simp [World.cell?_setCell_other, c1]
 ·rw [World.cell?_setCell_other _ _ _ _ (by simp), World.cell?_setCell_other _ _ _ _ (by simp), World.cell?_setCell_other _ _ _ _ (by simp)]
  exact World.cell?_setCell_same _ _ _ c2
 ·rw [World.cell?_setCell_other _ _ _ _ (by simp), World.cell?_setCell_other _ _ _ _ (by simp)]
  exact World.cell?_setCell_same _ _ _ (by rw [World.cell?_setCell_other _ _ _ _ (by simp)]; exact d2)
 ·rw [World.cell?_setCell_other _ _ _ _ (by simp)]
  exact World.cell?_setCell_same _ _ _ (by rw [World.cell?_setCell_other _ _ _ _ (by simp), World.cell?_setCell_other _ _ _ _ (by simp)]; exact c3)
 ·exact World.cell?_setCell_same _ _ _ (by rw [World.cell?_setCell_other _ _ _ _ (by simp), World.cell?_setCell_other _ _ _ _ (by simp), World.cell?_setCell_other _ _ _ _ (by simp)]; exact c4)
 ·simp only [World.frozen?_setCell]; exact f2
 ·simp only [World.frozen?_setCell]; exact g2
 ·simp only [World.frozen?_setCell]; exact f3
 ·simp only [World.frozen?_setCell]; exact f4
 ·exact (((bel.setCell (p := ⟨s + 1 + 1, 0, none⟩) (by show s ≤ s + 1 + 1; omega) _).setCell (p := ⟨s + 1 + 1, 1, none⟩) (by show s ≤ s + 1 + 1; omega) _).setCell (p := ⟨s + 1 + 1 + 1, 0, none⟩) (by show s ≤ s + 1 + 1 + 1; omega) _).setCell (p := ⟨s + 1 + 1 + 1 + 1, 0, none⟩) (by show s ≤ s + 1 + 1 + 1 + 1; omega) _
theorem keeps_four (W : World) (uo us u1 u2 : Value) (hD : s + 6 ≤ D) : KeepsHi D W ((((W.setCell ⟨s + 1 + 1, 0, none⟩ uo).setCell ⟨s + 1 + 1, 1, none⟩ us).setCell ⟨s + 1 + 1 + 1, 0, none⟩ u1).setCell ⟨s + 1 + 1 + 1 + 1, 0, none⟩ u2) :=
 (((KeepsHi.setCell W ⟨s + 1 + 1, 0, none⟩ uo (by show s + 1 + 1 < D; omega)).trans (KeepsHi.setCell _ ⟨s + 1 + 1, 1, none⟩ us (by show s + 1 + 1 < D; omega))).trans (KeepsHi.setCell _ ⟨s + 1 + 1 + 1, 0, none⟩ u1 (by show s + 1 + 1 + 1 < D; omega))).trans (KeepsHi.setCell _ ⟨s + 1 + 1 + 1 + 1, 0, none⟩ u2 (by show s + 1 + 1 + 1 + 1 < D; omega))
end
theorem six_boxes (w : World) (B : Nat) (lv n : Int) (t1 t2 t3 t4 t5 t6 : TypeId) : ∀ w6, w6 = (((((w.alloc (.cells #[.pointer (some ⟨B, 0, none⟩)] t1)).alloc (.cells #[.int .i64 lv] t2)).alloc (.cells #[.slice none 0 0, .slice none 0 0] t3)).alloc (.cells #[.bool false] t4)).alloc (.cells #[.bool false] t5)).alloc (.cells #[.int .i64 n] t6) →
  DecI w.heap.size B lv (.slice none 0 0) (.slice none 0 0) (.bool false) (.bool false) w w6 ∧ w6.cell? ⟨w.heap.size + 5, 0, none⟩ = some (.int .i64 n) ∧ w6.heap.size = w.heap.size + 6 := by
 obtain ⟨w1, e1⟩ : ∃ x, x = w.alloc (.cells #[.pointer (some ⟨B, 0, none⟩)] t1) := ⟨_, rfl⟩
 obtain ⟨w2, e2⟩ : ∃ x, x = w1.alloc (.cells #[.int .i64 lv] t2) := ⟨_, rfl⟩
 obtain ⟨w3, e3⟩ : ∃ x, x = w2.alloc (.cells #[.slice none 0 0, .slice none 0 0] t3) := ⟨_, rfl⟩
 obtain ⟨w4, e4⟩ : ∃ x, x = w3.alloc (.cells #[.bool false] t4) := ⟨_, rfl⟩
 obtain ⟨w5, e5⟩ : ∃ x, x = w4.alloc (.cells #[.bool false] t5) := ⟨_, rfl⟩
 rw [← e1, ← e2, ← e3, ← e4, ← e5]
 intro w6 e6
 have s1 : w1.heap.size = w.heap.size + 1 := by rw [e1]; simp
 have s2 : w2.heap.size = w.heap.size + 1 + 1 := by rw [e2]; simp [s1]
 have s3 : w3.heap.size = w.heap.size + 1 + 1 + 1 := by rw [e3]; simp [s2]
 have s4 : w4.heap.size = w.heap.size + 1 + 1 + 1 + 1 := by rw [e4]; simp [s3]
 have s5 : w5.heap.size = w.heap.size + 5 := by rw [e5]; simp [s4]
 have s6 : w6.heap.size = w.heap.size + 6 := by rw [e6]; simp [s5]
 have b1 : Below w.heap.size w w1 := by rw [e1]; exact (Below.refl _ _).alloc (Nat.le_refl _) _
 have b2 : Below w1.heap.size w1 w2 := by rw [e2]; exact (Below.refl _ _).alloc (Nat.le_refl _) _
 have b3 : Below w2.heap.size w2 w3 := by rw [e3]; exact (Below.refl _ _).alloc (Nat.le_refl _) _
 have b4 : Below w3.heap.size w3 w4 := by rw [e4]; exact (Below.refl _ _).alloc (Nat.le_refl _) _
 have b5 : Below w4.heap.size w4 w5 := by rw [e5]; exact (Below.refl _ _).alloc (Nat.le_refl _) _
 have b6 : Below w5.heap.size w5 w6 := by rw [e6]; exact (Below.refl _ _).alloc (Nat.le_refl _) _
 have x4 : Below w4.heap.size w4 w6 := b5.trans (b6.mono b5.size)
 have x3 : Below w3.heap.size w3 w6 := b4.trans (x4.mono b4.size)
 have x2 : Below w2.heap.size w2 w6 := b3.trans (x3.mono b3.size)
 have x1 : Below w1.heap.size w1 w6 := b2.trans (x2.mono b2.size)
 have h1 := heap_alloc_new w (.cells #[.pointer (some ⟨B, 0, none⟩)] t1)
 have h2 := heap_alloc_new w1 (.cells #[.int .i64 lv] t2)
 have h3 := heap_alloc_new w2 (.cells #[.slice none 0 0, .slice none 0 0] t3)
 have h4 := heap_alloc_new w3 (.cells #[.bool false] t4)
 have h5 := heap_alloc_new w4 (.cells #[.bool false] t5)
 have h6 := heap_alloc_new w5 (.cells #[.int .i64 n] t6)
 rw [← e1] at h1; rw [← e2] at h2; rw [← e3] at h3; rw [← e4] at h4; rw [← e5] at h5; rw [← e6] at h6
 have k1 := (x1.block w.heap.size (by omega)).trans h1
 have k2 := (x2.block w1.heap.size (by omega)).trans h2
 have k3 := (x3.block w2.heap.size (by omega)).trans h3
 have k4 := (x4.block w3.heap.size (by omega)).trans h4
 have k5 := (b6.block w4.heap.size (by omega)).trans h5
 rw [s1] at k2; rw [s2] at k3; rw [s3] at k4; rw [s4] at k5; rw [s5] at h6
 refine ⟨⟨?_, ?_, ?_, ?_, ?_, ?_, frozen_of_row _ _ _ _ _ k3, frozen_of_row _ _ _ _ _ k3, frozen_of_row _ _ _ _ _ k4, frozen_of_row _ _ _ _ _ k5, b1.trans (x1.mono b1.size)⟩, ?_, s6⟩
 ·rw [cell_of_row _ _ _ _ _ _ k1]; rfl
 ·rw [cell_of_row _ _ _ _ _ _ k2]; rfl
 ·rw [cell_of_row _ _ _ _ _ _ k3]; rfl
 ·rw [cell_of_row _ _ _ _ _ _ k3]; rfl
 ·rw [cell_of_row _ _ _ _ _ _ k4]; rfl
 ·rw [cell_of_row _ _ _ _ _ _ k5]; rfl
 ·rw [cell_of_row _ _ _ _ _ _ h6]; rfl
end

section
open Go.RowKit Go.Shelf
attribute [local go_sem] Oper.semAt_some
theorem find_none {α : Type} {p : α → Bool} {L : List α} (h : ∀ r ∈ L, p r = false) : L.find? p = none := by
 rw [List.find?_eq_none]; intro r hr; rw [h r hr]; simp
theorem find_first {α : Type} {p : α → Bool} {pre L : List α} {r : α} (hp : (pre ++ [r]) <+: L) (hn : ∀ x ∈ pre, p x = false) (hr : p r = true) : L.find? p = some r := by
 obtain ⟨t, rfl⟩ := hp
 rw [List.append_assoc, List.find?_append, find_none hn, Option.none_or]
 simp [hr]
theorem Lists.cells {W W' : World} {v : Value} {LL : List (List Int)} (h : Lists W v LL) (hk : ∀ a u, W.cell? a = some u → W'.cell? a = some u) : Lists W' v LL := by
 obtain ⟨sv, h1, h2⟩ := h
 exact ⟨sv, h1.cells hk, fun k hk' => by obtain ⟨u, a, b⟩ := h2 k hk'; exact ⟨u, a, b.cells hk⟩⟩
theorem OwnK.four {s b : Nat} {w : World} {v : Value} {K : List KRow} (h : OwnK b w v K) (hb : s + 6 ≤ b) (uo us u1 u2 : Value) : OwnK b ((((w.setCell ⟨s + 1 + 1, 0, none⟩ uo).setCell ⟨s + 1 + 1, 1, none⟩ us).setCell ⟨s + 1 + 1 + 1, 0, none⟩ u1).setCell ⟨s + 1 + 1 + 1 + 1, 0, none⟩ u2) v K :=
 have f : ∀ {n : Nat} {e : TypeId} {v : Value} {xs : List Value}, w.ownsRow b e 1 v n xs → ((((w.setCell ⟨s + 1 + 1, 0, none⟩ uo).setCell ⟨s + 1 + 1, 1, none⟩ us).setCell ⟨s + 1 + 1 + 1, 0, none⟩ u1).setCell ⟨s + 1 + 1 + 1 + 1, 0, none⟩ u2).ownsRow b e 1 v n xs := fun h =>
  ownsRow_setCell_below (ownsRow_setCell_below (ownsRow_setCell_below (ownsRow_setCell_below h (show s + 1 + 1 < b by omega) _) (show s + 1 + 1 < b by omega) _) (show s + 1 + 1 + 1 < b by omega) _) (show s + 1 + 1 + 1 + 1 < b by omega) _
 ⟨f h.kr, fun p hp => f (h.ke p hp)⟩
theorem own_four {s b n : Nat} {e : TypeId} {w : World} {v : Value} {xs : List Value} (h : w.ownsRow b e 1 v n xs) (hb : s + 6 ≤ b) (uo us u1 u2 : Value) : ((((w.setCell ⟨s + 1 + 1, 0, none⟩ uo).setCell ⟨s + 1 + 1, 1, none⟩ us).setCell ⟨s + 1 + 1 + 1, 0, none⟩ u1).setCell ⟨s + 1 + 1 + 1 + 1, 0, none⟩ u2).ownsRow b e 1 v n xs :=
 ownsRow_setCell_below (ownsRow_setCell_below (ownsRow_setCell_below (ownsRow_setCell_below h (show s + 1 + 1 < b by omega) _) (show s + 1 + 1 < b by omega) _) (show s + 1 + 1 + 1 < b by omega) _) (show s + 1 + 1 + 1 + 1 < b by omega) _
theorem dec_none {h : List TxnV} {lv : Int} {w : World} (h8 : h.length ≤ 8) (hf : (ordersN h.length).find? (keptL h lv) = none) : DecRes h lv (.tuple #[.agg #[.slice none 0 0, .slice none 0 0], .bool false, .bool true]) w := by
 unfold DecRes; rw [if_pos h8, hf]
theorem dec_many {h : List TxnV} {lv : Int} {w : World} (h8 : ¬ h.length ≤ 8) : DecRes h lv (.tuple #[.agg #[.slice none 0 0, .slice none 0 0], .bool false, .bool false]) w := by
 unfold DecRes; rw [if_neg h8]
theorem dec_some {h : List TxnV} {lv : Int} {w : World} {r : List Nat} {vo vs : Value} {X : Mat} (h8 : h.length ≤ 8) (hf : (ordersN h.length).find? (keptL h lv) = some r) (h1 : LeastIs h (askN lv) (r.map Int.ofNat) X) (h2 : Ints w vo (r.map Int.ofNat)) (h3 : Lists w vs (seesL X (r.map Int.ofNat).length)) :
  DecRes h lv (.tuple #[.agg #[vo, vs], .bool true, .bool true]) w := by
 unfold DecRes; rw [if_pos h8, hf]; exact ⟨vo, vs, X, rfl, h1, h2, h3⟩
theorem DecI.cells {s B : Nat} {lv : Int} {vo vs b1 b2 : Value} {w W W' : World} (q : DecI s B lv vo vs b1 b2 w W) (hb : Below (s + 6) W W') : DecI s B lv vo vs b1 b2 w W' := q.below hb (Nat.le_refl _)
structure DecX (h : List TxnV) (lv : Int) (s B : Nat) (w : World) (pre : List (List Nat)) (W : World) : Prop where
 ex : ∃ p r vo vs X, pre = p ++ [r] ∧ (∀ x ∈ p, keptL h lv x = false) ∧ keptL h lv r = true ∧ DecI s B lv vo vs (.bool true) (.bool true) w W ∧ LeastIs h (askN lv) (r.map Int.ofNat) X ∧ Ints W vo (r.map Int.ofNat) ∧ Lists W vs (seesL X (r.map Int.ofNat).length)
theorem DecX.put {h : List TxnV} {lv : Int} {s B : Nat} {w : World} {pre : List (List Nat)} {W : World} (q : DecX h lv s B w pre W) {k : Nat} {o o' : Obj} (hk : W.heap[k]? = some o') (ho : o'.isCells = false) (hs : s + 6 ≤ k) : DecX h lv s B w pre (W.putObj k o) := by
 obtain ⟨p, r, vo, vs, X, a1, a2, a3, a4, a5, a6, a7⟩ := q.ex
 have hc := put_cells (o := o) hk ho
 have hb : Below (s + 6) W (W.putObj k o) := (Below.refl _ W).grown (grownBy_putObj' W k o) (by have := (Array.getElem?_eq_some_iff.1 hk).1; omega) (fun j e => by cases e; omega)
 exact ⟨p, r, vo, vs, X, a1, a2, a3, a4.cells hb, a5, a6.cells hc, a7.cells hc⟩
theorem bdecide_any (lv : Int) (h : List TxnV) (B b : Nat) (w : World) (hO : OrdIs w B b h) (hc : checkI h = 0) (ht : Tab w) (hK : Kinds w) :
  Calls Tryz.prog 17 #[.pointer (some ⟨B, 0, none⟩), .int .i64 lv] w fun e w' => (∃ v, e = .returned v ∧ DecRes h lv v w') ∧ Below w.heap.size w w' := by
 have h64 := (check_zero hc).1
 have hg := ht.pos
 have n0 := hO.blk.cN
 have HC := hid hc
 have HB : Hid (∀ wx, Below w.heap.size w wx → (OrdIs wx B b h ∧ Tab wx ∧ Kinds wx) ∧ wx.cell? ⟨B, 0, none⟩ = w.cell? ⟨B, 0, none⟩) := hid (fun wx hb => ⟨⟨hO.below hb, ht.below hb hg, hK.below hb⟩, hb.cell (p := ⟨B, 0, none⟩) (block_lt n0)⟩)
 clear hO hc ht hK hg
 have hb5 : Below w.heap.size w (((((w.alloc (.cells #[.pointer (some ⟨B, 0, none⟩)] 25)).alloc (.cells #[.int .i64 lv] 35)).alloc (.cells #[.slice none 0 0, .slice none 0 0] 32)).alloc (.cells #[.bool false] 4)).alloc (.cells #[.bool false] 4)) := (((((Below.refl _ w).alloc (Nat.le_refl _) _).alloc (by simp) _).alloc (by simp; omega) _).alloc (by simp; omega) _).alloc (by simp; omega) _
 have n1 := (HB.out _ hb5).2.trans n0
 have HQ := hid (six_boxes w B lv (h.length : Int) 25 35 32 4 4 3 _ rfl)
 by_cases h8 : h.length ≤ 8
 ·refine (callsIn_wide (n := 3)).1 ?_
  refine callsIn_of_wp_marks Tryz.func17 rfl trivial ?_ rfl
  simp only [Tryz.ntmps17, List.size_toArray, List.length_cons, List.length_nil, Nat.reduceAdd, Nat.reduceSub, Array.replicate_succ, Array.replicate_zero, List.push_toArray, List.append_toArray, List.nil_append, List.cons_append]
  have h8i : ¬ (8 : Int) < (h.length : Int) := by omega
  have hs3 : (((((w.alloc (.cells #[.pointer (some ⟨B, 0, none⟩)] 25)).alloc (.cells #[.int .i64 lv] 35)).alloc (.cells #[.slice none 0 0, .slice none 0 0] 32)).alloc (.cells #[.bool false] 4)).alloc (.cells #[.bool false] 4)).heap.size = w.heap.size + 5 := by simp
  have HM := hid (orders_any (h.length : Int) (((((w.alloc (.cells #[.pointer (some ⟨B, 0, none⟩)] 25)).alloc (.cells #[.int .i64 lv] 35)).alloc (.cells #[.slice none 0 0, .slice none 0 0] 32)).alloc (.cells #[.bool false] 4)).alloc (.cells #[.bool false] 4)))
  rw [hs3] at HM
  clear hb5 hs3
  gi_wp2_with (refine ⟨trivial, ?_⟩; gi_at_call 67; refine ((callsIn_wide (n := _)).2 HM.out).mono ?_; rintro e w' ⟨rfl, rfl⟩)
  clear HM n1
  generalize (((((w.alloc (.cells #[.pointer (some ⟨B, 0, none⟩)] 25)).alloc (.cells #[.int .i64 lv] 35)).alloc (.cells #[.slice none 0 0, .slice none 0 0] 32)).alloc (.cells #[.bool false] 4)).alloc (.cells #[.bool false] 4)).alloc (.cells #[.int .i64 (h.length : Int)] 3) = W4 at *
  obtain ⟨q4, c4, s4⟩ := HQ.out
  have hs : w.heap.size + 6 ≤ W4.heap.size := by omega
  refine range_rows (gf := 118) (lb := #[.pointer (some ⟨w.heap.size + 5, 0, none⟩)]) (L := ordersN h.length) rfl (by omega) rfl trivial (fun args w => by kernel_rfl)
   (orders_seq _ h.length (w.heap.size + 5) W4 (by omega) (by omega) c4) (Below.refl _ _) rfl
   (fun pre W => DecI w.heap.size B lv (.slice none 0 0) (.slice none 0 0) (.bool false) (.bool false) w W ∧ ∀ r ∈ pre, keptL h lv r = false)
   (fun pre W => DecX h lv w.heap.size B w pre W)
   (fun pre A B q hb => ⟨q.1.below hb hs, q.2⟩) (fun pre A r o q hl => q.put hl rfl (by omega)) ⟨q4, fun r hr => by cases hr⟩
   (fun v => { tmps := #[.pointer (some ⟨B, 0, none⟩), .int .i64 lv, .pointer (some ⟨w.heap.size, 0, none⟩), .pointer (some ⟨w.heap.size + 1, 0, none⟩), .pointer (some ⟨w.heap.size + 1 + 1, 0, none⟩), .pointer (some ⟨w.heap.size + 1 + 1 + 1, 0, none⟩), .pointer (some ⟨w.heap.size + 1 + 1 + 1 + 1, 0, none⟩), v, undef, undef, .pointer (some ⟨B, 0, none⟩), .pointer (some ⟨B, 0, none⟩), .pointer (some ⟨B, 0, none⟩), .int .i64 (h.length : Int), .bool false, undef, .pointer (some ⟨B, 0, none⟩), .pointer (some ⟨B, 0, none⟩), .pointer (some ⟨B, 0, none⟩), .int .i64 (h.length : Int), .func (.func 118) #[] #[.pointer (some ⟨w.heap.size + 5, 0, none⟩)], v, undef, undef, undef, undef, undef, undef, undef, undef, undef, undef, undef, undef], defers := [] }) ?assign ?body ?done ?stop
  case assign =>
   intro l v W K hK
   gi_wp2
   exact hK
  case body =>
   intro l pre v r W q hr hpre hsz
   obtain ⟨q, hno⟩ := q
   have hmem := mem_of_prefix hpre
   have q0 := q.c0
   have q1 := q.c1
   have HT : Hid (∀ wx, Below W.heap.size W wx → Tab wx) := hid (fun wx hb => (HB.out wx (q.bel.trans (hb.mono q.bel.size))).1.2.1)
   obtain ⟨⟨hO, ht, hK⟩, _⟩ := HB.out W q.bel
   have CI := hid (bin_kept lv v r h B b W hO HC.out ht hK hr.1 hmem)
   have HQ := hid q
   have HR := hid hr
   have HNO := hid hno
   have hl64 : (r.map Int.ofNat).length ≤ 64 := by
    have := (mem_exts hmem).2.2.1
    rw [List.length_map]; simp at this; omega
   clear q hr hno hpre hO ht hK hmem
   gi_wp2_with fail
   refine ⟨trivial, ?_⟩
   refine (CallsIn.inRound l ((callsIn_wide (n := _)).2 CI.out)).mono ?_
   rintro e w5 ⟨⟨X, hX, rfl⟩, hb5⟩
   have z5 := zero_block w5
   have hb6 : Below W.heap.size W ((w5.alloc (.cells #[.int .u64 0, .int .u64 0, .int .u64 0, .int .u64 0, .int .u64 0, .int .u64 0, .int .u64 0, .int .u64 0, .int .u64 0, .int .u64 0, .int .u64 0, .int .u64 0, .int .u64 0, .int .u64 0, .int .u64 0, .int .u64 0, .int .u64 0, .int .u64 0, .int .u64 0, .int .u64 0, .int .u64 0, .int .u64 0, .int .u64 0, .int .u64 0, .int .u64 0, .int .u64 0, .int .u64 0, .int .u64 0, .int .u64 0, .int .u64 0, .int .u64 0, .int .u64 0, .int .u64 0, .int .u64 0, .int .u64 0, .int .u64 0, .int .u64 0, .int .u64 0, .int .u64 0, .int .u64 0, .int .u64 0, .int .u64 0, .int .u64 0, .int .u64 0, .int .u64 0, .int .u64 0, .int .u64 0, .int .u64 0, .int .u64 0, .int .u64 0, .int .u64 0, .int .u64 0, .int .u64 0, .int .u64 0, .int .u64 0, .int .u64 0, .int .u64 0, .int .u64 0, .int .u64 0, .int .u64 0, .int .u64 0, .int .u64 0, .int .u64 0, .int .u64 0] 97)).setRow w5.heap.size (rowsA X)) := below_setRow (below_then hb5 (box_below w5 (.cells #[.int .u64 0, .int .u64 0, .int .u64 0, .int .u64 0, .int .u64 0, .int .u64 0, .int .u64 0, .int .u64 0, .int .u64 0, .int .u64 0, .int .u64 0, .int .u64 0, .int .u64 0, .int .u64 0, .int .u64 0, .int .u64 0, .int .u64 0, .int .u64 0, .int .u64 0, .int .u64 0, .int .u64 0, .int .u64 0, .int .u64 0, .int .u64 0, .int .u64 0, .int .u64 0, .int .u64 0, .int .u64 0, .int .u64 0, .int .u64 0, .int .u64 0, .int .u64 0, .int .u64 0, .int .u64 0, .int .u64 0, .int .u64 0, .int .u64 0, .int .u64 0, .int .u64 0, .int .u64 0, .int .u64 0, .int .u64 0, .int .u64 0, .int .u64 0, .int .u64 0, .int .u64 0, .int .u64 0, .int .u64 0, .int .u64 0, .int .u64 0, .int .u64 0, .int .u64 0, .int .u64 0, .int .u64 0, .int .u64 0, .int .u64 0, .int .u64 0, .int .u64 0, .int .u64 0, .int .u64 0, .int .u64 0, .int .u64 0, .int .u64 0, .int .u64 0] 97))) hb5.size (rowsA X)
   have HQ6 := hid (HQ.out.below hb6 (Nat.le_trans hs (by omega)))
   have HK6 : Hid (KeepsHi W4.heap.size W ((w5.alloc (.cells #[.int .u64 0, .int .u64 0, .int .u64 0, .int .u64 0, .int .u64 0, .int .u64 0, .int .u64 0, .int .u64 0, .int .u64 0, .int .u64 0, .int .u64 0, .int .u64 0, .int .u64 0, .int .u64 0, .int .u64 0, .int .u64 0, .int .u64 0, .int .u64 0, .int .u64 0, .int .u64 0, .int .u64 0, .int .u64 0, .int .u64 0, .int .u64 0, .int .u64 0, .int .u64 0, .int .u64 0, .int .u64 0, .int .u64 0, .int .u64 0, .int .u64 0, .int .u64 0, .int .u64 0, .int .u64 0, .int .u64 0, .int .u64 0, .int .u64 0, .int .u64 0, .int .u64 0, .int .u64 0, .int .u64 0, .int .u64 0, .int .u64 0, .int .u64 0, .int .u64 0, .int .u64 0, .int .u64 0, .int .u64 0, .int .u64 0, .int .u64 0, .int .u64 0, .int .u64 0, .int .u64 0, .int .u64 0, .int .u64 0, .int .u64 0, .int .u64 0, .int .u64 0, .int .u64 0, .int .u64 0, .int .u64 0, .int .u64 0, .int .u64 0, .int .u64 0] 97)).setRow w5.heap.size (rowsA X))) := hid (KeepsHi.of_below hb6)
   cases hk : keptL h lv r with
   | false =>
    have HKF := hid hk
    clear hb5 hb6 CI hk
    gi_wp2_with (with_reducible refine wpListIn_store_rel z5 X rfl _ _ rfl rfl rfl ?_)
    refine ⟨HK6.out, HQ6.out, fun x hx => ?_⟩
    rcases List.mem_append.1 hx with hx | hx
    ·exact HNO.out x hx
    ·rw [List.mem_singleton.1 hx]; exact HKF.out
   | true =>
    have HX := hid (hX hk)
    have HKT := hid hk
    have r7 : RelAt ((w5.alloc (.cells #[.int .u64 0, .int .u64 0, .int .u64 0, .int .u64 0, .int .u64 0, .int .u64 0, .int .u64 0, .int .u64 0, .int .u64 0, .int .u64 0, .int .u64 0, .int .u64 0, .int .u64 0, .int .u64 0, .int .u64 0, .int .u64 0, .int .u64 0, .int .u64 0, .int .u64 0, .int .u64 0, .int .u64 0, .int .u64 0, .int .u64 0, .int .u64 0, .int .u64 0, .int .u64 0, .int .u64 0, .int .u64 0, .int .u64 0, .int .u64 0, .int .u64 0, .int .u64 0, .int .u64 0, .int .u64 0, .int .u64 0, .int .u64 0, .int .u64 0, .int .u64 0, .int .u64 0, .int .u64 0, .int .u64 0, .int .u64 0, .int .u64 0, .int .u64 0, .int .u64 0, .int .u64 0, .int .u64 0, .int .u64 0, .int .u64 0, .int .u64 0, .int .u64 0, .int .u64 0, .int .u64 0, .int .u64 0, .int .u64 0, .int .u64 0, .int .u64 0, .int .u64 0, .int .u64 0, .int .u64 0, .int .u64 0, .int .u64 0, .int .u64 0, .int .u64 0] 97)).setRow w5.heap.size (rowsA X)) w5.heap.size 97 X := z5.setRow X
    have CW := hid (awitness_own v (r.map Int.ofNat) X ((w5.alloc (.cells #[.int .u64 0, .int .u64 0, .int .u64 0, .int .u64 0, .int .u64 0, .int .u64 0, .int .u64 0, .int .u64 0, .int .u64 0, .int .u64 0, .int .u64 0, .int .u64 0, .int .u64 0, .int .u64 0, .int .u64 0, .int .u64 0, .int .u64 0, .int .u64 0, .int .u64 0, .int .u64 0, .int .u64 0, .int .u64 0, .int .u64 0, .int .u64 0, .int .u64 0, .int .u64 0, .int .u64 0, .int .u64 0, .int .u64 0, .int .u64 0, .int .u64 0, .int .u64 0, .int .u64 0, .int .u64 0, .int .u64 0, .int .u64 0, .int .u64 0, .int .u64 0, .int .u64 0, .int .u64 0, .int .u64 0, .int .u64 0, .int .u64 0, .int .u64 0, .int .u64 0, .int .u64 0, .int .u64 0, .int .u64 0, .int .u64 0, .int .u64 0, .int .u64 0, .int .u64 0, .int .u64 0, .int .u64 0, .int .u64 0, .int .u64 0, .int .u64 0, .int .u64 0, .int .u64 0, .int .u64 0, .int .u64 0, .int .u64 0, .int .u64 0, .int .u64 0] 97)).setRow w5.heap.size (rowsA X)) (HT.out _ hb6) (HR.out.1.below hb6) hl64)
    have hsz7 : w.heap.size + 6 ≤ (((w5.alloc (.cells #[.int .u64 0, .int .u64 0, .int .u64 0, .int .u64 0, .int .u64 0, .int .u64 0, .int .u64 0, .int .u64 0, .int .u64 0, .int .u64 0, .int .u64 0, .int .u64 0, .int .u64 0, .int .u64 0, .int .u64 0, .int .u64 0, .int .u64 0, .int .u64 0, .int .u64 0, .int .u64 0, .int .u64 0, .int .u64 0, .int .u64 0, .int .u64 0, .int .u64 0, .int .u64 0, .int .u64 0, .int .u64 0, .int .u64 0, .int .u64 0, .int .u64 0, .int .u64 0, .int .u64 0, .int .u64 0, .int .u64 0, .int .u64 0, .int .u64 0, .int .u64 0, .int .u64 0, .int .u64 0, .int .u64 0, .int .u64 0, .int .u64 0, .int .u64 0, .int .u64 0, .int .u64 0, .int .u64 0, .int .u64 0, .int .u64 0, .int .u64 0, .int .u64 0, .int .u64 0, .int .u64 0, .int .u64 0, .int .u64 0, .int .u64 0, .int .u64 0, .int .u64 0, .int .u64 0, .int .u64 0, .int .u64 0, .int .u64 0, .int .u64 0, .int .u64 0] 97)).setRow w5.heap.size (rowsA X))).heap.size := Nat.le_trans (by omega) hb6.size
    clear hb5 hb6 CI hk hX
    gi_wp2_with (first
     | (with_reducible refine wpListIn_store_rel z5 X rfl _ _ rfl rfl rfl ?_)
     | (with_reducible refine wpListIn_load_rel r7 rfl _ rfl rfl ?_))
    refine ⟨trivial, ?_⟩
    refine (CallsIn.inRound l ((callsIn_wide (n := _)).2 CW.out)).mono ?_
    rintro e w8 ⟨⟨vo, vs, K, rfl, ho8, hk8, hK8⟩, hb8⟩
    obtain ⟨oo, oc, rfl⟩ := owns_form ho8
    obtain ⟨so, sc, rfl⟩ := owns_form hk8.kr
    have q8 := HQ6.out.below hb8 hsz7
    have HP := hid (q8.put (.slice oo (r.map Int.ofNat).length oc) (.slice so K.length sc) (.bool true) (.bool true))
    have HK8 : Hid (KeepsHi W4.heap.size W w8) := hid (HK6.out.trans (KeepsHi.of_below hb8))
    have HKK := hid (keeps_four (s := w.heap.size) (D := W4.heap.size) w8 (.slice oo (r.map Int.ofNat).length oc) (.slice so K.length sc) (.bool true) (.bool true) hs)
    have HO8 := hid (own_four ho8 hsz7 (.slice oo (r.map Int.ofNat).length oc) (.slice so K.length sc) (.bool true) (.bool true))
    have HL8 := hid (hk8.four hsz7 (.slice oo (r.map Int.ofNat).length oc) (.slice so K.length sc) (.bool true) (.bool true))
    have c2 := q8.c2
    have d2 := q8.d2
    have c3 := q8.c3
    have c4 := q8.c4
    have f2 := q8.f2
    have g2 := q8.g2
    have f3 := q8.f3
    have f4 := q8.f4
    have HKM := hid hK8
    clear q8 ho8 hk8 hK8 hb8 z5 r7
    rw [List.length_map] at HP HKK HO8 HL8
    gi_wp2
    exact ⟨HK8.out.trans HKK.out, ⟨⟨pre, r, _, _, X, rfl, HNO.out, HKT.out, HP.out, HX.out, Ints.of_owns HO8.out, by rw [← HKM.out]; exact HL8.out.lists⟩⟩⟩
  case done =>
   intro W q hK
   obtain ⟨q, hno⟩ := q
   have HD := hid (fun w => dec_none (w := w) h8 (find_none hno))
   have hDW := (Array.getElem?_eq_some_iff.1 hK).1
   have HKK := hid (keeps_four (s := w.heap.size) (D := W4.heap.size) W (.slice none 0 0) (.slice none 0 0) (.bool false) (.bool true) hs)
   have HP := hid (q.put (.slice none 0 0) (.slice none 0 0) (.bool false) (.bool true))
   have c2 := q.c2
   have d2 := q.d2
   have c3 := q.c3
   have c4 := q.c4
   have f2 := q.f2
   have g2 := q.g2
   have f3 := q.f3
   have f4 := q.f4
   clear q hno
   gi_wp2
   have hK4 := (HKK.out.same W4.heap.size (Nat.le_refl _) hDW).trans hK
   have HP2 := HP.out.below (D := W4.heap.size) ((Below.refl _ _).grown (grownBy_putObj' _ W4.heap.size (.deferred none)) (by have := HKK.out.size; omega) (fun j e => by cases e; exact Nat.le_refl _)) hs
   refine ⟨by simp, .inl ⟨_, _, rfl, run_takeDeferred hK4, ?_⟩⟩
   exact ⟨_, results_dec rfl _ _ _ _ _ _ _ _ _ rfl rfl rfl HP2.c2 HP2.d2 HP2.c3 HP2.c4, ⟨_, rfl, HD.out _⟩, HP2.bel⟩
  case stop =>
   intro pre W hpre q hK
   obtain ⟨p, r, vo, vs, X, rfl, a2, a3, a4, a5, a6, a7⟩ := (q.put (o := .deferred none) hK rfl hs).ex
   gi_wp2
   refine ⟨by simp, .inl ⟨_, _, rfl, run_takeDeferred hK, ?_⟩⟩
   exact ⟨_, results_dec rfl _ _ _ _ _ _ _ _ _ rfl rfl rfl a4.c2 a4.d2 a4.c3 a4.c4, ⟨_, rfl, dec_some h8 (find_first hpre a2 a3) a5 a6 a7⟩, a4.bel⟩
 ·have h8i : (8 : Int) < (h.length : Int) := by omega
  have HD := hid (fun w => dec_many (h := h) (lv := lv) (w := w) h8)
  clear h8
  go_enter Tryz.func17, Tryz.ntmps17
  obtain ⟨q6, _, _⟩ := HQ.out
  have b56 := box_below (((((w.alloc (.cells #[.pointer (some ⟨B, 0, none⟩)] 25)).alloc (.cells #[.int .i64 lv] 35)).alloc (.cells #[.slice none 0 0, .slice none 0 0] 32)).alloc (.cells #[.bool false] 4)).alloc (.cells #[.bool false] 4)) (.cells #[.int .i64 (h.length : Int)] 3)
  have hs5 : (((((w.alloc (.cells #[.pointer (some ⟨B, 0, none⟩)] 25)).alloc (.cells #[.int .i64 lv] 35)).alloc (.cells #[.slice none 0 0, .slice none 0 0] 32)).alloc (.cells #[.bool false] 4)).alloc (.cells #[.bool false] 4)).heap.size = w.heap.size + 5 := by simp
  have c2 := (b56.cell (p := ⟨w.heap.size + 1 + 1, 0, none⟩) (by rw [hs5]; show w.heap.size + 1 + 1 < _; omega)).symm.trans q6.c2
  have d2 := (b56.cell (p := ⟨w.heap.size + 1 + 1, 1, none⟩) (by rw [hs5]; show w.heap.size + 1 + 1 < _; omega)).symm.trans q6.d2
  have c3 := (b56.cell (p := ⟨w.heap.size + 1 + 1 + 1, 0, none⟩) (by rw [hs5]; show w.heap.size + 1 + 1 + 1 < _; omega)).symm.trans q6.c3
  have c4 := (b56.cell (p := ⟨w.heap.size + 1 + 1 + 1 + 1, 0, none⟩) (by rw [hs5]; show w.heap.size + 1 + 1 + 1 + 1 < _; omega)).symm.trans q6.c4
  have H2 := hid c2
  have H3 := hid d2
  have H4 := hid c3
  have H5 := hid c4
  clear c2 d2 c3 c4 q6 b56 hs5
  go_wp2_with fail
  exact bodyPost_ret (results_dec rfl _ _ _ _ _ _ _ _ _ rfl rfl rfl H2.out H3.out H4.out H5.out) rfl ⟨⟨_, rfl, HD.out _⟩, hb5⟩
end

section
open Go.RowKit
theorem step_append_run {P : Program} (w : World) {ops : Array Oper} {o : Oper} {a : Act} {K : Act → World → Prop} {Q : Exit → Act → World → Prop} {E : Prop} (hgd : o.guard = none) (s x : Operand) (t : TypeId)
  (ho : o.op = .call { callee := .builtin .append, args := #[s, x], argTypes := #[t, t] }) {vs vx v' : Value} {w' : World} (hs : a.eval s = vs) (hx : a.eval x = vx)
  (hrun : Sem.run P (Builtin.append_ #[t, t] o.type #[vs, vx]) w = .ok v' w') (h : K (a.put o.dst v') w') :
  if Region.wanted o (yielded ops a.tmps) = true then Oper.wp P o a w K Q else E := by
 have hw : Region.wanted o (yielded ops a.tmps) = true := by simp [Region.wanted, hgd]
 rw [if_pos hw]
 unfold Oper.wp execOp
 simp only [ho, resolve, invoke, builtin, Sem.run_bind, Sem.run_pure, Result.andThen_ok, List.map_toArray, List.map_cons, List.map_nil, hs, hx, hrun]
 exact h
theorem run_copy {w : World} {base : Nat} (ty : TypeId) {g : Nat} (hown : w.ownsRow base 3 1 (.slice (some ⟨g, 0, none⟩) 0 0) 0 []) {ao : Option Addr} {c : Nat} {r : List Nat} (hr : Ints w (.slice ao r.length c) (r.map Int.ofNat)) (hl : r.length ≤ 1000) (hbase : base ≤ w.heap.size) :
  ∃ a1 c1 w1, Sem.run Tryz.prog (Builtin.append_ #[29, 29] ty #[.slice (some ⟨g, 0, none⟩) 0 0, .slice ao r.length c]) w = .ok (.slice a1 r.length c1) w1
   ∧ w1.ownsRow base 3 1 (.slice a1 r.length c1) r.length (r.map fun i : Nat => .int .i64 (i : Int)) ∧ w.grownBy w1 (some g) := by
 obtain ⟨i0, hi0, hz0, hz1, hz2⟩ := info_parts infoIntC
 cases ao with
 | none =>
  obtain ⟨_, ao', cap', e, hm, hno, _⟩ := hr
  rw [List.length_map] at hno hm
  obtain ⟨e1, e2⟩ : none = ao' ∧ c = cap' := by simpa using e
  subst e1; subst e2
  obtain ⟨h0, hc0⟩ := hno rfl
  have hr0 : r = [] := List.eq_nil_of_length_eq_zero h0
  subst hr0
  subst hc0
  exact ⟨_, _, w, run_append_nothing (P := Tryz.prog) w 29 29 ty 3 i0 rfl hi0 _ 0 0 (Nat.le_refl _) _ (Src.ofNil w rfl 0), hown, ⟨rfl, rfl, rfl, Nat.le_refl _, fun _ _ _ => rfl⟩⟩
 | some ad =>
  have hnews : ∀ i u, (r.map fun i : Nat => Value.int .i64 (i : Int))[i]? = some u → w.cell? (ad.add i) = some u := fun i u hu => by
   have hi : i < r.length := by
    have := (List.getElem?_eq_some_iff.1 hu).1
    simpa using this
   obtain ⟨_, ao', cap', e, _, _, hc⟩ := hr
   rw [List.length_map] at e hc
   obtain ⟨b, off, e2, hcell⟩ := hc (by omega)
   obtain ⟨e3, _⟩ : some ad = ao' ∧ c = cap' := by simpa using e
   rw [e2] at e3
   obtain rfl : ad = ⟨b, off, none⟩ := by injection e3
   rw [Addr.add_lit, hcell i (by omega), ← hu, List.map_map]; rfl
  have hone : ∀ u ∈ (r.map fun i : Nat => Value.int .i64 (i : Int)), u.oneCell' = true := fun u hu => by
   obtain ⟨x, _, rfl⟩ := List.mem_map.1 hu
   rfl
  obtain ⟨v1, w1, q1, q2, q3, _⟩ := run_append_own (P := Tryz.prog) w base 29 ty 3 i0 (.int .i64 0) 1 8 Tryz.underlying29 hi0 hz0 hz1 hz2 rfl (by decide) (.slice (some ⟨g, 0, none⟩) 0 0) 0 [] hown ad r.length c _ (by simp) hnews hone (by unfold maxLen; omega) (by omega) hbase
  rw [Nat.zero_add, List.nil_append] at q2
  obtain ⟨a1, c1, rfl⟩ := owns_form q2
  exact ⟨a1, c1, w1, q1, q2, q3⟩
theorem run_more {w : World} {base : Nat} (ty : TypeId) {v : Value} {r : List Nat} (hown : w.ownsRow base 3 1 v r.length (r.map fun i : Nat => .int .i64 (i : Int))) {ad : Addr} {x : Nat} (hx : Ints w (.slice (some ad) 1 1) [(x : Int)]) (hl : r.length ≤ 1000) (hbase : base ≤ w.heap.size) :
  ∃ a2 c2 w2, Sem.run Tryz.prog (Builtin.append_ #[29, 29] ty #[v, .slice (some ad) 1 1]) w = .ok (.slice a2 (r.length + 1) c2) w2
   ∧ Ints w2 (.slice a2 (r.length + 1) c2) ((r ++ [x]).map Int.ofNat) ∧ w.grownBy w2 v.ownBlock := by
 obtain ⟨i0, hi0, hz0, hz1, hz2⟩ := info_parts infoIntC
 obtain ⟨v2, w2, p1, p2, p3, _⟩ := run_append_own (P := Tryz.prog) w base 29 ty 3 i0 (.int .i64 0) 1 8 Tryz.underlying29 hi0 hz0 hz1 hz2 rfl (by decide) v r.length _ hown ad 1 1 [.int .i64 (x : Int)] rfl (by
   intro j u hu
   cases j with
   | zero =>
    simp at hu; subst hu
    obtain ⟨_, ao', cap', e, _, _, hc⟩ := hx
    obtain ⟨b, off, e2, hcell⟩ := hc (by simp)
    obtain ⟨e3, _⟩ : some ad = ao' ∧ 1 = cap' := by simpa using e
    rw [e2] at e3
    obtain rfl : ad = ⟨b, off, none⟩ := by injection e3
    rw [Addr.add_lit]
    exact hcell 0 (by simp)
   | succ j => simp at hu) (by intro u hu; simp at hu; subst hu; rfl) (by unfold maxLen; omega) (by omega) hbase
 obtain ⟨a2, c2, rfl⟩ := owns_form p2
 exact ⟨a2, c2, w2, p1, Ints.of_nats (base := base) (e := 3) (n := r.length + 1) (by rw [List.map_append]; exact p2), p3⟩
theorem ints_one (w : World) (x : Nat) : Ints (w.alloc (.cells #[.int .i64 (x : Int)] 3)) (.slice (some ⟨w.heap.size, 0, none⟩) 1 1) [(x : Int)] :=
 Ints.of_nats (l := [x]) (base := 0) (e := 3) (n := 1) (World.ownsRow_lit (size := 1) _ _ _ (Nat.zero_le _) (by decide) (by rfl))
end

section
open Go.RowKit
theorem filter_without {L : List Nat} (hnd : L.Nodup) {i : Nat} (hi : i < L.length) : L.filter (· != L[i]) = L.take i ++ L.drop (i + 1) := by
 have e : L = L.take i ++ L[i] :: L.drop (i + 1) := by rw [← List.drop_eq_getElem_cons hi, List.take_append_drop]
 have key : ∀ (A : List Nat) (x : Nat) (B : List Nat), (A ++ x :: B).Nodup → (A ++ x :: B).filter (· != x) = A ++ B := fun A x B h => by
  obtain ⟨_, h2, h3⟩ := List.nodup_append.1 h
  obtain ⟨h4, _⟩ := List.nodup_cons.1 h2
  rw [List.filter_append, List.filter_cons, if_neg (by simp), List.filter_eq_self.2 (fun a ha => by simpa using h3 a ha x (List.mem_cons_self ..)), List.filter_eq_self.2 (fun a ha => by
   rw [bne_iff_ne]; rintro rfl; exact h4 ha)]
 have := key (L.take i) L[i] (L.drop (i + 1)) (by rw [← e]; exact hnd)
 rw [← e] at this; exact this
def cnlTo (p : List Nat → Bool) (k : Nat) (r left : List Nat) (j : Nat) : Nat := ((left.take j).map fun x => cntL p k (r ++ [x]) (left.filter (· != x))).sum
theorem cnlTo_succ {p : List Nat → Bool} {k : Nat} {r left : List Nat} {j : Nat} (hj : j < left.length) (hnd : left.Nodup) : cnlTo p k r left (j + 1) = cnlTo p k r left j + cntL p k (r ++ [left[j]]) (left.take j ++ left.drop (j + 1)) := by
 unfold cnlTo
 rw [List.take_succ_eq_append_getElem hj, List.map_append, List.sum_append, ← filter_without hnd hj]; simp
theorem cnlTo_all (p : List Nat → Bool) (k : Nat) (r left : List Nat) : cnlTo p k r left left.length = cntL p (k + 1) r left := by unfold cnlTo; rw [List.take_length]; rfl
end

section
theorem zA11 {α : Type _} (l : List α) (i : Nat) (a : α) : l.toArray.setIfInBounds i a = (l.set i a).toArray := List.setIfInBounds_toArray ..
theorem zB11 {α : Type _} {x : α} {xs : List α} {a : α} : (x :: xs).set 0 a = a :: xs := List.set_cons_zero
theorem zC11 {α : Type _} {x : α} {xs : List α} {i : Nat} {a : α} : (x :: xs).set (i + 1) a = x :: xs.set i a := List.set_cons_succ
theorem tG11 {P : Program} {ops : Array Oper} {Q : Exit → Act → World → Prop} {md : Region.Mode} {S : World → Prop} (d : Option Tmp) (i : Nat) {oi : Oper} (v : Value) {fuel : Nat} {listed : Array Bool} {a : Act} {w : World} (hi : ops[i]? = some oi) (hd : oi.dst = d)
 (hy : YieldsIf P ops S oi v a) (hS : S w) (h : wpAnyH P md ops Q S fuel (listed.setIfInBounds i true) (a.put d v) w)
 (hs : Region.noSelect ops = true := by kernel_rfl) (hf : Region.free md ops listed i = true := by kernel_rfl) (hr : (Region.ready md ops listed).contains i = true := by kernel_rfl)
 (hQ : ∀ c a w, Q (.panic c) (a.put oi.dst v) w → Q (.panic c) a w := by exact fun _ _ _ h => h) : wpAnyH P md ops Q S (fuel + 1) listed a w := takeG d hi hd hs hf hr hQ hy hS h
theorem tA11 {P : Program} {ops : Array Oper} {Q : Exit → Act → World → Prop} {md : Region.Mode} {S : World → Prop} (d : Option Tmp) (i : Nat) {oi : Oper} {v : Value} {fuel : Nat} {listed : Array Bool} {a : Act} {w : World} (hi : ops[i]? = some oi) (hd : oi.dst = d)
 (hS : S w) (h : wpAnyH P md ops Q S fuel (listed.setIfInBounds i true) (a.put d v) w)
 (hy : YieldsIf P ops S oi v a := by exact Or.inl ⟨by rfl, by intro w _; go_simp; try (with_reducible rfl)⟩)
 (hs : Region.noSelect ops = true := by kernel_rfl) (hf : Region.free md ops listed i = true := by kernel_rfl) (hr : (Region.ready md ops listed).contains i = true := by kernel_rfl)
 (hQ : ∀ c a w, Q (.panic c) (a.put oi.dst v) w → Q (.panic c) a w := by exact fun _ _ _ h => h) : wpAnyH P md ops Q S (fuel + 1) listed a w := takeG d hi hd hs hf hr hQ hy hS h
theorem rD11 {P : Program} {ops : Array Oper} {Q : Exit → Act → World → Prop} {md : Region.Mode} {S : World → Prop} {fuel : Nat} {listed : Array Bool} {a : Act} {w : World} (i : Nat) {o : Oper} (ho : ops[i]? = some o)
 (h : ∀ K' : Act → World → Prop, Shut (∀ a w, S w → (S w → wpAnyH P md ops Q S fuel (listed.setIfInBounds i true) a w) → K' a w) → if Region.wanted o (yielded ops a.tmps) = true then Oper.wp P o a w K' Q else K' (a.put o.dst undef) w)
 (hr : Region.ready md ops listed = [i] := by kernel_rfl) : wpAnyH P md ops Q S (fuel + 1) listed a w := wpAnyH_ready hr (by simp) (AllReadyH.cons ho h AllReadyH.nil)
end
section
open Go.RowKit
theorem cnt_one {p : List Nat → Bool} {k : Nat} {r left : List Nat} {j : Nat} : cnlTo p k r left j ≤ cntL p (k + 1) r left := by
 rw [← cnlTo_all]
 unfold cnlTo
 have key : ∀ (l : List Nat) (i : Nat), ((l.take i).map fun x => cntL p k (r ++ [x]) (left.filter (· != x))).sum ≤ (l.map fun x => cntL p k (r ++ [x]) (left.filter (· != x))).sum := by
  intro l i
  conv => rhs; rw [← List.take_append_drop i l, List.map_append, List.sum_append]
  exact Nat.le_add_right _ _
 have := key left j
 rw [List.take_length]; exact this
def one1 (n : Nat) : Nat := if 0 < n then 1 else 0
theorem one_zero {n : Nat} (h : 0 = one1 n) : n = 0 := by unfold one1 at h; split at h <;> omega
theorem one_pos {n : Nat} (h : 1 = one1 n) : 0 < n := by unfold one1 at h; split at h <;> omega
theorem one_le (n : Nat) : one1 n ≤ 1 := by unfold one1; split <;> omega
theorem one_big {n m : Nat} (h : 1 = one1 n) (hl : n ≤ m) : 1 = one1 m := by have := one_pos h; unfold one1; rw [if_pos (by omega)]
set_option linter.unusedSimpArgs false in
theorem rcount1_any (va : Value) (h : List TxnV) (lv : Int) (hc : checkI h = 0) (hn : h.length ≤ 6) :
  ∀ (k : Nat) (vr vl : Value) (r left : List Nat) (w : World), left.length = k → (r ++ left).Perm (List.range h.length) → Txns w va h → Ints w vr (r.map Int.ofNat) → Ints w vl (left.map Int.ofNat) →
   Calls Tryz.prog 70 #[va, .int .i64 lv, vr, vl, .bool true] w fun e w' => e = .returned (.int .i64 ((one1 (cntL (keptL h lv) k r left) : Nat) : Int)) ∧ Below w.heap.size w w'
 | 0, vr, vl, r, left, w, hk, hp, hT, hR, hL => by
  obtain rfl : left = [] := List.eq_nil_of_length_eq_zero hk
  rw [List.append_nil] at hp
  have CI := hid (rin13_any va vr h lv r w hc hp hT hR)
  have HV : Hid ((if keptL h lv r then 1 else 0) = one1 (cntL (keptL h lv) 0 r [])) := hid (by unfold cntL; split <;> rfl)
  obtain ⟨ho, hcap, rfl, _⟩ := hT.form
  obtain ⟨ao, cap, rfl, _⟩ := hR.form
  obtain ⟨lo, lcap, rfl, _⟩ := hL.form
  simp only [List.length_map] at CI
  rw [List.length_map, List.map_nil, List.length_nil]
  generalize one1 (cntL (keptL h lv) 0 r []) = cn at *
  clear hT hR hL hp hk
  cases hkk : keptL h lv r with
  | true =>
   rw [hkk] at CI HV
   have HV2 : Hid ((1 : Int) = (cn : Int)) := hid (by have := HV.out; simp at this; omega)
   clear HV hkk
   go_enter Tryz.func70, Tryz.ntmps70
   go_wp2_with fail
   refine (CI.out).mono ?_
   rintro e w1 ⟨⟨v1, rfl, _⟩, h1⟩
   go_wp2_with fail
   go_ret
   exact ⟨ret_i HV2.out, h1⟩
  | false =>
   rw [hkk] at CI HV
   have HV2 : Hid ((0 : Int) = (cn : Int)) := hid (by have := HV.out; simp at this; omega)
   clear HV hkk
   go_enter Tryz.func70, Tryz.ntmps70
   go_wp2_with fail
   refine (CI.out).mono ?_
   rintro e w1 ⟨⟨v1, rfl, _⟩, h1⟩
   go_wp2_with fail
   go_ret
   exact ⟨ret_i HV2.out, h1⟩
 | k + 1, vr, vl, r, left, w, hk, hp, hT, hR, hL => by
  have IH := hid (fun vr vl r left w a b c d e => rcount1_any va h lv hc hn k vr vl r left w a b c d e)
  have hll : r.length + left.length = h.length := by have := hp.length_eq; simpa using this
  have hndA : (r ++ left).Nodup := (List.Perm.nodup_iff hp).2 List.nodup_range
  have HND : Hid left.Nodup := hid (List.nodup_append.1 hndA).2.1
  have HP := hid hp
  have HKK := hid hk
  have HT := hid (fun wx (hx : Below w.heap.size w wx) => hT.below hx)
  have HR := hid (fun wx (hx : Below w.heap.size w wx) => hR.below hx)
  have HL := hid (fun wx (hx : Below w.heap.size w wx) => hL.below hx)
  obtain ⟨ho, hcap, rfl, _⟩ := hT.form
  obtain ⟨ao, cap, rfl, _⟩ := hR.form
  obtain ⟨lo, lcap, rfl, _⟩ := hL.form
  simp only [List.length_map] at HR HL
  rw [List.length_map, List.length_map]
  have hl5 : left.length ≤ 6 := by omega
  have HLE : Hid (r.length ≤ 1000) := hid (by omega)
  have hq0 : ((left.length : Int) == 0) = false := by rw [beq_eq_false_iff_ne]; omega
  have hb0 := hid (Below.refl w.heap.size w)
  clear hk hp hT hR hL hndA hll
  go_enter Tryz.func70, Tryz.ntmps70
  go_wp2_with fail
  go_loopw [13, 14] (fun nv iv wr => ∃ i m : Nat, i ≤ left.length ∧ m ≤ 1 ∧ iv = .int .i64 (i : Int) ∧ nv = .int .i64 (m : Int) ∧ Hid (m = one1 (cnlTo (keptL h lv) k r left i)) ∧ Hid (Below w.heap.size w wr)) (fun _ iv _ => left.length - (intOf iv).toNat)
  case atStart => exact ⟨0, 0, by omega, by omega, rfl, rfl, hid rfl, hb0⟩
  case round =>
   clear hb0
   obtain ⟨i, m, hi, hm, rfl, rfl, HM, HB⟩ := hrel
   obtain rfl | rfl : m = 0 ∨ m = 1 := by omega
   rotate_left
   ·have HV : Hid ((1 : Int) = ((one1 (cntL (keptL h lv) (k + 1) r left) : Nat) : Int)) := hid (by rw [← one_big HM.out cnt_one]; rfl)
    by_cases hlt : i < left.length
    ·have hlti : (i : Int) < (left.length : Int) := by omega
     go_wp2_with fail
     go_ret
     exact ⟨ret_i HV.out, HB.out⟩
    ·have hlti : ¬ (i : Int) < (left.length : Int) := by omega
     go_wp2_with fail
     go_ret
     exact ⟨ret_i HV.out, HB.out⟩
   by_cases hlt : i < left.length
   ·have hlti : (i : Int) < (left.length : Int) := by omega
    obtain ⟨g, o, hgo, _⟩ := ints_at (HL.out _ HB.out) hlt
    cases hgo
    have HCl := hid (fun wx (hx : Below wr.heap.size wr wx) => by
     obtain ⟨g2, o2, e2, c2⟩ := ints_at (HL.out _ (below_then HB.out hx)) hlt
     cases e2
     exact c2)
    have HRr := hid (fun wx (hx : Below wr.heap.size wr wx) => HR.out _ (below_then HB.out hx))
    have CW := hid (fun wx (hx : Below wr.heap.size wr wx) => rwithout_any _ left i wx (HL.out _ (below_then HB.out hx)) hlt (by omega))
    have IHC := hid (fun v2 vl2 wx (hx : Below wr.heap.size wr wx) (h1 : Ints wx v2 ((r ++ [left[i]'hlt]).map Int.ofNat)) (h2 : Ints wx vl2 ((left.take i ++ left.drop (i + 1)).map Int.ofNat)) => IH.out v2 vl2 (r ++ [left[i]]) (left.take i ++ left.drop (i + 1)) wx (by have := HKK.out; simp; omega) ((perm_take r left i hlt).trans HP.out) (HT.out _ (below_then HB.out hx)) h1 h2)
    have HMS := hid (cnlTo_succ (p := keptL h lv) (k := k) (r := r) hlt HND.out)
    rw [one_zero HM.out, Nat.zero_add] at HMS
    have HMS := hid (congrArg one1 HMS.out)
    generalize left[i] = x at *
    have hms := one_le (cntL (keptL h lv) k (r ++ [x]) (left.take i ++ left.drop (i + 1)))
    generalize one1 (cntL (keptL h lv) k (r ++ [x]) (left.take i ++ left.drop (i + 1))) = cn at *
    have hwr2 : IntKind.i64.wrap (cn : Int) = (cn : Int) := by rw [IntKind.wrap_i64]; omega
    have hwr : IntKind.i64.wrap ((0 : Int) + (cn : Int)) = (cn : Int) := by rw [IntKind.wrap_i64]; omega
    have kd := (Below.refl wr.heap.size wr).drew
    have HB2 := hid (fun wx (hx : Below wr.heap.size wr wx) => below_then HB.out hx)
    clear HM HB
    go_upto_region 10 with fail
    refine wp_region_held_drew (S := Below wr.heap.size wr) (by kernel_rfl) kd (fun hS0 => ?_)
    generalize wr.drew = wd at *
    refine tA11 (some 40) 0 rfl rfl hS0 ?_
    try simp only [Act.put, zA11, zB11, zC11]
    refine tA11 (some 41) 1 rfl rfl hS0 ?_
    try simp only [Act.put, zA11, zB11, zC11]
    refine tA11 (some 42) 2 rfl rfl hS0 ?_
    try simp only [Act.put, zA11, zB11, zC11]
    refine tA11 (some 44) 4 rfl rfl hS0 ?_
    try simp only [Act.put, zA11, zB11, zC11]
    refine tA11 (some 46) 6 rfl rfl hS0 ?_
    try simp only [Act.put, zA11, zB11, zC11]
    refine tA11 (some 47) 7 rfl rfl hS0 ?_
    try simp only [Act.put, zA11, zB11, zC11]
    refine tA11 (some 48) 8 rfl rfl hS0 ?_
    try simp only [Act.put, zA11, zB11, zC11]
    refine tG11 (some 49) 9 ?vca9x8 rfl rfl (Or.inl ⟨by rfl, ?hca9x8⟩) hS0 ?rca9x8
    case hca9x8 => (intro wx hw; have q9 := HCl.out wx hw; go_simp; try (with_reducible rfl))
    try simp only [Act.put, zA11, zB11, zC11]
    refine tA11 (some 52) 12 rfl rfl hS0 ?_
    try simp only [Act.put, zA11, zB11, zC11]
    refine tA11 (some 53) 13 rfl rfl hS0 ?_
    try simp only [Act.put, zA11, zB11, zC11]
    refine tA11 (some 55) 15 rfl rfl hS0 ?_
    try simp only [Act.put, zA11, zB11, zC11]
    refine wpAnyH_ready (rs := [3, 10]) (by kernel_rfl) (by simp) ?_
    refine AllReadyH.cons rfl (fun K hK => ?_) (AllReadyH.cons rfl (fun K hK => ?_) AllReadyH.nil)
    ·
     go_simp
     have k12 := below_then kd (box_below wd (.cells #[] 3))
     have o12 : (wd.alloc (.cells #[] 3)).ownsRow wr.heap.size 3 1 (.slice (some ⟨wd.heap.size, 0, none⟩) 0 0) 0 [] := World.ownsRow_lit (size := 1) _ _ _ kd.size (by simp) (by simp)
     refine hK.out _ _ k12 (fun _ => ?_)
     clear hK K
     refine wpAnyH_ready (rs := [5, 10]) (by kernel_rfl) (by simp) ?_
     refine AllReadyH.cons rfl (fun K hK => ?_) (AllReadyH.cons rfl (fun K hK => ?_) AllReadyH.nil)
     ·
      obtain ⟨a13, d13, w13, q13, o13, g13⟩ := run_copy 29 o12 (HRr.out _ k12) HLE.out k12.size
      have HQ13 := hid q13
      have k13 := k12.grown g13 k12.size (fun j hj => by cases hj; exact kd.size)
      refine step_append_run _ rfl (.tmp 43) (.tmp 44) 29 rfl (by simp [Act.eval]) (by simp [Act.eval]) HQ13.out ?_
      refine hK.out _ _ k13 (fun _ => ?_)
      clear hK K q13 HQ13
      try simp only [Act.put, zA11, zB11, zC11]
      refine rD11 10 rfl (fun K hK => ?_)
      go_simp
      have k14 := below_then k13 (box_below w13 (.cells #[.int .i64 (x : Int)] 3))
      have c14 := ints_one w13 x
      have o14 := o13.alloc (.cells #[.int .i64 (x : Int)] 3)
      refine hK.out _ _ k14 (fun _ => ?_)
      clear hK K
      refine rD11 11 rfl (fun K hK => ?_)
      obtain ⟨a15, d15, w15, q15, i15, g15⟩ := run_more 29 o14 c14 HLE.out k14.size
      have HQ15 := hid q15
      have k15 := k14.grown g15 k14.size (fun j hj => (o14.lt j hj).1)
      refine step_append_run _ rfl (.tmp 45) (.tmp 50) 29 rfl (by simp [Act.eval]) (by simp [Act.eval]) HQ15.out ?_
      refine hK.out _ _ k15 (fun _ => ?_)
      clear hK K q15 HQ15 g15
      try simp only [Act.put, zA11, zB11, zC11]
      refine rD11 14 rfl (fun K hK => ?_)
      go_simp
      refine (CW.out _ k15).mono ?_
      rintro e y16 ⟨⟨v16, rfl, m16⟩, j16⟩
      show K _ _
      have s16 := below_then k15 j16
      have i16 := i15.below j16
      refine hK.out _ _ s16 (fun _ => ?_)
      clear hK K
      refine rD11 16 rfl (fun K hK => ?_)
      go_simp
      refine (IHC.out _ _ _ s16 i16 m16).mono ?_
      rintro e y17 ⟨rfl, j17⟩
      show K _ _
      have s17 := below_then s16 j17
      refine hK.out _ _ s17 (fun _ => ?_)
      clear hK K
      refine tA11 (some 57) 17 rfl rfl s17 ?_
      try simp only [Act.put, zA11, zB11, zC11]
      refine tA11 (some 13) 18 rfl rfl s17 ?_
      try simp only [Act.put, zA11, zB11, zC11]
      refine wpAnyH_done (by kernel_rfl) ?_ _
      have HB3 := hid (HB2.out _ s17)
      go_wp2_with fail
      go_roundw
      case rel => exact ⟨i + 1, cn, by omega, by omega, by go_num, by first | rfl | rw [hwr] | rw [hwr2] | go_num, hid HMS.out.symm, HB3⟩
      case measure => simp only [intOf]; omega
     ·
      go_simp
      have k20 := below_then k12 (box_below (wd.alloc (.cells #[] 3)) (.cells #[.int .i64 (x : Int)] 3))
      have c20 := ints_one (wd.alloc (.cells #[] 3)) x
      have o20 := o12.alloc (.cells #[.int .i64 (x : Int)] 3)
      refine hK.out _ _ k20 (fun _ => ?_)
      clear hK K
      refine rD11 5 rfl (fun K hK => ?_)
      obtain ⟨a21, d21, w21, q21, o21, g21⟩ := run_copy 29 o20 (HRr.out _ k20) HLE.out k20.size
      have HQ21 := hid q21
      have k21 := k20.grown g21 k20.size (fun j hj => by cases hj; exact kd.size)
      have c21 := c20.grown g21 (fun b hb => by cases hb; simp [Value.ownBlock])
      refine step_append_run _ rfl (.tmp 43) (.tmp 44) 29 rfl (by simp [Act.eval]) (by simp [Act.eval]) HQ21.out ?_
      refine hK.out _ _ k21 (fun _ => ?_)
      clear hK K q21 HQ21
      try simp only [Act.put, zA11, zB11, zC11]
      refine rD11 11 rfl (fun K hK => ?_)
      obtain ⟨a22, d22, w22, q22, i22, g22⟩ := run_more 29 o21 c21 HLE.out k21.size
      have HQ22 := hid q22
      have k22 := k21.grown g22 k21.size (fun j hj => (o21.lt j hj).1)
      refine step_append_run _ rfl (.tmp 45) (.tmp 50) 29 rfl (by simp [Act.eval]) (by simp [Act.eval]) HQ22.out ?_
      refine hK.out _ _ k22 (fun _ => ?_)
      clear hK K q22 HQ22 g22
      try simp only [Act.put, zA11, zB11, zC11]
      refine rD11 14 rfl (fun K hK => ?_)
      go_simp
      refine (CW.out _ k22).mono ?_
      rintro e y23 ⟨⟨v23, rfl, m23⟩, j23⟩
      show K _ _
      have s23 := below_then k22 j23
      have i23 := i22.below j23
      refine hK.out _ _ s23 (fun _ => ?_)
      clear hK K
      refine rD11 16 rfl (fun K hK => ?_)
      go_simp
      refine (IHC.out _ _ _ s23 i23 m23).mono ?_
      rintro e y24 ⟨rfl, j24⟩
      show K _ _
      have s24 := below_then s23 j24
      refine hK.out _ _ s24 (fun _ => ?_)
      clear hK K
      refine tA11 (some 57) 17 rfl rfl s24 ?_
      try simp only [Act.put, zA11, zB11, zC11]
      refine tA11 (some 13) 18 rfl rfl s24 ?_
      try simp only [Act.put, zA11, zB11, zC11]
      refine wpAnyH_done (by kernel_rfl) ?_ _
      have HB3 := hid (HB2.out _ s24)
      go_wp2_with fail
      go_roundw
      case rel => exact ⟨i + 1, cn, by omega, by omega, by go_num, by first | rfl | rw [hwr] | rw [hwr2] | go_num, hid HMS.out.symm, HB3⟩
      case measure => simp only [intOf]; omega
    ·
     go_simp
     have k27 := below_then kd (box_below wd (.cells #[.int .i64 (x : Int)] 3))
     have c27 := ints_one wd x
     refine hK.out _ _ k27 (fun _ => ?_)
     clear hK K
     refine rD11 3 rfl (fun K hK => ?_)
     go_simp
     have k28 := below_then k27 (box_below (wd.alloc (.cells #[.int .i64 (x : Int)] 3)) (.cells #[] 3))
     have o28 : ((wd.alloc (.cells #[.int .i64 (x : Int)] 3)).alloc (.cells #[] 3)).ownsRow wr.heap.size 3 1 (.slice (some ⟨(wd.alloc (.cells #[.int .i64 (x : Int)] 3)).heap.size, 0, none⟩) 0 0) 0 [] := World.ownsRow_lit (size := 1) _ _ _ k27.size (by simp) (by simp)
     have c28 := c27.below (box_below (wd.alloc (.cells #[.int .i64 (x : Int)] 3)) (.cells #[] 3))
     refine hK.out _ _ k28 (fun _ => ?_)
     clear hK K
     refine rD11 5 rfl (fun K hK => ?_)
     obtain ⟨a29, d29, w29, q29, o29, g29⟩ := run_copy 29 o28 (HRr.out _ k28) HLE.out k28.size
     have HQ29 := hid q29
     have k29 := k28.grown g29 k28.size (fun j hj => by cases hj; exact k27.size)
     have c29 := c28.grown g29 (fun b hb => by cases hb; simp [Value.ownBlock])
     refine step_append_run _ rfl (.tmp 43) (.tmp 44) 29 rfl (by simp [Act.eval]) (by simp [Act.eval]) HQ29.out ?_
     refine hK.out _ _ k29 (fun _ => ?_)
     clear hK K q29 HQ29
     try simp only [Act.put, zA11, zB11, zC11]
     refine rD11 11 rfl (fun K hK => ?_)
     obtain ⟨a30, d30, w30, q30, i30, g30⟩ := run_more 29 o29 c29 HLE.out k29.size
     have HQ30 := hid q30
     have k30 := k29.grown g30 k29.size (fun j hj => (o29.lt j hj).1)
     refine step_append_run _ rfl (.tmp 45) (.tmp 50) 29 rfl (by simp [Act.eval]) (by simp [Act.eval]) HQ30.out ?_
     refine hK.out _ _ k30 (fun _ => ?_)
     clear hK K q30 HQ30 g30
     try simp only [Act.put, zA11, zB11, zC11]
     refine rD11 14 rfl (fun K hK => ?_)
     go_simp
     refine (CW.out _ k30).mono ?_
     rintro e y31 ⟨⟨v31, rfl, m31⟩, j31⟩
     show K _ _
     have s31 := below_then k30 j31
     have i31 := i30.below j31
     refine hK.out _ _ s31 (fun _ => ?_)
     clear hK K
     refine rD11 16 rfl (fun K hK => ?_)
     go_simp
     refine (IHC.out _ _ _ s31 i31 m31).mono ?_
     rintro e y32 ⟨rfl, j32⟩
     show K _ _
     have s32 := below_then s31 j32
     refine hK.out _ _ s32 (fun _ => ?_)
     clear hK K
     refine tA11 (some 57) 17 rfl rfl s32 ?_
     try simp only [Act.put, zA11, zB11, zC11]
     refine tA11 (some 13) 18 rfl rfl s32 ?_
     try simp only [Act.put, zA11, zB11, zC11]
     refine wpAnyH_done (by kernel_rfl) ?_ _
     have HB3 := hid (HB2.out _ s32)
     go_wp2_with fail
     go_roundw
     case rel => exact ⟨i + 1, cn, by omega, by omega, by go_num, by first | rfl | rw [hwr] | rw [hwr2] | go_num, hid HMS.out.symm, HB3⟩
     case measure => simp only [intOf]; omega
   ·obtain rfl : i = left.length := by omega
    have HV : Hid ((0 : Int) = ((one1 (cntL (keptL h lv) (k + 1) r left) : Nat) : Int)) := hid (by rw [← cnlTo_all, ← HM.out]; rfl)
    go_wp2_with fail
    go_ret
    exact ⟨ret_i HV.out, HB.out⟩
end

section
open Go.RowKit
theorem insP_nodup {i : Int} : ∀ (l : List Int) {o : List Pr}, o.Nodup → (insP o i l).Nodup
 | [], _, h => h
 | _ :: l, _, h => insP_nodup l (putP_nodup h)
theorem pairsL_nodup (LL : List (List Int)) : ∀ k, (pairsL LL k).Nodup
 | 0 => List.nodup_nil
 | k + 1 => insP_nodup _ (pairsL_nodup LL k)
theorem seesL_len (V : Mat) (n : Nat) : (seesL V n).length = n := by simp [seesL]
theorem seesL_get (V : Mat) {n i : Nat} (hi : i < n) : (seesL V n).getD i [] = (lst (seeTo V (i : Int) 64)).map Int.ofNat := by
 unfold seesL
 rw [List.getD_eq_getElem?_getD, List.getElem?_map, List.getElem?_range hi]; rfl
theorem mem_sees {V : Mat} {i : Nat} (hi : i < 64) {a : Int} : a ∈ (lst (seeTo V (i : Int) 64)).map Int.ofNat ↔ ∃ j : Nat, j < 64 ∧ a = (j : Int) ∧ V j i = true := by
 rw [List.mem_map]
 constructor
 ·rintro ⟨j, hj, rfl⟩
  obtain ⟨h1, h2⟩ := mem_lst.1 hj
  rw [seeTo_bit V _ j 64 (Nat.le_refl 64), decide_eq_true h1, Bool.true_and, hasR_nat V j i h1 hi] at h2
  exact ⟨j, h1, rfl, h2⟩
 ·rintro ⟨j, hj, rfl, hv⟩
  refine ⟨j, mem_lst.2 ⟨hj, ?_⟩, rfl⟩
  rw [seeTo_bit V _ j 64 (Nat.le_refl 64), decide_eq_true hj, Bool.true_and, hasR_nat V j i hj hi]
  exact hv
end

section
open Go.RowKit
theorem low_ok {V : Mat} {n : Nat} (hn : n ≤ 64) (hL : ∀ i j : Nat, i < 64 → j < 64 → V i j = true → i < n ∧ j < n) : okL n (seesL V n) = true := by
 unfold okL
 rw [seesL_len, decide_eq_true rfl, Bool.true_and, List.all_eq_true]
 intro l hl
 unfold seesL at hl
 obtain ⟨i, hi, rfl⟩ := List.mem_map.1 hl
 have hin := List.mem_range.1 hi
 unfold okRow
 rw [List.all_eq_true]
 intro a ha
 obtain ⟨j, hj, rfl, hv⟩ := (mem_sees (show i < 64 by omega)).1 ha
 have := hL j i hj (by omega) hv
 simp only [Bool.and_eq_true, decide_eq_true_eq]
 exact ⟨by omega, by omega⟩
theorem low_rep {V : Mat} {n : Nat} (hn : n ≤ 64) (hL : ∀ i j : Nat, i < 64 → j < 64 → V i j = true → i < n ∧ j < n) : Rep V (pairsL (seesL V n) n) := by
 refine ⟨pairsL_nodup _ _, fun a b => ?_⟩
 rw [mem_pairsL]
 constructor
 ·rintro ⟨i, hi, a2, ha2, e⟩
  rw [seesL_get V hi] at ha2
  obtain ⟨j, hj, rfl, hv⟩ := (mem_sees (show i < 64 by omega)).1 ha2
  exact ⟨j, i, hj, by omega, congrArg Prod.fst e, congrArg Prod.snd e, hv⟩
 ·rintro ⟨j, i, hj, hi, rfl, rfl, hv⟩
  have hin := (hL j i hj hi hv).2
  refine ⟨i, hin, (j : Int), ?_, rfl⟩
  rw [seesL_get V hin]
  exact (mem_sees hi).2 ⟨j, hj, rfl, hv⟩
theorem least_low {h : List TxnV} {lv : Int} {L : List Nat} {X : Mat} (hc : checkI h = 0) (hp : L.Perm (List.range h.length)) (hk : keptL h lv L = true) (hX : LeastIs h (askN lv) (L.map Int.ofNat) X) : ∀ i j : Nat, i < 64 → j < 64 → X i j = true → i < h.length ∧ j < h.length := by
 intro i j hi hj hv
 rw [← kept_holds hc lv hp hX] at hk
 have hin : inM X (chainR (L.map Int.ofNat)) = true := by
  unfold holdsB at hk
  simp only [Bool.and_eq_true] at hk
  have := hk.2.2.1
  unfold rightM at this
  simp only [Bool.and_eq_true] at this
  exact this.2.1
 have hch := (inM_iff _ _).1 hin i j hi hj hv
 obtain ⟨p, q, h1, h2, e1, e2⟩ := ahead_pos ((chainR_iff i j _).1 hch)
 have m1 : i ∈ L := by rw [← e1]; exact List.getElem_mem _
 have m2 : j ∈ L := by rw [← e2]; exact List.getElem_mem _
 exact ⟨List.mem_range.1 (hp.mem_iff.1 m1), List.mem_range.1 (hp.mem_iff.1 m2)⟩
theorem first_accepts {h : List TxnV} {lv : Int} {L : List Nat} {X : Mat} (hc : checkI h = 0) (hp : L.Perm (List.range h.length)) (hk : keptL h lv L = true) (hX : LeastIs h (askN lv) (L.map Int.ofNat) X) : acceptsB h lv (L.map Int.ofNat) (seesL X h.length) = true := by
 have h64 := (check_zero hc).1
 have hlow := least_low hc hp hk hX
 have hrep := low_rep h64 hlow
 unfold acceptsB
 rw [low_ok h64 hlow, Bool.true_and]
 rw [← holds_same hc hrep, kept_holds hc lv hp hX]
 exact hk
theorem count_first {n : Nat} {p : List Nat → Bool} : (0 < (ordersN n).countP p) ↔ ((ordersN n).find? p).isSome = true := by
 rw [List.countP_pos_iff, List.find?_isSome]
end

section
open Go.RowKit
theorem rest_nil (n : Nat) : restN n [] = List.range n := by unfold restN; simp
end

section
open Go.RowKit
theorem tr_lev : ∀ k, k ≤ 7 → trN k ≤ levN k := by decide +kernel
theorem allT_rowG {h : List TxnV} {C : Nat} (h64 : h.length ≤ 64) : ∀ (l r : List Nat), RowG h C r → allT h C r l = true → RowG h C (l.reverse ++ r)
 | [], r, g, _ => by simpa using g
 | i :: l, r, g, ha => by
  unfold allT at ha
  rw [Bool.and_eq_true] at ha
  have := allT_rowG h64 l (i :: r) (g.push h64 ha.1) ha.2
  rw [List.reverse_cons, List.append_assoc]; exact this
theorem decW_some {h : List TxnV} {lv : Int} (hc : checkI h = 0) : (decW h lv).2.2 = ((ordersN h.length).find? (keptL h lv)).isSome := by
 rw [decW_yes, ← dec_first hc, Option.isSome_map]
theorem decW_none (h : List TxnV) (lv : Int) : (decW h lv).2.2 = false → (decW h lv).1 = [] ∧ (decW h lv).2.1 = [] := by
 unfold decW
 cases (decN h lv).1 with
 | none => intro _; exact ⟨rfl, rfl⟩
 | some r => intro e; cases e
theorem dec_same {h : List TxnV} {lv : Int} {r : List Nat} {X : Mat} (hc : checkI h = 0) (hf : (ordersN h.length).find? (keptL h lv) = some r) (hX : LeastIs h (askN lv) (r.map Int.ofNat) X) : (decW h lv).1 = r.map Int.ofNat ∧ (decW h lv).2.1 = seesL X h.length := by
 have h64 := (check_zero hc).1
 have hk := List.find?_some hf
 have hp := orders_perm (List.mem_of_find?_eq_some hf)
 rw [← dec_first hc] at hf
 cases hd : (decN h lv).1 with
 | none => rw [hd] at hf; cases hf
 | some rr =>
  rw [hd, Option.map_some] at hf
  have hr : rr.reverse = r := by injection hf
  have hr2 : rr = r.reverse := by rw [← hr, List.reverse_reverse]
  unfold decW
  rw [hd]
  refine ⟨by show rr.reverse.map Int.ofNat = _; rw [hr], ?_⟩
  show seesL (seesR h (clI ((askN lv : Nat) : Int)) rr) h.length = _
  have hC : clI ((askN lv : Nat) : Int) < 9223372036854775808 := by have := clI_lt ((askN lv : Nat) : Int); omega
  have hall : allT h (clI ((askN lv : Nat) : Int)) [] r = true := by
   unfold keptL at hk
   simp only [Bool.and_eq_true] at hk
   exact hk.2.2
  have g : RowG h (clI ((askN lv : Nat) : Int)) rr := by
   have := allT_rowG h64 r [] RowG.nil hall
   rw [List.append_nil] at this
   rw [hr2]; exact this
  have hS := sees_least g hC (fun k hk => by rw [hr2]; exact List.mem_reverse.2 (hp.mem_iff.2 (List.mem_range.2 hk)))
  rw [hr] at hS
  have hx : askN lv < 9223372036854775808 := by
   unfold askN
   split
   ·next hlv => exact Nat.lt_trans (askAt_lt ⟨lv.toNat, by unfold isLv at hlv; simp at hlv; omega⟩) (by decide)
   ·decide
  have hin : inM X (chainR (r.map Int.ofNat)) = true := by
   have hk2 := hk
   rw [← kept_holds hc lv hp hX] at hk2
   unfold holdsB at hk2
   simp only [Bool.and_eq_true] at hk2
   have := hk2.2.2.1
   unfold rightM at this
   simp only [Bool.and_eq_true] at this
   exact this.2.1
  have hnd : (r.map Int.ofNat).Nodup := by
   have h1 : r.Nodup := hp.nodup_iff.2 List.nodup_range
   exact h1.map _ (fun a b hab e => hab (Int.ofNat.inj e))
  have he := least_closed hc hnd hx hX hS hin
  unfold seesL
  refine List.map_congr_left fun i hi => ?_
  have hi := List.mem_range.1 hi
  rw [seeTo_congr (fun a b ha hb => (rowsA_inj he a b ha hb).symm) (show i < 64 by omega)]
theorem dec_accepts {h : List TxnV} {lv : Int} (hc : checkI h = 0) {r : List Nat} {X : Mat} (hf : (ordersN h.length).find? (keptL h lv) = some r) (hX : LeastIs h (askN lv) (r.map Int.ofNat) X) : acceptsB h lv (decW h lv).1 (decW h lv).2.1 = true := by
 obtain ⟨e1, e2⟩ := dec_same hc hf hX
 rw [e1, e2]
 exact first_accepts hc (orders_perm (List.mem_of_find?_eq_some hf)) (List.find?_some hf) hX
theorem raccepts_any (va : Value) (h : List TxnV) (lv : Int) (w : World) (hc : checkI h = 0) (hn : h.length ≤ 6) (hT : Txns w va h) :
  Calls Tryz.prog 27 #[va, .int .i64 lv] w fun e w' => e = .returned (.bool (decW h lv).2.2) ∧ Below w.heap.size w w' := by
 have CA := hid (rall_any h.length (by omega) w)
 have CC := hid (fun vl wx (hx : Below w.heap.size w wx) hl => rcount1_any va h lv hc hn h.length (.slice none 0 0) vl [] (List.range h.length) wx List.length_range (by rw [List.nil_append]) (hT.below hx) (ints_nil wx) hl)
 have HE : Hid (cntL (keptL h lv) h.length [] (List.range h.length) = (ordersN h.length).countP (keptL h lv)) := hid (by rw [← rest_nil, cntL_exts]; rfl)
 rw [HE.out] at CC
 have HV : Hid ((decW h lv).2.2 = decide (0 < (ordersN h.length).countP (keptL h lv))) := hid (by
  rw [decW_some hc, Bool.eq_iff_iff, decide_eq_true_eq]; exact count_first.symm)
 rw [HV.out]
 have HO : Hid (∀ n, (0 < n → one1 n = 1) ∧ (¬ 0 < n → one1 n = 0)) := hid (fun n => by unfold one1; exact ⟨fun q => if_pos q, fun q => if_neg q⟩)
 obtain ⟨ao, cap, rfl, hal⟩ := hT.form
 clear hT hc HE HV
 generalize (ordersN h.length).countP (keptL h lv) = n at *
 by_cases hp : 0 < n
 ·rw [(HO.out n).1 hp] at CC
  rw [decide_eq_true hp]
  clear HO hp
  go_enter Tryz.func27, Tryz.ntmps27
  go_wp2_with fail
  refine (CA.out).mono ?_
  rintro e w1 ⟨⟨v, rfl, hI⟩, h1⟩
  have C2 := hid (CC.out v w1 h1 hI)
  go_wp2_with fail
  refine (C2.out).mono ?_
  rintro e w2 ⟨rfl, h2⟩
  have h2 := below_then h1 h2
  go_wp2_with fail
  go_ret
  exact ⟨rfl, h2⟩
 ·rw [(HO.out n).2 hp] at CC
  rw [decide_eq_false hp]
  clear HO hp
  go_enter Tryz.func27, Tryz.ntmps27
  go_wp2_with fail
  refine (CA.out).mono ?_
  rintro e w1 ⟨⟨v, rfl, hI⟩, h1⟩
  have C2 := hid (CC.out v w1 h1 hI)
  go_wp2_with fail
  refine (C2.out).mono ?_
  rintro e w2 ⟨rfl, h2⟩
  have h2 := below_then h1 h2
  go_wp2_with fail
  go_ret
  exact ⟨rfl, h2⟩
theorem sdecides17_walk (va : Value) (h : List TxnV) (lv much : Int) (w : World) (hmu : -9223372036854775808 ≤ much ∧ much ≤ 9223372036854775807) (ht : Tab w) (hK : Kinds w) (hT : Txns w va h) (hok : ∀ t ∈ h, t.ok) (hsh : Short h) :
  Calls Tryz.prog 4 #[va, .int .i64 lv, .int .i64 much] w fun e w' => e = .returned (.bool true) ∧ Below w.heap.size w w' := by
 have hg := ht.pos
 have HT : Hid (∀ wx, Below w.heap.size w wx → Tab wx ∧ Kinds wx) := hid (fun wx hb => ⟨ht.below hb hg, hK.below hb⟩)
 have HH := hid (fun wx (hx : Below w.heap.size w wx) => hT.below hx)
 obtain ⟨ao, cap, rfl, hal⟩ := hT.form
 have HOK := hid hok
 have HSH := hid hsh
 have C0 := hid (speaks17_any w ht hK)
 clear ht hK hT hok
 go_enter Tryz.func4, Tryz.ntmps4
 go_wp2_with fail
 refine (C0.out).mono ?_
 rintro e w1 ⟨rfl, hb1⟩
 clear C0
 by_cases h5 : 6 < h.length
 ·have h5i : (6 : Int) < (h.length : Int) := by omega
  clear hsh
  go_wp2_with fail
  go_ret
  exact ⟨rfl, hb1⟩
 have h5i : ¬ (6 : Int) < (h.length : Int) := by omega
 have CC := hid (rcheck_any _ h w1 (HH.out _ hb1) hsh)
 rw [← check_ref] at CC
 by_cases hc : checkI h = 0
 rotate_left
 ·have hcn : ¬ checkI h = 0 := hc
  generalize checkI h = c at *
  have hcb : (c != 0) = true := by rw [bne_iff_ne]; exact hcn
  clear hsh hc
  go_wp2_with fail
  refine (CC.out).mono ?_
  rintro e w2 ⟨rfl, hb2⟩
  have hb2 := below_then hb1 hb2
  go_wp2_with fail
  go_ret
  exact ⟨rfl, hb2⟩
 rw [hc] at CC
 go_wp2_with fail
 refine (CC.out).mono ?_
 rintro e w2 ⟨rfl, hb2⟩
 have hb2 := below_then hb1 hb2
 have CO := hid (of_done _ h w2 (HH.out _ hb2) HOK.out HSH.out hc)
 have HC := hid hc
 have hcb : (decN h lv).2.2 ≤ 20000 := Nat.le_trans (dec_tries h lv) (tr_le h.length (by omega))
 have hcl : (decN h lv).2.2 ≤ levN h.length := Nat.le_trans (dec_tries h lv) (tr_lev h.length (by omega))
 clear hb1 CC hc hsh
 go_wp2_with fail
 refine (CO.out).mono ?_
 rintro e w3 ⟨⟨B, rfl, hB, hO⟩, hb3⟩
 have hb3 := below_then hb2 hb3
 have HW := hid (fun wx (hx : Below w3.heap.size w3 wx) => hb3.trans (hx.mono hb3.size))
 have hTK := HT.out _ hb3
 have CY := hid (fun T F wx (hx : Below w3.heap.size w3 wx) hT hm hU hl => sdecide_ok (w := wx) lv T F 0 hO hTK.1 hTK.2 HC.out hx hT hm (by omega) hU hl)
 have CZ := hid (fun T F wx (hx : Below w3.heap.size w3 wx) hT hm hl => sdecide_no (w := wx) lv T F 0 hO hTK.1 hTK.2 HC.out hx hT hm (by omega) hl)
 have CD := hid (fun wx (hx : Below w3.heap.size w3 wx) => bdecide_any lv h B (B + 2) wx (hO.below hx) HC.out (hTK.1.below hx hTK.1.pos) (hTK.2.below hx))
 have CK := hid (fun wx (hx : Below w3.heap.size w3 wx) => raccepts_any _ h lv wx HC.out (by omega) (HH.out _ (hb3.trans (hx.mono hb3.size))))
 have CAA := hid (fun vo vs wx (hx : Below w3.heap.size w3 wx) (hI : Ints wx vo (decW h lv).1) (hL : Lists wx vs (decW h lv).2.1) => aaccepts_any lv vo vs _ _ h B (B + 2) wx (hO.below hx) HC.out (hTK.1.below hx hTK.1.pos) (hTK.2.below hx) hI hL)
 have HDS := hid (fun r X hf hX => dec_same (lv := lv) HC.out (r := r) (X := X) hf hX)
 have HDN := hid (decW_none h lv)
 have HDF := hid (decW_some (lv := lv) HC.out)
 have HDA := hid (fun r X hf hX => dec_accepts (lv := lv) HC.out (r := r) (X := X) hf hX)
 clear hb2 CO hO hB hb3 hTK HT HH HOK HSH
 generalize (decN h lv).2.2 = c at *
 simp only [Nat.zero_add] at CY
 have CN1 := hid (fun wx => fnew_any much wx)
 have HFN : Hid (∀ F, F = fuelN much → F ≠ 4611686018427387904 → much ≤ (F : Int)) := hid (fun F e hne => by unfold fuelN at e; omega)
 have HFM := hid (HFN.out _ rfl)
 generalize fuelN much = F at *
 clear HFN
 go_wp2_with fail
 refine (CN1.out _).mono ?_
 rintro e w4 ⟨T1, rfl, hm4, hT4, h4⟩
 clear CN1
 by_cases hl : Lasts F 0 c
 ·have CY1 := hid (CY.out T1 F w4 h4 hT4 hm4 (fun _ => by omega) hl)
  clear CY CZ HFM hm4 hT4 h4 hl
  go_wp2_with fail
  refine CY1.out.mono ?_
  rintro e w5 ⟨vo, vs, rfl, hI, hS, hm5, _, h5⟩
  obtain ⟨oo, oc, rfl, _⟩ := hI.form
  obtain ⟨so, sc, rfl, _⟩ := hS.form
  have W6 := WitT.made w5 (.slice oo (decW h lv).1.length oc) (.slice so (decW h lv).2.1.length sc) 32
  have hx6 := box_below w5 (.cells #[.slice oo (decW h lv).1.length oc, .slice so (decW h lv).2.1.length sc] 32)
  have hI6 := hI.below hx6
  have hS6 := hS.below hx6
  have hm6 := hm5.below hx6 hm5.lt
  have h6 := h5.trans (hx6.mono h5.size)
  clear CY1 hI hS hm5 h5 hx6
  go_upto_region 10 with fail
  generalize w5.alloc (.cells #[.slice oo (decW h lv).1.length oc, .slice so (decW h lv).2.1.length sc] 32) = w6 at *
  generalize w5.heap.size = g1 at *
  have CL := hid (rlevel_any (h.length : Int) w6)
  rw [show levZ (h.length : Int) = levN h.length by unfold levZ; rw [Int.toNat_natCast]] at CL
  have CK1 := hid (CK.out w6 h6)
  have hlm := lev_le h.length
  clear CK
  go_wp2_with fail
  refine CL.out.mono ?_
  rintro e wq ⟨rfl, rfl⟩
  go_wp2_with fail
  refine CK1.out.mono ?_
  rintro e w7 ⟨rfl, h7⟩
  have W7 := W6.below h7
  have hI7 := hI6.below h7
  have hS7 := hS6.below h7
  have hm7 := hm6.below h7 hm6.lt
  have h37 := h6.trans (h7.mono h6.size)
  have CU := hid (fused_any T1 _ _ w7 hm7)
  clear CL CK1 W6 hI6 hS6 hm6 h7 h6 hm7
  generalize levN h.length = lev at *
  have hcl2 : ¬ (lev : Int) < (c : Int) := by omega
  cases hyes : (decW h lv).2.2 with
  | false =>
   obtain ⟨e1, e2⟩ := HDN.out hyes
   have hz := HW.out _ h37
   rw [e1, e2] at W7
   rw [e1, e2]
   obtain ⟨n0, n1⟩ := W7
   clear hyes HDF HDS HDA CAA CD e1 e2 hI7 hS7
   simp only [List.length_nil] at n0 n1 ⊢
   go_wp2_with fail
   refine CU.out.mono ?_
   rintro e wq ⟨rfl, rfl⟩
   go_wp2_with fail
   go_ret
   exact ⟨rfl, hz⟩
  | true =>
   have HB : Hid (∀ v wx, DecRes h lv v wx → ∃ vo vs, v = .tuple #[.agg #[vo, vs], .bool true, .bool true] ∧ Ints wx vo (decW h lv).1 ∧ Lists wx vs (decW h lv).2.1 ∧ acceptsB h lv (decW h lv).1 (decW h lv).2.1 = true) := hid (fun v wx hd => by
    unfold DecRes at hd
    rw [if_pos (by omega)] at hd
    have hs := HDF.out
    rw [hyes] at hs
    cases hf : (ordersN h.length).find? (keptL h lv) with
    | none => rw [hf] at hs; cases hs
    | some r =>
     rw [hf] at hd
     obtain ⟨vo, vs, X, e, q1, q2, q3⟩ := hd
     obtain ⟨e1, e2⟩ := HDS.out r X hf q1
     have hrl : (r.map Int.ofNat).length = h.length := by rw [List.length_map, (orders_perm (List.mem_of_find?_eq_some hf)).length_eq, List.length_range]
     rw [hrl, ← e2] at q3
     rw [← e1] at q2
     exact ⟨vo, vs, e, q2, q3, HDA.out r X hf q1⟩)
   have CD1 := hid (CD.out _ h37)
   clear hyes HDF HDS HDA HDN CD
   generalize acceptsB h lv (decW h lv).1 (decW h lv).2.1 = acc at *
   generalize (decW h lv).1 = L at *
   generalize (decW h lv).2.1 = LL at *
   go_wp2_with fail
   refine CU.out.mono ?_
   rintro e wq ⟨rfl, rfl⟩
   go_wp2_with fail
   refine CD1.out.mono ?_
   rintro e w8 ⟨⟨v, rfl, hd⟩, h8⟩
   obtain ⟨vo2, vs2, rfl, hI8, hS8, rfl⟩ := HB.out _ _ hd
   obtain ⟨po, pc, rfl, _⟩ := hI8.form
   obtain ⟨qo, qc, rfl, _⟩ := hS8.form
   have W9 := WitT.made w8 (.slice po L.length pc) (.slice qo LL.length qc) 32
   have hx9 := box_below w8 (.cells #[.slice po L.length pc, .slice qo LL.length qc] 32)
   have h79 := h8.trans (hx9.mono h8.size)
   have W7 := W7.below h79
   have hI7 := hI7.below h79
   have hS7 := hS7.below h79
   have CS := hid (same17_any _ _ _ _ L LL _ hI7 hS7 (hI8.below hx9) (hS8.below hx9))
   have h39 := h37.trans (h79.mono h37.size)
   clear CU CD1 HB hd h8 hI8 hS8 hx9 h79 h37
   go_upto_region 19 with fail
   generalize w8.alloc (.cells #[.slice po L.length pc, .slice qo LL.length qc] 32) = w9 at *
   generalize w8.heap.size = g2 at *
   obtain ⟨n0, n1⟩ := W7
   obtain ⟨m0, m1⟩ := W9
   go_wp2_with fail
   refine CS.out.mono ?_
   rintro e w10 ⟨rfl, h10⟩
   obtain ⟨p0, p1⟩ := WitT.below ⟨n0, n1⟩ h10
   have h310 := h39.trans (h10.mono h39.size)
   have CA1 := hid (CAA.out _ _ w10 h310 (hI7.below h10) (hS7.below h10))
   clear CS m0 m1 n0 n1 CAA h10 h39
   go_wp2_with fail
   refine CA1.out.mono ?_
   rintro e w11 ⟨rfl, h11⟩
   have hz := HW.out _ (h310.trans (h11.mono h310.size))
   clear h11 CA1 p0 p1
   go_wp2_with fail
   go_ret
   exact ⟨rfl, hz⟩
 ·have CZ1 := hid (CZ.out T1 F w4 h4 hT4 hm4 hl)
  have hFn : F ≠ 4611686018427387904 ∧ F < c := ⟨fun e => hl (.inl e), by
   by_cases e : F < c
   ·exact e
   ·exact (hl (.inr (by omega))).elim⟩
  have hmF := HFM.out hFn.1
  clear CY CZ HFM hm4 hT4 h4 hl
  go_wp2_with fail
  refine CZ1.out.mono ?_
  rintro e w5 ⟨rfl, hm5, _, h5⟩
  have W6 := WitT.made w5 (.slice none 0 0) (.slice none 0 0) 32
  have hx6 := box_below w5 (.cells #[.slice none 0 0, .slice none 0 0] 32)
  have hm6 := hm5.below hx6 hm5.lt
  have h6 := h5.trans (hx6.mono h5.size)
  clear CZ1 hm5 h5 hx6
  go_upto_region 10 with fail
  generalize w5.alloc (.cells #[.slice none 0 0, .slice none 0 0] 32) = w6 at *
  generalize w5.heap.size = g1 at *
  have CL := hid (rlevel_any (h.length : Int) w6)
  rw [show levZ (h.length : Int) = levN h.length by unfold levZ; rw [Int.toNat_natCast]] at CL
  have hlf : mleftN F F = 0 := by unfold mleftN; rw [if_neg hFn.1]; omega
  have CLF := hid (fleft_any T1 _ _ w6 hm6)
  rw [hlf] at CLF
  have hml : much < ((levN h.length : Nat) : Int) := by omega
  obtain ⟨n0, n1⟩ := W6
  clear hm6 hlf
  go_wp2_with fail
  refine CL.out.mono ?_
  rintro e wq ⟨rfl, rfl⟩
  generalize levN h.length = lev at *
  go_wp2_with fail
  refine CLF.out.mono ?_
  rintro e w7 ⟨rfl, h7⟩
  have hz := HW.out _ (h6.trans (h7.mono h6.size))
  clear h7 h6 CLF CL n0 n1
  go_wp2_with fail
  go_ret
  exact ⟨rfl, hz⟩
end

end Go.Proofs.YtecpeegbfeijaaaGreatDoor
