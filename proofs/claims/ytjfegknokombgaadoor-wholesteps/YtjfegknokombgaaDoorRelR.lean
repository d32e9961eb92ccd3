/- The walk of the statement on cycles: it answers true. Condition: First's library table lies where it is laid; slices' cells are known. -/
import Derived.Test.YtjfegknokombgaaDoorRelQ
namespace Go.Proofs.YtjfegknokombgaaDoor
set_option maxRecDepth 100000
open Go.RowKit

theorem Ints.take {w : World} {ao : Option Addr} {n cap : Nat} {l : List Int} (h : Ints w (.slice ao n cap) l) (k : Nat) (hk : k ≤ l.length) (hk0 : ao = none → cap = 0) :
    Ints w (.slice ao k cap) (l.take k) := by
  have hlen : (l.take k).length = k := by simp; omega
  obtain ⟨_, ao', cap', he, hm, hno, hc⟩ := h
  obtain ⟨rfl, rfl, rfl⟩ : ao = ao' ∧ n = l.length ∧ cap = cap' := by simpa using he
  refine ⟨by simp, ao, cap, by rw [hlen], by rw [hlen]; omega, (fun h => ⟨by rw [hlen]; have := hno h; omega, hk0 h⟩), fun hn => ?_⟩
  obtain ⟨b, off, rfl, hcell⟩ := hc (by omega)
  refine ⟨b, off, rfl, fun i hi => ?_⟩
  rw [hcell i (by omega), List.map_take, List.getElem?_take, if_pos (by omega)]
theorem Ints.full {w : World} {v : Value} {l : List Int} (h : Ints w v l) : ∃ ao cap, v = .slice ao l.length cap ∧ (l.length ≤ cap ∧ cap ≤ 9223372036854775807) ∧ (ao = none → l.length = 0 ∧ cap = 0) := by
  obtain ⟨_, ao, cap, rfl, hm, hno, _⟩ := h
  exact ⟨ao, cap, rfl, hm, hno⟩
theorem cyc_edge {R : Mat} {m : List Pr} {C : List Nat} (hR : Rep R m) (h : CycOK R C) {k : Nat} (hk : k < C.length) (hk2 : (k + 1) % C.length < C.length) : hasP m (C[k] : Int) (C[(k + 1) % C.length] : Int) = true := by
  have h1 := h.2.2.2 k hk
  rw [getD_at _ _ hk, getD_at _ _ hk2] at h1
  exact hasP_iff.2 ((hR.2 _ _).2 ⟨C[k], C[(k + 1) % C.length], h.2.2.1 _ (List.getElem_mem _), h.2.2.1 _ (List.getElem_mem _), rfl, rfl, h1⟩)
theorem cyc_new {R : Mat} {C : List Nat} (h : CycOK R C) {k : Nat} (hk : k < C.length) : hasL ((C.map Int.ofNat).take k) (C[k] : Int) = false := by
  cases hh : hasL ((C.map Int.ofNat).take k) (C[k] : Int)
  · rfl
  · exfalso
    have hm := hasL_iff.1 hh
    rw [← List.map_take] at hm
    obtain ⟨x, hx, e⟩ := List.mem_map.1 hm
    have e' : x = C[k] := by have : (x : Int) = (C[k] : Int) := e; omega
    subst e'
    have hn := h.2.1
    have hsplit : C = C.take k ++ C.drop k := (List.take_append_drop k C).symm
    rw [hsplit, List.nodup_append] at hn
    refine hn.2.2 _ hx _ ?_ rfl
    rw [List.mem_drop_iff_getElem]
    exact ⟨0, by simpa using hk, by simp⟩
theorem zero_block (w : World) : RelAt (w.alloc (.cells #[.int .u64 0, .int .u64 0, .int .u64 0, .int .u64 0, .int .u64 0, .int .u64 0, .int .u64 0, .int .u64 0, .int .u64 0, .int .u64 0, .int .u64 0, .int .u64 0, .int .u64 0, .int .u64 0, .int .u64 0, .int .u64 0, .int .u64 0, .int .u64 0, .int .u64 0, .int .u64 0, .int .u64 0, .int .u64 0, .int .u64 0, .int .u64 0, .int .u64 0, .int .u64 0, .int .u64 0, .int .u64 0, .int .u64 0, .int .u64 0, .int .u64 0, .int .u64 0, .int .u64 0, .int .u64 0, .int .u64 0, .int .u64 0, .int .u64 0, .int .u64 0, .int .u64 0, .int .u64 0, .int .u64 0, .int .u64 0, .int .u64 0, .int .u64 0, .int .u64 0, .int .u64 0, .int .u64 0, .int .u64 0, .int .u64 0, .int .u64 0, .int .u64 0, .int .u64 0, .int .u64 0, .int .u64 0, .int .u64 0, .int .u64 0, .int .u64 0, .int .u64 0, .int .u64 0, .int .u64 0, .int .u64 0, .int .u64 0, .int .u64 0, .int .u64 0] 27)) w.heap.size 27 noR :=
  RelAt.made w _ noR rfl (by rw [rowsA_none]; rfl)
theorem zero_below (w : World) (R : Mat) : Below w.heap.size w ((w.alloc (.cells #[.int .u64 0, .int .u64 0, .int .u64 0, .int .u64 0, .int .u64 0, .int .u64 0, .int .u64 0, .int .u64 0, .int .u64 0, .int .u64 0, .int .u64 0, .int .u64 0, .int .u64 0, .int .u64 0, .int .u64 0, .int .u64 0, .int .u64 0, .int .u64 0, .int .u64 0, .int .u64 0, .int .u64 0, .int .u64 0, .int .u64 0, .int .u64 0, .int .u64 0, .int .u64 0, .int .u64 0, .int .u64 0, .int .u64 0, .int .u64 0, .int .u64 0, .int .u64 0, .int .u64 0, .int .u64 0, .int .u64 0, .int .u64 0, .int .u64 0, .int .u64 0, .int .u64 0, .int .u64 0, .int .u64 0, .int .u64 0, .int .u64 0, .int .u64 0, .int .u64 0, .int .u64 0, .int .u64 0, .int .u64 0, .int .u64 0, .int .u64 0, .int .u64 0, .int .u64 0, .int .u64 0, .int .u64 0, .int .u64 0, .int .u64 0, .int .u64 0, .int .u64 0, .int .u64 0, .int .u64 0, .int .u64 0, .int .u64 0, .int .u64 0, .int .u64 0] 27)).setRow w.heap.size (rowsA R)) :=
  below_setRow ((Below.refl _ _).alloc (Nat.le_refl _) _) (Nat.le_refl _) _
end Go.Proofs.YtjfegknokombgaaDoor
