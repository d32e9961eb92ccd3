/- An argument that is a slice of pairs of ints, opened: what its cells hold. -/
import Derived.Test.YtjfegknokombgaaDoorLaw
import Derived.Test.YtjfegknokombgaaDoorRelP
import Derived.Deep.SlicePairs
namespace Go.Proofs.YtjfegknokombgaaDoor
set_option maxRecDepth 100000
open Go.ChangeShapes Go.WideShapes Go.ChangeAt Go.RowKit Go.Deep

theorem cellsPair : Tryd.prog.cellsOf 61 = 2 := by kernel_rfl
theorem cellsIntP : Tryd.prog.cellsOf 3 = 1 := by kernel_rfl
theorem pairs_of_trod {H : Type} {enc : TypeId × Value → H} {W : World} {base : Nat} {v : Value} {d : DataW H} {p : List MemPlace}
    (hval : Value.okWide Tryd.prog W .any base 22 v) (h : DataW.Trod enc Tryd.prog W 0 (fun _ => true) true 22 v d p) : ∃ l, Prs W v l := by
  obtain ⟨a0, len, cap, rfl⟩ := okWide_slice Tryd.underlying22 hval
  obtain ⟨fuel, hf⟩ := h
  rcases open_slice_pairs Tryd.underlying22 Tryd.underlying61 cellsPair rfl rfl cellsIntP cellsIntP hf with ⟨hcs, hx⟩ | ⟨a, len', cap', m, n, V0, V1, D0, D1, P0, P1, hcs, hb, hl, hm, hmm, hx, hi⟩
  · simp [Value.cells] at hcs
    obtain ⟨rfl, rfl, rfl⟩ := hcs
    exact ⟨[], rfl, none, 0, rfl, by simp, (fun _ => ⟨rfl, rfl⟩), (fun h => by simp at h)⟩
  · simp [Value.cells] at hcs
    obtain ⟨rfl, rfl, rfl⟩ := hcs
    simp only [if_true] at hmm
    have h0 : ∀ i, ∃ z : Int, i < len → V0 i = .int .i64 z := fun i => by
      by_cases hlt : i < len
      · obtain ⟨_, _, ht, _⟩ := hi i (by omega)
        obtain ⟨z, hc, _⟩ := DataW.trod_int Tryd.underlying3 ht
        exact ⟨z, fun _ => by simpa using hc⟩
      · exact ⟨0, fun h => absurd h hlt⟩
    have h1 : ∀ i, ∃ z : Int, i < len → V1 i = .int .i64 z := fun i => by
      by_cases hlt : i < len
      · obtain ⟨_, _, _, ht⟩ := hi i (by omega)
        obtain ⟨z, hc, _⟩ := DataW.trod_int Tryd.underlying3 ht
        exact ⟨z, fun _ => by simpa using hc⟩
      · exact ⟨0, fun h => absurd h hlt⟩
    obtain ⟨Z0, hZ0⟩ := Classical.skolem.1 h0
    obtain ⟨Z1, hZ1⟩ := Classical.skolem.1 h1
    have hlen : ((List.range len).map fun i => ((Z0 i, Z1 i) : Pr)).length = len := by simp
    have hel : ∀ (i : Nat) (h : i < ((List.range len).map fun i => ((Z0 i, Z1 i) : Pr)).length), ((List.range len).map fun i => ((Z0 i, Z1 i) : Pr))[i] = (Z0 i, Z1 i) := fun i h => by simp
    refine ⟨(List.range len).map fun i => ((Z0 i, Z1 i) : Pr), ?_⟩
    generalize (List.range len).map (fun i => ((Z0 i, Z1 i) : Pr)) = l at *
    subst hlen
    refine ⟨prV_len l, some a, cap, rfl, ⟨hl, hm⟩, (fun h => by cases h), fun hn => ?_⟩
    obtain ⟨b, off, spot⟩ := a
    have hspot : spot = none := by simpa [Addr.add] using World.cell?_spot (hi 0 (by omega)).1
    subst hspot
    refine ⟨b, off, rfl, fun i hii => ?_⟩
    have hk : i / 2 < l.length := by omega
    obtain ⟨c0, c1, _, _⟩ := hi (i / 2) (by omega)
    rw [Addr.add_lit, hZ0 _ hk] at c0
    rw [Addr.add_lit, hZ1 _ hk] at c1
    obtain ⟨e0, e1⟩ := prV_at l (i / 2) hk
    rw [hel _ hk] at e0 e1
    rcases Nat.mod_two_eq_zero_or_one i with h | h
    · have ei : i = 2 * (i / 2) := by omega
      rw [ei, e0, ← c0]; congr 2; omega
    · have ei : i = 2 * (i / 2) + 1 := by omega
      rw [ei, e1, ← c1]; congr 2; omega
end Go.Proofs.YtjfegknokombgaaDoor
