/- An argument that is a slice of operations, opened: what its cells hold. -/
import Derived.Test.YtlkdojcimlfmdaaLaw
import Derived.Test.YtlkdojcimlfmdaaOpZ
import Derived.Deep.Slices
import Derived.Deep.Strs
namespace Go.Proofs.Ytlkdojcimlfmdaa
set_option maxRecDepth 100000
open Go.ChangeShapes Go.WideShapes Go.ChangeAt Go.RowKit Go.Deep

theorem cellsOp : Try.prog.cellsOf 31 = 3 := by kernel_rfl
theorem ops_of_cells {H : Type} {enc : TypeId × Value → H} {W : World} {v : Value} {fuel : Nat} {x : DataW H × List MemPlace}
    (hf : DataW.trod enc Try.prog W 0 (fun _ => true) true fuel 27 [v] = some x) : ∃ l, Ops W v l ∧ (∀ o ∈ l, o.ok) ∧ ((∀ n ∈ DataW.weights Try.prog 27 x.1, n ≤ reachBytes) → l.length ≤ 6000000000000) := by
  rcases open_slice Try.underlying27 hf with ⟨hcs, _⟩ | ⟨a, len, cap, m, n, D, Pl, hcs, _, hl, hm, hmm, hx, hi⟩
  · obtain rfl : v = .slice none 0 0 := by simpa using hcs
    exact ⟨[], ⟨rfl, none, 0, rfl, by simp, (fun _ => ⟨rfl, rfl⟩), (fun h => by simp at h)⟩, by simp, by simp⟩
  · obtain rfl : v = .slice (some a) len cap := by simpa using hcs
    simp only [if_true] at hmm
    have key : ∀ i, ∃ o : OpV, i < len → o.ok ∧ W.cell? ((a.add (i * 3)).add 0) = some (.bool o.wr) ∧ W.cell? ((a.add (i * 3)).add 1) = some (.int .i64 o.key) ∧ W.cell? ((a.add (i * 3)).add 2) = some (.int .i64 o.val) := fun i => by
      by_cases hlt : i < len
      · obtain ⟨cs', hc, ht⟩ := hi i (by omega)
        rw [cellsOp] at hc
        obtain ⟨_, hcl, hat⟩ := World.cells?_some hc
        obtain ⟨y0, y1, y2, n', _, _, h0, h1, h2⟩ := trod_struct3 Try.underlying31 ht
        match cs', hcl with
        | [x0, x1, x2], _ =>
          obtain ⟨b, e0, _⟩ := DataW.trod_bool Try.underlying4 h0
          obtain ⟨k, e1, _, w1⟩ := DataW.trod_int Try.underlying3 h1
          obtain ⟨z, e2, _, w2⟩ := DataW.trod_int Try.underlying3 h2
          have k0 : Try.prog.cellsOf 4 = 1 := by kernel_rfl
          have k1 : Try.prog.cellsOf 3 = 1 := by kernel_rfl
          simp [k0, k1] at e0 e1 e2
          subst e0; subst e1; subst e2
          exact ⟨⟨b, k, z⟩, fun _ => ⟨⟨bounds_i64 w1, bounds_i64 w2⟩, hat 0 (by omega), hat 1 (by omega), hat 2 (by omega)⟩⟩
      · exact ⟨opZ, fun h => absurd h hlt⟩
    obtain ⟨O, hO⟩ := Classical.skolem.1 key
    have hlen : ((List.range len).map O).length = len := by simp
    have hel : ∀ (i : Nat) (h : i < ((List.range len).map O).length), ((List.range len).map O)[i] = O i := fun i h => by simp
    refine ⟨(List.range len).map O, ?_, ?_, ?_⟩
    · generalize (List.range len).map O = l at *
      subst hlen
      refine ⟨opV_len l, some a, cap, rfl, ⟨hl, hm⟩, (fun h => by cases h), fun hn => ?_⟩
      obtain ⟨b, off, spot⟩ := a
      have hspot : spot = none := by
        have := (hO 0 hn).2.1
        simpa [Addr.add] using World.cell?_spot this
      subst hspot
      refine ⟨b, off, rfl, fun i hii => ?_⟩
      have hk : i / 3 < l.length := by omega
      obtain ⟨_, c0, c1, c2⟩ := hO (i / 3) hk
      simp only [Addr.add_lit] at c0 c1 c2
      obtain ⟨e0, e1, e2⟩ := opV_at l (i / 3) hk
      rw [hel _ hk] at e0 e1 e2
      have hm3 : i % 3 = 0 ∨ i % 3 = 1 ∨ i % 3 = 2 := by omega
      rcases hm3 with h | h | h
      · rw [show i = i / 3 * 3 from by omega, e0, ← c0]; rfl
      · rw [show i = i / 3 * 3 + 1 from by omega, e1, ← c1, ← Nat.add_assoc]
      · rw [show i = i / 3 * 3 + 2 from by omega, e2, ← c2, ← Nat.add_assoc]
    · intro o ho
      obtain ⟨i, hi2, rfl⟩ := List.mem_map.1 ho
      exact (hO i (List.mem_range.1 hi2)).1
    · intro hw
      rw [hlen]
      have hb24 : Try.prog.bytesOf 31 = 24 := by kernel_rfl
      have := hw ((((List.range len).map D).length + ((List.range (m - len)).map fun j => D (len + j)).length) * Try.prog.bytesOf 31) (by rw [hx]; simp [DataW.weights, Try.underlying27])
      rw [hb24] at this
      unfold reachBytes at this
      simp at this
      omega
theorem ops_of_trod {H : Type} {enc : TypeId × Value → H} {W : World} {base : Nat} {v : Value} {d : DataW H} {p : List MemPlace}
    (hval : Value.okWide Try.prog W .any base 27 v) (h : DataW.Trod enc Try.prog W 0 (fun _ => true) true 27 v d p) : ∃ l, Ops W v l ∧ ∀ o ∈ l, o.ok := by
  obtain ⟨a0, len, cap, rfl⟩ := okWide_slice Try.underlying27 hval
  obtain ⟨fuel, hf⟩ := h
  obtain ⟨l, h1, h2, _⟩ := ops_of_cells (by simpa [Value.cells] using hf)
  exact ⟨l, h1, h2⟩
end Go.Proofs.Ytlkdojcimlfmdaa
