/- An argument that is a transaction, or a slice of transactions, opened: what its cells hold. -/
import Derived.Test.YtlkdojcimlfmdaaArgZ
import Derived.Test.YtlkdojcimlfmdaaTxZ
import Derived.Lib.SmallJoins
namespace Go.Proofs.Ytlkdojcimlfmdaa
set_option maxRecDepth 100000
open Go.ChangeShapes Go.WideShapes Go.ChangeAt Go.RowKit Go.Deep

theorem cellsTxn : Try.prog.cellsOf 29 = 4 := by kernel_rfl
theorem txn_of_trod {H : Type} {enc : TypeId × Value → H} {W : World} {base : Nat} {v : Value} {d : DataW H} {p : List MemPlace}
    (hval : Value.okWide Try.prog W .any base 29 v) (h : DataW.Trod enc Try.prog W 0 (fun _ => true) true 29 v d p) :
    ∃ s b c va l, v = .agg #[.int .i64 s, .int .i64 b, .int .i64 c, va] ∧ Ops W va l ∧ (IntOk s ∧ IntOk b ∧ IntOk c) ∧ ∀ o ∈ l, o.ok := by
  obtain ⟨v0, v1, v2, v3, y0, y1, y2, y3, n, rfl, _, _, h0, h1, h2, h3⟩ := Joins.open_agg4 Try.underlying29 (by kernel_rfl) cellsTxn hval h
  obtain ⟨s, e0, _, w0⟩ := DataW.trod_int Try.underlying3 h0
  obtain ⟨b, e1, _, w1⟩ := DataW.trod_int Try.underlying3 h1
  obtain ⟨c, e2, _, w2⟩ := DataW.trod_int Try.underlying3 h2
  simp at e0 e1 e2
  subst e0; subst e1; subst e2
  obtain ⟨l, hl, hok, _⟩ := ops_of_cells h3
  exact ⟨s, b, c, v3, l, rfl, hl, ⟨bounds_i64 w0, bounds_i64 w1, bounds_i64 w2⟩, hok⟩
theorem weightsAll_mem {H : Type} {P : Program} {e : TypeId} {d : DataW H} {n : Nat} (hn : n ∈ d.weights P e) : ∀ {ds : List (DataW H)}, d ∈ ds → n ∈ DataW.weightsAll P e ds
  | a :: ds, h => by
    unfold DataW.weightsAll
    rcases List.mem_cons.1 h with rfl | h
    · exact List.mem_append_left _ hn
    · exact List.mem_append_right _ (weightsAll_mem hn h)
theorem txns_of_trod {H : Type} {enc : TypeId × Value → H} {W : World} {base : Nat} {v : Value} {d : DataW H} {p : List MemPlace}
    (hval : Value.okWide Try.prog W .any base 22 v) (h : DataW.Trod enc Try.prog W 0 (fun _ => true) true 22 v d p) (hwt : ∀ n ∈ DataW.weights Try.prog 22 d, n ≤ reachBytes) : ∃ l, Txns W v l ∧ (∀ t ∈ l, t.ok) ∧ ∀ t ∈ l, t.l.length ≤ 6000000000000 := by
  obtain ⟨a0, len, cap, rfl⟩ := okWide_slice Try.underlying22 hval
  obtain ⟨fuel, hf⟩ := h
  rcases open_slice Try.underlying22 hf with ⟨hcs, _⟩ | ⟨a, len', cap', m, n, D, Pl, hcs, _, hl, hm, hmm, hx, hi⟩
  · simp [Value.cells] at hcs
    obtain ⟨rfl, rfl, rfl⟩ := hcs
    exact ⟨[], ⟨⟨rfl, none, 0, rfl, by simp, (fun _ => ⟨rfl, rfl⟩), (fun h => by simp at h)⟩, by simp⟩, by simp, by simp⟩
  · simp [Value.cells] at hcs
    obtain ⟨rfl, rfl, rfl⟩ := hcs
    simp only [if_true] at hmm
    have key : ∀ i, ∃ t : TxnV, i < len → (t.ok ∧ t.l.length ≤ 6000000000000) ∧ Ops W t.v t.l ∧ W.cell? ((a.add (i * 4)).add 0) = some (.int .i64 t.s) ∧ W.cell? ((a.add (i * 4)).add 1) = some (.int .i64 t.b) ∧ W.cell? ((a.add (i * 4)).add 2) = some (.int .i64 t.c) ∧ W.cell? ((a.add (i * 4)).add 3) = some t.v := fun i => by
      by_cases hlt : i < len
      · obtain ⟨cs', hc, ht⟩ := hi i (by omega)
        rw [cellsTxn] at hc
        obtain ⟨_, hcl, hat⟩ := World.cells?_some hc
        obtain ⟨y0, y1, y2, y3, n', hy, _, h0, h1, h2, h3⟩ := Joins.trod_struct4 Try.underlying29 ht
        match cs', hcl with
        | [x0, x1, x2, x3], _ =>
          obtain ⟨s, e0, _, w0⟩ := DataW.trod_int Try.underlying3 h0
          obtain ⟨b, e1, _, w1⟩ := DataW.trod_int Try.underlying3 h1
          obtain ⟨c, e2, _, w2⟩ := DataW.trod_int Try.underlying3 h2
          have k1 : Try.prog.cellsOf 3 = 1 := by kernel_rfl
          have k3 : Try.prog.cellsOf 27 = 1 := by kernel_rfl
          simp [k1] at e0 e1 e2
          subst e0; subst e1; subst e2
          simp [k3] at h3
          obtain ⟨l, hlo, hok, hlw⟩ := ops_of_cells h3
          have hll := hlw (fun q hq => hwt q (by
            rw [show d = _ from congrArg Prod.fst hx]
            simp only [DataW.weights, Try.underlying22]
            refine List.mem_cons_of_mem _ (List.mem_append_left _ (weightsAll_mem (d := D i) ?_ (List.mem_map.2 ⟨i, List.mem_range.2 hlt, rfl⟩)))
            have hy1 := congrArg Prod.fst hy
            rw [show D i = _ from hy1]
            simp only [DataW.weights, Try.underlying29, DataW.weightsEach, List.map_cons, List.map_nil]
            simp [hq]))
          exact ⟨⟨s, b, c, x3, l⟩, fun _ => ⟨⟨⟨⟨bounds_i64 w0, bounds_i64 w1, bounds_i64 w2⟩, hok⟩, hll⟩, hlo, hat 0 (by omega), hat 1 (by omega), hat 2 (by omega), hat 3 (by omega)⟩⟩
      · exact ⟨⟨0, 0, 0, .nilIface, []⟩, fun h => absurd h hlt⟩
    obtain ⟨O, hO⟩ := Classical.skolem.1 key
    have hlen : ((List.range len).map O).length = len := by simp
    have hel : ∀ (i : Nat) (h : i < ((List.range len).map O).length), ((List.range len).map O)[i] = O i := fun i h => by simp
    refine ⟨(List.range len).map O, ⟨?_, ?_⟩, ?_, ?_⟩
    · generalize (List.range len).map O = l at *
      subst hlen
      refine ⟨txV_len l, some a, cap, rfl, ⟨hl, hm⟩, (fun h => by cases h), fun hn => ?_⟩
      obtain ⟨b, off, spot⟩ := a
      have hspot : spot = none := by
        have := (hO 0 hn).2.2.1
        simpa [Addr.add] using World.cell?_spot this
      subst hspot
      refine ⟨b, off, rfl, fun i hii => ?_⟩
      have hk : i / 4 < l.length := by omega
      obtain ⟨_, _, c0, c1, c2, c3⟩ := hO (i / 4) hk
      simp only [Addr.add_lit] at c0 c1 c2 c3
      obtain ⟨e0, e1, e2, e3⟩ := txV_at l (i / 4) hk
      rw [hel _ hk] at e0 e1 e2 e3
      have hm4 : i % 4 = 0 ∨ i % 4 = 1 ∨ i % 4 = 2 ∨ i % 4 = 3 := by omega
      rcases hm4 with h | h | h | h
      · rw [show i = i / 4 * 4 from by omega, e0, ← c0]; rfl
      · rw [show i = i / 4 * 4 + 1 from by omega, e1, ← c1, ← Nat.add_assoc]
      · rw [show i = i / 4 * 4 + 2 from by omega, e2, ← c2, ← Nat.add_assoc]
      · rw [show i = i / 4 * 4 + 3 from by omega, e3, ← c3, ← Nat.add_assoc]
    · intro t ht
      obtain ⟨i, hi2, rfl⟩ := List.mem_map.1 ht
      exact (hO i (List.mem_range.1 hi2)).2.1
    · intro t ht
      obtain ⟨i, hi2, rfl⟩ := List.mem_map.1 ht
      exact (hO i (List.mem_range.1 hi2)).1.1
    · intro t ht
      obtain ⟨i, hi2, rfl⟩ := List.mem_map.1 ht
      exact (hO i (List.mem_range.1 hi2)).1.2
end Go.Proofs.Ytlkdojcimlfmdaa
