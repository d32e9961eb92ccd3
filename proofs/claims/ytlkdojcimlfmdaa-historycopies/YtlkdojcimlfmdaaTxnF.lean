/- A call's own slice of operations, sorted; the walk of what rises. Conditions: each operation of the map lies at its own key; there are at most 100000. -/
import Derived.Test.YtlkdojcimlfmdaaTxnE
namespace Go.Proofs.Ytlkdojcimlfmdaa
set_option maxRecDepth 100000
open Go.RowKit Go.Lib Go.Sort Go.Shelf

theorem flat_opV (l : List OpV) : flatK encO 3 l.toArray = (opV l).toArray := by
  apply Array.ext
  · simp [opV_len]
  · intro t h1 h2
    have ht : t < l.length * 3 := by simpa using h1
    have hk : t / 3 < l.length := by omega
    obtain ⟨e0, e1, e2⟩ := opV_at l (t / 3) hk
    have hx : l.toArray[t / 3]! = l[t / 3] := by simp [hk]
    have h3 : (flatK encO 3 l.toArray)[t]! = (encO l[t / 3])[t % 3]! := by rw [get_flatK _ _ _ t (by simpa using ht), hx]
    rw [← getElem!_pos _ t h1, h3]
    have hm3 : t % 3 = 0 ∨ t % 3 = 1 ∨ t % 3 = 2 := by omega
    have hr : ∀ x, (opV l)[t]? = some x → (opV l).toArray[t] = x := fun x hx => by
      have := List.getElem?_eq_some_iff.1 hx
      simpa using this.2
    rcases hm3 with h | h | h
    · rw [hr _ (by rw [show t = t / 3 * 3 from by omega]; exact e0), h]; rfl
    · rw [hr _ (by rw [show t = t / 3 * 3 + 1 from by omega]; exact e1), h]; rfl
    · rw [hr _ (by rw [show t = t / 3 * 3 + 2 from by omega]; exact e2), h]; rfl
theorem holds_cells {w : World} {g : Nat} {cur : Array Value} {e : TypeId} {cs : List Value} (hb : w.heap[g]? = some (.cells cur e (0, 0))) (ht : cur.toList.take cs.length = cs) : Holds id w g 0 cs.toArray := by
  intro j hj
  have hj' : j < cs.length := by simpa using hj
  refine ⟨?_, by simp [World.frozen?, hb]⟩
  have h1 : (cur.toList.take cs.length)[j]? = cs[j]? := by rw [ht]
  rw [List.getElem?_take_of_lt hj'] at h1
  simp only [World.cell?, hb, Nat.zero_add]
  simp only [Option.isSome_none, Bool.false_eq_true, if_false]
  rw [← Array.getElem?_toList, h1]
  simp [hj']
theorem heap_grown {w : World} {os : Array Obj} {k : Nat} (h : k < w.heap.size) : (grow w os).heap[k]? = w.heap[k]? := by
  show (w.heap ++ os)[k]? = _
  rw [Array.getElem?_append_left h]
theorem take_put (cur : Array Value) (cs : List Value) (h : cs.length ≤ cur.size) : (putCells id 0 cs.toArray cur).toList.take cs.length = cs := by
  apply List.ext_getElem?
  intro j
  by_cases hj : j < cs.length
  · rw [List.getElem?_take_of_lt hj, Array.getElem?_toList]
    simp [putCells, hj, show j < cur.size by omega]
  · rw [List.getElem?_take_eq_none (by omega), List.getElem?_eq_none (by omega)]
/-- What the sort leaves: the same slice owns what was sorted. -/
theorem own_sorted {w : World} {base g cap n : Nat} {os : Array Obj} {l ts : List OpV} (hl : ts.length = l.length) (h : Own w base (.slice (some ⟨g, 0, none⟩) l.length cap) l) :
    Own (sortWorldK encO 3 w g 0 n ts.toArray os) base (.slice (some ⟨g, 0, none⟩) l.length cap) ts ∧ w.grownBy (sortWorldK encO 3 w g 0 n ts.toArray os) (some g) := by
  obtain ⟨h1, h2⟩ := h
  rcases h2 with ⟨h2, _⟩ | ⟨g', cap', cur, e1, e2, hb, e3, e4, e5, e6⟩
  · cases h2
  cases e1
  have hg : g < w.heap.size := (Array.getElem?_eq_some_iff.1 hb).1
  have ew : sortWorldK encO 3 w g 0 n ts.toArray os = grow (putRow id (Sort.ahead w n) g 0 (opV ts).toArray) os := by
    unfold sortWorldK putRowK; rw [flat_opV]
  rw [ew]
  have hh : (grow (putRow id (Sort.ahead w n) g 0 (opV ts).toArray) os).heap[g]? = some (.cells (putCells id 0 (opV ts).toArray cur) 31 (0, 0)) := by
    rw [heap_grown (by simpa using hg)]
    simp [putRow, mapBlock, Sort.ahead, Array.getElem?_modify, hb, onCells]
  refine ⟨⟨by rw [opV_len], .inr ⟨g, cap, _, by rw [hl], e2, hh, by omega, e4, by simp [putCells, e5], ?_⟩⟩, rfl, rfl, rfl, by simp, fun k hk hne => ?_⟩
  · have := take_put cur (opV ts) (by rw [opV_len]; have := opV_len l; omega)
    rwa [opV_len] at this
  · rw [heap_grown (by simpa using hk)]
    have : g ≠ k := fun e => hne (by rw [e])
    simp [putRow, mapBlock, Sort.ahead, Array.getElem?_modify, this]
theorem own_holds {w : World} {base g cap : Nat} {l : List OpV} (h : Own w base (.slice (some ⟨g, 0, none⟩) l.length cap) l) : HoldsK encO 3 w g 0 l.toArray ∧ g < w.heap.size ∧ base ≤ g := by
  obtain ⟨h1, h2⟩ := h
  rcases h2 with ⟨h2, _⟩ | ⟨g', cap', cur, e1, e2, hb, e3, e4, e5, e6⟩
  · cases h2
  cases e1
  refine ⟨?_, (Array.getElem?_eq_some_iff.1 hb).1, e2⟩
  show Holds id w g 0 _
  rw [flat_opV]
  exact holds_cells hb (by rw [opV_len]; exact e6)
theorem extract_all {α : Type} (d : Array α) : (d.extract 0 d.size).toList = d.toList := by simp
theorem sort_rise {f : Int → Option OpV} {wr : Bool} {acc : List OpV} {d' : Array OpV} (hm : ∀ o, o ∈ acc ↔ (f o.key = some o ∧ o.wr = wr)) (hnd : acc.Pairwise (fun a b => a.key ≠ b.key))
    (hp : PermIn 0 acc.toArray.size acc.toArray d') (hs : SortedIn (ltOf cmpO) 0 acc.toArray.size d') : d'.toList.length = acc.length ∧ Rise f wr d'.toList := by
  obtain ⟨hsz, _, hperm⟩ := hp
  have hp2 : d'.toList.Perm acc := by
    rw [← hsz] at hperm
    rw [extract_all] at hperm
    rw [show (acc.toArray.extract 0 d'.size).toList = acc from by rw [hsz]; simp] at hperm
    exact hperm
  have hlen : d'.toList.length = acc.length := hp2.length_eq
  refine ⟨hlen, ?_, fun o => hp2.mem_iff.trans (hm o)⟩
  have hnd' : d'.toList.Pairwise (fun a b => a.key ≠ b.key) := (hp2.pairwise_iff (fun {a b} h => Ne.symm h)).2 hnd
  rw [List.pairwise_iff_getElem] at hnd' ⊢
  intro i j hi hj hij
  have h1 := hnd' i j hi hj hij
  have hj' : j < d'.size := by simpa using hj
  have hi' : i < d'.size := by simpa using hi
  have h2 := hs i j (Nat.zero_le _) hij (by rw [← hsz]; exact hj')
  rw [cmp_lt, getElem!_pos d' i hi', getElem!_pos d' j hj'] at h2
  have h3 : ¬ d'[j].key < d'[i].key := by simpa using h2
  simp only [Array.getElem_toList] at h1 ⊢
  omega
/-- What was collected of a map so far. -/
def Got (f : Int → Option OpV) (wr : Bool) (left : Int → Bool) (acc : List OpV) : Prop :=
  acc.Pairwise (fun a b => a.key ≠ b.key) ∧ ∀ o, o ∈ acc ↔ (f o.key = some o ∧ o.wr = wr ∧ left o.key = false)
theorem Got.start (f : Int → Option OpV) (wr : Bool) : Got f wr (fun x => (f x).isSome) [] := by
  refine ⟨List.Pairwise.nil, fun o => ⟨fun h => (by cases h), fun ⟨h1, _, h3⟩ => ?_⟩⟩
  simp only [h1, Option.isSome_some] at h3; cases h3
theorem Got.yes {f : Int → Option OpV} {wr : Bool} {left : Int → Bool} {acc : List OpV} (h : Got f wr left acc) {u : OpV} (hl : left u.key = true) (hu : f u.key = some u) (hw : u.wr = wr) :
    Got f wr (fun y => left y && !decide (y = u.key)) (acc ++ [u]) := by
  obtain ⟨h1, h2⟩ := h
  refine ⟨List.pairwise_append.2 ⟨h1, by simp, fun a ha b hb => ?_⟩, fun o => ?_⟩
  · simp at hb; subst hb
    have := (h2 a).1 ha
    intro e
    rw [e, hl] at this
    cases this.2.2
  · rw [List.mem_append, h2 o]
    simp only [List.mem_singleton, Bool.and_eq_false_iff, Bool.not_eq_false', decide_eq_true_eq]
    constructor
    · rintro (⟨e1, e2, e3⟩ | rfl)
      · exact ⟨e1, e2, .inl e3⟩
      · exact ⟨hu, hw, .inr rfl⟩
    · rintro ⟨e1, e2, e3 | e3⟩
      · exact .inl ⟨e1, e2, e3⟩
      · rw [e3, hu] at e1; exact .inr (Option.some.inj e1).symm
theorem Got.no {f : Int → Option OpV} {wr : Bool} {left : Int → Bool} {acc : List OpV} (h : Got f wr left acc) {u : OpV} (hu : f u.key = some u) (hw : ¬ u.wr = wr) :
    Got f wr (fun y => left y && !decide (y = u.key)) acc := by
  obtain ⟨h1, h2⟩ := h
  refine ⟨h1, fun o => ?_⟩
  rw [h2 o]
  simp only [Bool.and_eq_false_iff, Bool.not_eq_false', decide_eq_true_eq]
  constructor
  · rintro ⟨e1, e2, e3⟩; exact ⟨e1, e2, .inl e3⟩
  · rintro ⟨e1, e2, e3 | e3⟩
    · exact ⟨e1, e2, e3⟩
    · rw [e3, hu] at e1
      cases e1; exact absurd e2 hw
end Go.Proofs.Ytlkdojcimlfmdaa
