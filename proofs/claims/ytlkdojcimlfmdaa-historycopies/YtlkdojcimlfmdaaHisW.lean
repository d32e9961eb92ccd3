/- Plain facts of a copy that is changed at one place. Conditions: none. -/
import Derived.Test.YtlkdojcimlfmdaaHisV
import Derived.Test.YtlkdojcimlfmdaaHisQ
namespace Go.Proofs.Ytlkdojcimlfmdaa
set_option maxRecDepth 100000
open Go.RowKit

theorem txV_set0 : ∀ (l : List TxnV) (k : Nat) (hk : k < l.length) (z : Int), txV (l.set k ⟨z, l[k].b, l[k].c, l[k].v, l[k].l⟩) = (txV l).set (k * 4) (.int .i64 z)
  | a :: l, 0, _, z => rfl
  | a :: l, k + 1, hk, z => by
    have ih := txV_set0 l k (by simpa using hk) z
    rw [show (k + 1) * 4 = k * 4 + 1 + 1 + 1 + 1 from by omega]
    show txV (a :: l.set k _) = (Value.int .i64 a.s :: .int .i64 a.b :: .int .i64 a.c :: a.v :: txV l).set _ _
    simp only [List.set_cons_succ]
    rw [← ih]; rfl
theorem txV_set2 : ∀ (l : List TxnV) (k : Nat) (hk : k < l.length) (z : Int), txV (l.set k ⟨l[k].s, l[k].b, z, l[k].v, l[k].l⟩) = (txV l).set (k * 4 + 2) (.int .i64 z)
  | a :: l, 0, _, z => rfl
  | a :: l, k + 1, hk, z => by
    have ih := txV_set2 l k (by simpa using hk) z
    rw [show (k + 1) * 4 + 2 = (k * 4 + 2) + 1 + 1 + 1 + 1 from by omega]
    show txV (a :: l.set k _) = (Value.int .i64 a.s :: .int .i64 a.b :: .int .i64 a.c :: a.v :: txV l).set _ _
    simp only [List.set_cons_succ]
    rw [← ih]; rfl
theorem txV_set3 : ∀ (l : List TxnV) (k : Nat) (hk : k < l.length) (v : Value) (m : List OpV), txV (l.set k ⟨l[k].s, l[k].b, l[k].c, v, m⟩) = (txV l).set (k * 4 + 3) v
  | a :: l, 0, _, v, m => rfl
  | a :: l, k + 1, hk, v, m => by
    have ih := txV_set3 l k (by simpa using hk) v m
    rw [show (k + 1) * 4 + 3 = (k * 4 + 3) + 1 + 1 + 1 + 1 from by omega]
    show txV (a :: l.set k _) = (Value.int .i64 a.s :: .int .i64 a.b :: .int .i64 a.c :: a.v :: txV l).set _ _
    simp only [List.set_cons_succ]
    rw [← ih]; rfl
theorem txV_setL : ∀ (l : List TxnV) (k : Nat) (hk : k < l.length) (m : List OpV), txV (l.set k ⟨l[k].s, l[k].b, l[k].c, l[k].v, m⟩) = txV l
  | a :: l, 0, _, m => rfl
  | a :: l, k + 1, hk, m => by
    have ih := txV_setL l k (by simpa using hk) m
    exact congrArg (fun r => Value.int .i64 a.s :: .int .i64 a.b :: .int .i64 a.c :: a.v :: r) ih
theorem apart_at {c : List TxnV} (h : c.Pairwise ApartT) {i j : Nat} (hi : i < c.length) (hj : j < c.length) (hne : j ≠ i) : c[j].v.ownBlock = none ∨ c[j].v.ownBlock ≠ c[i].v.ownBlock := by
  cases hb : c[j].v.ownBlock with
  | none => exact .inl rfl
  | some b =>
    refine .inr (fun e => ?_)
    rw [List.pairwise_iff_getElem] at h
    rcases Nat.lt_or_gt_of_ne hne with hlt | hlt
    · exact h j i hj hi hlt b hb e.symm
    · exact h i j hi hj hlt b e.symm hb
theorem CopyOf.below {w w' : World} {base : Nat} {v : Value} {c : List TxnV} (h : CopyOf w base v c) (hb : Below w.heap.size w w') : CopyOf w' base v c := by
  obtain ⟨b2, h1, h2, h3, h4, h5⟩ := h
  exact ⟨b2, ⟨h1.1, Nat.le_trans h1.2 hb.size⟩, h2.below hb, h3, fun t ht => (h4 t ht).below hb, h5⟩
theorem CopyOf.far {w w' : World} {base : Nat} {v : Value} {c : List TxnV} {row : Option Nat} (h : CopyOf w base v c) (hg : w.grownBy w' row) (hr : ∀ b, row = some b → b < base) : CopyOf w' base v c := by
  obtain ⟨b2, h1, h2, h3, h4, h5⟩ := h
  have far : ∀ (v : Value) (B : Nat), base ≤ B → (∀ b, v.ownBlock = some b → B ≤ b) → v.ownBlock = none ∨ v.ownBlock ≠ row := fun v B hB hv => by
    cases hb : v.ownBlock with
    | none => exact .inl rfl
    | some b =>
      refine .inr (fun e => ?_)
      have := hr b e.symm
      have := hv b hb
      omega
  exact ⟨b2, ⟨h1.1, Nat.le_trans h1.2 hg.size⟩, World.ownsRow.kept h2 hg (far _ base (Nat.le_refl _) (fun b hb => (World.ownsRow.lt h2 b hb).1)), h3, fun t ht => World.ownsRow.kept (h4 t ht) hg (far _ b2 h1.1 (fun b hb => (World.ownsRow.lt (h4 t ht) b hb).1)), h5⟩
theorem CopyOf.blocks {w : World} {base : Nat} {v : Value} {c : List TxnV} (h : CopyOf w base v c) : (∀ b, v.ownBlock = some b → base ≤ b ∧ b < w.heap.size) ∧ ∀ t ∈ c, ∀ b, t.v.ownBlock = some b → base ≤ b ∧ b < w.heap.size := by
  obtain ⟨b2, h1, h2, h3, h4, h5⟩ := h
  exact ⟨fun b hb => World.ownsRow.lt h2 b hb, fun t ht b hb => ⟨Nat.le_trans h1.1 (World.ownsRow.lt (h4 t ht) b hb).1, (World.ownsRow.lt (h4 t ht) b hb).2⟩⟩
theorem CopyOf.cells {w : World} {base g cap : Nat} {c : List TxnV} (h : CopyOf w base (.slice (some ⟨g, 0, none⟩) c.length cap) c) {i : Nat} (hi : i < c.length) :
    (w.cell? ⟨g, i * 4, none⟩ = some (.int .i64 c[i].s) ∧ w.frozen? ⟨g, i * 4, none⟩ = false) ∧ (w.cell? ⟨g, i * 4 + 2, none⟩ = some (.int .i64 c[i].c) ∧ w.frozen? ⟨g, i * 4 + 2, none⟩ = false) ∧ (w.cell? ⟨g, i * 4 + 3, none⟩ = some c[i].v ∧ w.frozen? ⟨g, i * 4 + 3, none⟩ = false) := by
  obtain ⟨b2, h1, h2, h3, h4, h5⟩ := h
  obtain ⟨q0, _, q2, q3⟩ := txV_at c i hi
  exact ⟨⟨(h2.at (by omega)).1.trans q0, (h2.at (by omega)).2⟩, ⟨(h2.at (by omega)).1.trans q2, (h2.at (by omega)).2⟩, ⟨(h2.at (by omega)).1.trans q3, (h2.at (by omega)).2⟩⟩
theorem CopyOf.own {w : World} {base g cap : Nat} {c : List TxnV} (h : CopyOf w base (.slice (some ⟨g, 0, none⟩) c.length cap) c) {i : Nat} (hi : i < c.length) : ∃ b2, (g < b2 ∧ b2 ≤ w.heap.size) ∧ Own w b2 c[i].v c[i].l := by
  obtain ⟨b2, h1, h2, h3, h4, h5⟩ := h
  exact ⟨b2, ⟨h3 g rfl, h1.2⟩, h4 _ (List.getElem_mem hi)⟩
theorem CopyOf.split {w : World} {base : Nat} {v : Value} {c : List TxnV} (h : CopyOf w base v c) (hn : 0 < c.length) : ∃ g cap, v = .slice (some ⟨g, 0, none⟩) c.length cap := by
  obtain ⟨b2, h1, h2, _⟩ := h
  rcases h2.split with ⟨_, rfl⟩ | ⟨g, cap, e, _⟩
  · simp at hn
  · exact ⟨g, cap, e⟩
theorem CopyOf.txns {w : World} {base : Nat} {v : Value} {c : List TxnV} (h : CopyOf w base v c) : Txns w v c := by
  obtain ⟨b2, h1, h2, h3, h4, h5⟩ := h
  exact ⟨h2.row, fun t ht => (h4 t ht).ops⟩
theorem mem_set {c : List TxnV} {i : Nat} {t' t : TxnV} (ht : t ∈ c.set i t') : t = t' ∨ ∃ j, ∃ hj : j < c.length, j ≠ i ∧ t = c[j] := by
  obtain ⟨j, hj, e⟩ := List.mem_iff_getElem.1 ht
  rw [List.length_set] at hj
  rw [List.getElem_set] at e
  split at e
  · exact .inl e.symm
  · rename_i hne
    exact .inr ⟨j, hj, fun h => hne h.symm, e.symm⟩
theorem set_ne {c h : List TxnV} (hc : c.map txE = h.map txE) {i : Nat} (hi : i < c.length) {t' : TxnV} (hne : txE t' ≠ txE c[i]) : sameH (c.set i t') h = false ∧ sameH h (c.set i t') = false := by
  have key : (c.set i t').map txE ≠ h.map txE := fun e => by
    rw [← hc] at e
    have : ((c.set i t').map txE)[i]? = (c.map txE)[i]? := by rw [e]
    simp [hi] at this
    exact hne this
  unfold sameH
  exact ⟨decide_eq_false key, decide_eq_false (fun e => key e.symm)⟩
theorem wrap_ne (s : Int) : wrap64 (s + 1) ≠ s := by unfold wrap64; omega
/-- Of a copy whose row or one number was changed. -/
theorem copy_num {w : World} {base g cap : Nat} {c : List TxnV} (h : CopyOf w base (.slice (some ⟨g, 0, none⟩) c.length cap) c) {i j : Nat} (hi : i < c.length) {t' : TxnV} (hv : t'.v = c[i].v) (hl : t'.l = c[i].l) {u : Value} (hx : txV (c.set i t') = (txV c).set j u) :
    Txns (w.setCell ⟨g, j, none⟩ u) (.slice (some ⟨g, 0, none⟩) c.length cap) (c.set i t') := by
  obtain ⟨b2, h1, h2, h3, h4, h5⟩ := h
  have hg := grown_setC w ⟨g, j, none⟩ u
  have hgb := h3 g rfl
  have hk : ∀ t ∈ c, Ops (w.setCell ⟨g, j, none⟩ u) t.v t.l := fun t ht => Own.ops (World.ownsRow.kept (h4 t ht) hg (.inr (fun e => by
    have := (World.ownsRow.lt (h4 t ht) g e).1
    omega)))
  have := OwnT.setCell h2 (by simp) hx
  refine ⟨by simpa using this.row, fun t ht => ?_⟩
  rcases mem_set ht with rfl | ⟨k, hk1, _, rfl⟩
  · rw [hv, hl]; exact hk _ (List.getElem_mem hi)
  · exact hk _ (List.getElem_mem hk1)
/-- Of a copy of which one transaction's operations were changed in place. -/
theorem copy_in {w w' : World} {base g cap : Nat} {c : List TxnV} (h : CopyOf w base (.slice (some ⟨g, 0, none⟩) c.length cap) c) {i : Nat} (hi : i < c.length) {l' : List OpV} (hg : w.grownBy w' c[i].v.ownBlock) (hn : Ops w' c[i].v l') :
    Txns w' (.slice (some ⟨g, 0, none⟩) c.length cap) (c.set i ⟨c[i].s, c[i].b, c[i].c, c[i].v, l'⟩) := by
  obtain ⟨b2, h1, h2, h3, h4, h5⟩ := h
  have hgb := h3 g rfl
  refine ⟨?_, fun t ht => ?_⟩
  · rw [txV_setL _ _ hi, List.length_set]
    refine OwnT.row (World.ownsRow.kept h2 hg (.inr (fun e => ?_)))
    have := (World.ownsRow.lt (h4 _ (List.getElem_mem hi)) g e.symm).1
    omega
  · rcases mem_set ht with rfl | ⟨k, hk1, hne, rfl⟩
    · exact hn
    · exact Own.ops (World.ownsRow.kept (h4 _ (List.getElem_mem hk1)) hg (apart_at h5 hi hk1 hne))
/-- Of a copy of which one transaction's operations were appended to, and stored. -/
theorem copy_app {w w1 : World} {base g cap : Nat} {c : List TxnV} (h : CopyOf w base (.slice (some ⟨g, 0, none⟩) c.length cap) c) {i : Nat} (hi : i < c.length) {v' : Value} {l' : List OpV} (hg : w.grownBy w1 c[i].v.ownBlock) (hn : ∃ B, g < B ∧ Own w1 B v' l') :
    Txns (w1.setCell ⟨g, i * 4 + 3, none⟩ v') (.slice (some ⟨g, 0, none⟩) c.length cap) (c.set i ⟨c[i].s, c[i].b, c[i].c, v', l'⟩) := by
  obtain ⟨b2, h1, h2, h3, h4, h5⟩ := h
  obtain ⟨B, hB, hn⟩ := hn
  have hgb := h3 g rfl
  have hg2 := grown_setC w1 ⟨g, i * 4 + 3, none⟩ v'
  have h2' : OwnT w1 base (.slice (some ⟨g, 0, none⟩) c.length cap) c := World.ownsRow.kept h2 hg (.inr (fun e => by
    have := (World.ownsRow.lt (h4 _ (List.getElem_mem hi)) g e.symm).1
    omega))
  refine ⟨?_, fun t ht => ?_⟩
  · have := OwnT.setCell h2' (h' := c.set i ⟨c[i].s, c[i].b, c[i].c, v', l'⟩) (by simp) (txV_set3 c i hi v' l')
    simpa using this.row
  · rcases mem_set ht with rfl | ⟨k, hk1, hne, rfl⟩
    · refine Own.ops (World.ownsRow.kept hn hg2 (.inr (fun e => ?_)))
      have := (World.ownsRow.lt hn g e).1
      omega
    · have hk2 := World.ownsRow.kept (h4 _ (List.getElem_mem hk1)) hg (apart_at h5 hi hk1 hne)
      refine Own.ops (World.ownsRow.kept hk2 hg2 (.inr (fun e => ?_)))
      have := (World.ownsRow.lt hk2 g e).1
      omega
theorem opV_setV : ∀ (l : List OpV) (k : Nat) (hk : k < l.length) (z : Int), opV (l.set k ⟨l[k].wr, l[k].key, z⟩) = (opV l).set (k * 3 + 2) (.int .i64 z)
  | a :: l, 0, _, z => rfl
  | a :: l, k + 1, hk, z => by
    have ih := opV_setV l k (by simpa using hk) z
    rw [show (k + 1) * 3 + 2 = (k * 3 + 2) + 1 + 1 + 1 from by omega]
    show opV (a :: l.set k _) = (Value.bool a.wr :: .int .i64 a.key :: .int .i64 a.val :: opV l).set _ _
    simp only [List.set_cons_succ]
    rw [← ih]; rfl
theorem Own.setVal {w : World} {base g cap : Nat} {l : List OpV} (h : Own w base (.slice (some ⟨g, 0, none⟩) l.length cap) l) {k : Nat} (hk : k < l.length) (z : Int) :
    Own (w.setCell ⟨g, k * 3 + 2, none⟩ (.int .i64 z)) base (.slice (some ⟨g, 0, none⟩) l.length cap) (l.set k ⟨l[k].wr, l[k].key, z⟩) := by
  obtain ⟨h1, h2⟩ := h
  rcases h2 with ⟨h2, _⟩ | ⟨g', cap', cur, e1, e2, hb, e3, e4, e5, e6⟩
  · cases h2
  cases e1
  refine ⟨by rw [opV_len], .inr ⟨g, cap, cur.setIfInBounds (k * 3 + 2) (.int .i64 z), by rw [List.length_set], e2, ?_, by rw [List.length_set]; exact e3, e4, by simpa using e5, ?_⟩⟩
  · rw [Sort.setCell_eq]
    simp [Sort.mapBlock, Array.getElem?_modify, hb, Sort.onCells]
  · rw [List.length_set, Array.toList_setIfInBounds, List.take_set, e6, opV_setV l k hk z]
/-- What Same says of what was changed, of the other copy, and of less. -/
def SameFin (wz : World) (vc va vd vt : Value) : Prop := ∀ wx, Below wz.heap.size wz wx →
    (Calls Try.prog 10 #[vc, va] wx fun e w' => e = .returned (.bool false) ∧ Below wx.heap.size wx w') ∧
    (Calls Try.prog 10 #[va, vc] wx fun e w' => e = .returned (.bool false) ∧ Below wx.heap.size wx w') ∧
    (Calls Try.prog 10 #[vd, va] wx fun e w' => e = .returned (.bool true) ∧ Below wx.heap.size wx w') ∧
    (Calls Try.prog 10 #[va, vt] wx fun e w' => e = .returned (.bool false) ∧ Below wx.heap.size wx w')
theorem fin_of {wz : World} {vc vd : Value} {ao : Option Addr} {n cap k : Nat} {h c d : List TxnV} (hc : Txns wz vc c) (ha : Txns wz (.slice ao n cap) h) (hd : Txns wz vd d) (h1 : sameH c h = false) (h2 : sameH h c = false) (h3 : d.map txE = h.map txE) (hk : k < h.length) : SameFin wz vc (.slice ao n cap) vd (.slice ao k cap) := by
  intro wx hx
  have e1 := sameH_any _ _ c h wx (hc.below hx) (ha.below hx)
  have e2 := sameH_any _ _ h c wx (ha.below hx) (hc.below hx)
  have e3 := sameH_any _ _ d h wx (hd.below hx) (ha.below hx)
  have e4 := sameH_any _ _ h (h.take k) wx (ha.below hx) ((ha.below hx).take (Nat.le_of_lt hk))
  rw [h1] at e1
  rw [h2] at e2
  rw [show sameH d h = true from decide_eq_true h3] at e3
  rw [sameH_len (by rw [List.length_take]; omega)] at e4
  exact ⟨e1, e2, e3, e4⟩
end Go.Proofs.Ytlkdojcimlfmdaa
