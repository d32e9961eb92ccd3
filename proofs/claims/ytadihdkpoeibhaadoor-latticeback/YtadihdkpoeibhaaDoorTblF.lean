/- The walk of table.All: the rows of what each level implies. Conditions: the table of the levels lies where it is laid. -/
import Derived.Test.YtadihdkpoeibhaaDoorTblB
import Derived.Deep.MidRow
namespace Go.Proofs.YtadihdkpoeibhaaDoor
set_option maxRecDepth 100000
open Go.RowKit

/-- The cells of twelve rows; a block that holds them. -/
def tabV (R : Nat → Nat → Bool) : List Value := (List.range 144).map fun i => Value.bool (R (i / 12) (i % 12))
theorem tabV_len (R : Nat → Nat → Bool) : (tabV R).length = 144 := by simp [tabV]
theorem tabV_at (R : Nat → Nat → Bool) {i : Nat} (hi : i < 144) : (tabV R)[i]? = some (.bool (R (i / 12) (i % 12))) := by simp [tabV, hi]
def TblAt (w : World) (g : Nat) (R : Nat → Nat → Bool) : Prop := w.rangeAt g 0 (tabV R) ∧ w.there g 0 144
theorem TblAt.lt {w : World} {g : Nat} {R : Nat → Nat → Bool} (h : TblAt w g R) : g < w.heap.size := block_lt' (h.1 0 _ (tabV_at R (by omega)))
theorem TblAt.below {w w' : World} {g B : Nat} {R : Nat → Nat → Bool} (h : TblAt w g R) (hb : Below B w w') (hB : g < B) : TblAt w' g R :=
  ⟨fun j v hv => by rw [hb.cell (p := ⟨g, 0 + j, none⟩) hB]; exact h.1 j v hv, fun j hj => by rw [hb.cell (p := ⟨g, 0 + j, none⟩) hB, hb.frozen (p := ⟨g, 0 + j, none⟩) hB]; exact h.2 j hj⟩
def rowIn (R : Nat → Nat → Bool) (a : Nat) (r : Nat → Bool) : Nat → Nat → Bool := fun i j => if i = a then r j else R i j
theorem TblAt.there {w : World} {g : Nat} {R : Nat → Nat → Bool} (h : TblAt w g R) {a : Nat} (ha : a < 12) (r : Nat → Bool) : w.there g (a * 12) (rowB r).size := fun j hj => by
  rw [rowB_size] at hj
  have := h.2 (a * 12 + j) (by omega)
  simpa using this
theorem TblAt.store {w : World} {g : Nat} {R : Nat → Nat → Bool} (h : TblAt w g R) {a : Nat} (ha : a < 12) (r : Nat → Bool) : TblAt (w.setCells g (a * 12) (rowB r).toList) g (rowIn R a r) := by
  have hl : (rowB r).toList.length = 12 := by simp [rowB_size]
  have hth := h.there ha r
  rw [rowB_size] at hth
  refine ⟨fun j v hv => ?_, World.there_setCells h.2 _ _ _⟩
  have hj : j < 144 := by
    have := (List.getElem?_eq_some_iff.1 hv).1
    rwa [tabV_len] at this
  rw [tabV_at _ hj] at hv
  obtain rfl := Option.some.inj hv
  have hm : j % 12 < 12 := Nat.mod_lt _ (by omega)
  unfold rowIn
  by_cases e : j / 12 = a
  · rw [if_pos e]
    have hje : 0 + j = a * 12 + j % 12 := by omega
    rw [hje, World.cell?_setCells_in g (rowB r).toList (a * 12) w (fun i hi => (hth i (by omega)).1) (j % 12) (by omega)]
    have := rowB_at r hm
    rw [← Array.getElem?_toList, List.getElem?_eq_getElem (by omega)] at this
    exact this
  · rw [if_neg e, World.cell?_setCells_out g (rowB r).toList (a * 12) w ⟨g, 0 + j, none⟩ (fun _ _ => by simp only [hl]; omega)]
    exact h.1 j _ (tabV_at R hj)
theorem TblAt.apart {w : World} {g g' o : Nat} {R : Nat → Nat → Bool} (h : TblAt w g R) (hne : g ≠ g') (vs : List Value) : TblAt (w.setCells g' o vs) g R :=
  ⟨World.rangeAt_setCells_apart h.1 _ _ _ (.inl hne), World.there_setCells h.2 _ _ _⟩
theorem TblAt.alloc {w : World} {g : Nat} {R : Nat → Nat → Bool} (h : TblAt w g R) (o : Obj) : TblAt (w.alloc o) g R := h.below ((Below.refl w.heap.size w).alloc (Nat.le_refl _) o) h.lt
theorem TblAt.made (w : World) (R : Nat → Nat → Bool) (t : TypeId) {g : Nat} (hg : g = w.heap.size) : TblAt (w.alloc (.cells (tabV R).toArray t)) g R := by
  subst hg
  have hh := heap_alloc_new w (.cells (tabV R).toArray t)
  refine ⟨fun j v hv => ?_, fun j hj => ⟨?_, frozen_of_row _ _ _ _ _ hh⟩⟩
  · rw [cell_of_row _ _ _ _ _ _ hh]; simpa using hv
  · rw [cell_of_row _ _ _ _ _ _ hh, List.getElem?_toArray, Nat.zero_add, tabV_at R hj]; rfl
theorem below_setCells {B g : Nat} {W : World} (hg : B ≤ g) : ∀ (vs : List Value) (o : Nat) (w : World), Below B W w → Below B W (w.setCells g o vs)
  | [], _, _, h => h
  | v :: r, o, w, h => by rw [World.setCells]; exact below_setCells hg r (o + 1) _ (h.setCell hg v)
theorem TblAt.whole {w : World} {g : Nat} {R : Nat → Nat → Bool} (h : w.there g 0 144) : TblAt (w.setCells g 0 (tabV R)) g R :=
  ⟨World.rangeAt_setCells_same w g 0 _ (by rw [tabV_len]; exact h), World.there_setCells h _ _ _⟩
theorem wpList_store_part {ops : Array Oper} {rest : List Oper} {o : Oper} {a : Act} {w : World} {Q : Exit → Act → World → Prop} {g k : Nat} {S : Nat → Nat → Bool} (h : TblAt w g S) (hk : k < 12) (r : Nat → Bool) (hgd : o.guard = none) (x y : Operand) (ho : o.op = .store 25 x y)
    (hx : a.eval x = .pointer (some ⟨g, k * 12, none⟩)) (hy : a.eval y = .agg (rowB r)) (hn : wpList Tryd.prog ops Q rest (a.put o.dst undef) (w.setCells g (k * 12) (rowB r).toList)) : wpList Tryd.prog ops Q (o :: rest) a w :=
  wpList_store_mid hgd 25 x y ho g (k * 12) (rowB r) hx hy (h.there hk r) (infoRow' _) (rowB_one _) hn
def noT : Nat → Nat → Bool := fun _ _ => false
/-- The rows of the first k levels. -/
def allTo (k : Nat) : Nat → Nat → Bool := fun i j => if i < k then impB (i : Int) (j : Int) else false
theorem allTo_step (k : Nat) : tabV (rowIn (allTo k) k (blw [(k : Int)])) = tabV (allTo (k + 1)) := by
  unfold tabV
  apply List.map_congr_left
  intro i _
  unfold rowIn allTo blw
  by_cases e : i / 12 = k
  · rw [if_pos e, if_pos (by omega), e]; simp
  · rw [if_neg e]
    by_cases h2 : i / 12 < k
    · rw [if_pos h2, if_pos (by omega)]
    · rw [if_neg h2, if_neg (by omega)]
theorem TblAt.congr {w : World} {g : Nat} {R S : Nat → Nat → Bool} (h : TblAt w g R) (e : tabV R = tabV S) : TblAt w g S := by unfold TblAt at *; rw [← e]; exact h
end Go.Proofs.YtadihdkpoeibhaaDoor
